import PyProof.Rows.All
import Wide.All
import OpenK.AllK
import Wide.FinOn
import HandS.ForMost
import HandS.WordsExc
import HandS.ExcInit
import HandS.IsInst
import HandS.Wide
import HandS.TupAny
import HandS.TupMul
import HandS.TryOnly
import HandS.ExcField
import HandS.Style
import HandS.SetFor
import HandS.Small
import HandS.ExcIs
import KE.KExcIs
import KE.DataEq
import KE.Datum
import PyProof.EqKinds
import HandS.WideBits
import HandS.Dict
import HandS.More
import HandS.Conv
import HandS.SortInts
import HandS.Iter
import KE.GoesMore
import KE.GoesEnum
import HandS.Strs
import HandS.WrittenGet
import HandS.NamedTupSort
import HandS.TupSets
import PyProof.TupleOfSeq
import HandS.Text
import HandS.Steps
import HandS.Star
import PyProof.Rows.StrSplitCount
import PySem.Challenge.RW_threecopies_k53_whole_texts_of_runs
set_option Elab.async false
set_option linter.all false
set_option maxRecDepth 100000
set_option maxHeartbeats 4000000
/-! Dy: data with trees in the place of addresses. -/
namespace Dy
open PySem PySem.Spec PyProof.Rows L2

/-- a value as a tree; exo: a caught error at a, its own dict at d; lst, dic: a list, a dict that is never changed any more; ref: the n-th object that may change -/
inductive D where
  | non | bl (b : Bool) | int (i : Int) | str (x : Str) | ty (n : String)
  | tup (xs : List D) | lst (xs : List D) | frz (xs : List D) | dic (ks : List Key) (xs : List D) | ref (n : Nat) | cls (C : Addr)
  | exo (a d : Addr) (ks : List Str) (xs : List D)

/-- l: the objects that may change; b: lists that are being made -/
structure Al where
  l : List Addr
  b : List Addr
abbrev Al.push (φ : Al) (p : Addr) : Al := ⟨φ.l ++ [p], φ.b⟩
/-- a list that is read and never changed -/
def LsF (φ : Al) (H : Hp) (a : Addr) (vs : List V) : Prop := H a = some (.lst vs) ∧ a ∉ φ.l ∧ a ∉ φ.b
/-- a list that nobody can change: the script, a constant of the module -/
def FrF (K : PySem.W.Frag) (H : Hp) (a : Addr) (vs : List V) : Prop := (∃ o, H a = some (.frz o (.lst vs))) ∨ SqL K (fun _ => none) a vs
def DcF (φ : Al) (H : Hp) (a : Addr) (kvs : List (Key × V)) : Prop := H a = some (.dK kvs) ∧ a ∉ φ.l ∧ a ∉ φ.b
mutual
def RD (K : PySem.W.Frag) (φ : Al) (H : Hp) : D → V → Prop
  | .non, v => v = .non
  | .bl b, v => v = .bl b
  | .int i, v => v = .int i
  | .str x, v => v = .str x
  | .ty n, v => v = .ty n
  | .tup xs, v => ∃ a vs, v = .ref a ∧ SqT K H a vs ∧ RDs K φ H xs vs
  | .lst xs, v => ∃ a vs, v = .ref a ∧ LsF φ H a vs ∧ RDs K φ H xs vs
  | .frz xs, v => ∃ a vs, v = .ref a ∧ FrF K H a vs ∧ RDs K φ H xs vs
  | .dic ks xs, v => ∃ a vs, v = .ref a ∧ DcF φ H a (ks.zip vs) ∧ ks.length = vs.length ∧ RDs K φ H xs vs
  | .ref n, v => ∃ a, v = .ref a ∧ φ.l[n]? = some a
  | .cls C, v => v = .ref C
  | .exo a d ks xs, v => ∃ vs, v = .ref a ∧ H d = some (.xd (ks.zip vs)) ∧ ks.length = vs.length ∧ RDs K φ H xs vs
def RDs (K : PySem.W.Frag) (φ : Al) (H : Hp) : List D → List V → Prop
  | [], vs => vs = []
  | x :: xs, vs => ∃ v r, vs = v :: r ∧ RD K φ H x v ∧ RDs K φ H xs r
end
/-- from one state to a later one, but for what is being made -/
structure StepW (φ φ' : Al) (H H' : Hp) : Prop where
  pre : ∃ ψ, φ'.l = φ.l ++ ψ
  bs : ∀ a, a ∈ φ'.b → a ∉ φ.b → a ∉ φ.l → H a = none
  keep : ∀ a o, H a = some o → a ∉ φ.l → a ∉ φ.b → H' a = some o
  new : ∀ a, a ∈ φ'.l → a ∉ φ.l → a ∉ φ.b → H a = none
/-- from one state to a later one -/
structure Step (φ φ' : Al) (H H' : Hp) : Prop where
  pre : ∃ ψ, φ'.l = φ.l ++ ψ
  bs : ∀ a, a ∈ φ'.b → a ∉ φ.b → a ∉ φ.l → H a = none
  sub : ∀ a, a ∈ φ.b → a ∈ φ'.b
  keep : ∀ a o, H a = some o → a ∉ φ.l → H' a = some o
  new : ∀ a, a ∈ φ'.l → a ∉ φ.l → H a = none
def Muts (φ : Al) (H : Hp) : Prop := ∀ a, a ∈ φ.l → Mut (H a)
def MutB (φ : Al) (H : Hp) : Prop := ∀ a, a ∈ φ.b → (∃ xs, H a = some (.lst xs)) ∨ ∃ kvs, H a = some (.dK kvs)
section
variable {K : PySem.W.Frag} {φ φ' φ1 φ2 : Al} {H H' H1 H2 : Hp}
theorem Step.w (s : Step φ φ' H H') : StepW φ φ' H H' := ⟨s.pre, s.bs, fun a o h n _ => s.keep a o h n, fun a m n _ => s.new a m n⟩
theorem Step.refl : Step φ φ H H := ⟨⟨[], by simp⟩, fun _ h n _ => absurd h n, fun _ h => h, fun _ _ h _ => h, fun _ h n => absurd h n⟩
theorem Step.mem (s : Step φ φ' H H') {a : Addr} (h : a ∈ φ.l) : a ∈ φ'.l := by
  obtain ⟨ψ, e⟩ := s.pre
  rw [e]
  exact List.mem_append_left _ h
theorem Step.trans (s : Step φ φ1 H H1) (t : Step φ1 φ2 H1 H2) : Step φ φ2 H H2 := by
  refine ⟨?_, fun a h n nl => ?_, fun a h => t.sub a (s.sub a h), fun a o h n => ?_, fun a h n => ?_⟩
  · obtain ⟨ψ, e⟩ := s.pre
    obtain ⟨χ, e2⟩ := t.pre
    exact ⟨ψ ++ χ, by rw [e2, e]; simp⟩
  · by_cases m : a ∈ φ1.b
    · exact s.bs a m n nl
    · by_cases ml : a ∈ φ1.l
      · exact s.new a ml nl
      · have q := t.bs a h m ml
        cases e : H a with
        | none => rfl
        | some o => rw [s.keep a o e nl] at q; cases q
  · refine t.keep a o (s.keep a o h n) fun m => ?_
    have := s.new a m n
    rw [this] at h; cases h
  · by_cases m : a ∈ φ1.l
    · exact s.new a m n
    · have q := t.new a h m
      cases e : H a with
      | none => rfl
      | some o => rw [s.keep a o e n] at q; cases q
theorem StepW.at (s : StepW φ φ' H H') {n : Nat} {a : Addr} (h : φ.l[n]? = some a) : φ'.l[n]? = some a := by
  obtain ⟨ψ, e⟩ := s.pre
  rw [e]
  exact List.getElem?_append_left (List.getElem?_eq_some_iff.mp h).1 |>.trans h
theorem Step.at (s : Step φ φ' H H') {n : Nat} {a : Addr} (h : φ.l[n]? = some a) : φ'.l[n]? = some a := s.w.at h
theorem StepW.rd (s : StepW φ φ' H H') {a : Addr} {u : HO} (h : Rd H a u) (nm : a ∉ φ.l) (nb : a ∉ φ.b) : Rd H' a u := by
  rcases h with h | ⟨o, h⟩
  · exact .inl (s.keep _ _ h nm nb)
  · exact .inr ⟨o, s.keep _ _ h nm nb⟩
theorem Muts.tup (M : Muts φ H) {a : Addr} {xs : List V} (h : Rd H a (.tup xs)) : a ∉ φ.l := fun m => by
  have q := M a m
  rcases h with h | ⟨o, h⟩ <;> rw [h] at q <;> exact q
theorem MutB.tup (M : MutB φ H) {a : Addr} {xs : List V} (h : Rd H a (.tup xs)) : a ∉ φ.b := fun m => by
  rcases M a m with ⟨ys, q⟩ | ⟨ys, q⟩ <;> rcases h with h | ⟨o, h⟩ <;> rw [h] at q <;> cases q
theorem StepW.sqT (s : StepW φ φ' H H') (M : Muts φ H) (N : MutB φ H) {a : Addr} {xs : List V} (h : SqT K H a xs) : SqT K H' a xs := by
  rcases h with h | h
  · exact .inl (s.rd h (M.tup h) (N.tup h))
  · exact .inr h
theorem sqL_k {a : Addr} {xs : List V} (h : SqL K (fun _ => none) a xs) : SqL K H a xs := by
  rcases h with (h | ⟨_, h⟩) | h
  · cases h
  · cases h
  · exact .inr h
theorem LsF.sq {a : Addr} {xs : List V} (h : LsF φ H a xs) : SqL K H a xs := .inl (.inl h.1)
theorem FrF.sq {a : Addr} {xs : List V} (h : FrF K H a xs) : SqL K H a xs := by
  rcases h with ⟨o, h⟩ | h
  · exact .inl (.inr ⟨o, h⟩)
  · exact sqL_k h
theorem StepW.out (s : StepW φ φ' H H') {a : Addr} {o : HO} (h : H a = some o) (n : a ∉ φ.l) (nb : a ∉ φ.b) : a ∉ φ'.l := fun m => by
  rw [s.new a m n nb] at h; cases h
theorem StepW.outb (s : StepW φ φ' H H') {a : Addr} {o : HO} (h : H a = some o) (nl : a ∉ φ.l) (n : a ∉ φ.b) : a ∉ φ'.b := fun m => by
  rw [s.bs a m n nl] at h; cases h
theorem StepW.lsF (s : StepW φ φ' H H') {a : Addr} {xs : List V} (h : LsF φ H a xs) : LsF φ' H' a xs := ⟨s.keep _ _ h.1 h.2.1 h.2.2, s.out h.1 h.2.1 h.2.2, s.outb h.1 h.2.1 h.2.2⟩
theorem StepW.frF (s : StepW φ φ' H H') (M : Muts φ H) (N : MutB φ H) {a : Addr} {xs : List V} (h : FrF K H a xs) : FrF K H' a xs := by
  rcases h with ⟨o, h⟩ | h
  · have n : a ∉ φ.l := fun m => by
      have q := M a m
      rw [h] at q; exact q
    have nb : a ∉ φ.b := fun m => by
      rcases N a m with ⟨ys, q⟩ | ⟨ys, q⟩ <;> rw [h] at q <;> cases q
    exact .inl ⟨o, s.keep _ _ h n nb⟩
  · exact .inr h
theorem StepW.dcF (s : StepW φ φ' H H') {a : Addr} {kvs : List (Key × V)} (h : DcF φ H a kvs) : DcF φ' H' a kvs := ⟨s.keep _ _ h.1 h.2.1 h.2.2, s.out h.1 h.2.1 h.2.2, s.outb h.1 h.2.1 h.2.2⟩
mutual
theorem RD.monoW (s : StepW φ φ' H H') (M : Muts φ H) (N : MutB φ H) : ∀ (d : D) (v : V), RD K φ H d v → RD K φ' H' d v
  | .non, v, h => h
  | .bl _, v, h => h
  | .int _, v, h => h
  | .str _, v, h => h
  | .ty _, v, h => h
  | .cls _, v, h => h
  | .tup xs, v, h => by
    rw [RD] at h ⊢
    obtain ⟨a, vs, e, h1, h2⟩ := h
    exact ⟨a, vs, e, s.sqT M N h1, RDs.monoW s M N xs vs h2⟩
  | .lst xs, v, h => by
    rw [RD] at h ⊢
    obtain ⟨a, vs, e, h1, h2⟩ := h
    exact ⟨a, vs, e, s.lsF h1, RDs.monoW s M N xs vs h2⟩
  | .frz xs, v, h => by
    rw [RD] at h ⊢
    obtain ⟨a, vs, e, h1, h2⟩ := h
    exact ⟨a, vs, e, s.frF M N h1, RDs.monoW s M N xs vs h2⟩
  | .dic ks xs, v, h => by
    rw [RD] at h ⊢
    obtain ⟨a, vs, e, h1, hl, h2⟩ := h
    exact ⟨a, vs, e, s.dcF h1, hl, RDs.monoW s M N xs vs h2⟩
  | .ref n, v, h => by
    rw [RD] at h ⊢
    obtain ⟨a, e, h1⟩ := h
    exact ⟨a, e, s.at h1⟩
  | .exo a d ks xs, v, h => by
    rw [RD] at h ⊢
    obtain ⟨vs, e, h1, hl, h2⟩ := h
    have n : d ∉ φ.l := fun m => by
      have q := M d m
      rw [h1] at q; exact q
    have nb : d ∉ φ.b := fun m => by
      rcases N d m with ⟨ys, q⟩ | ⟨ys, q⟩ <;> rw [h1] at q <;> cases q
    exact ⟨vs, e, s.keep _ _ h1 n nb, hl, RDs.monoW s M N xs vs h2⟩
theorem RDs.monoW (s : StepW φ φ' H H') (M : Muts φ H) (N : MutB φ H) : ∀ (xs : List D) (vs : List V), RDs K φ H xs vs → RDs K φ' H' xs vs
  | [], vs, h => h
  | x :: xs, vs, h => by
    rw [RDs] at h ⊢
    obtain ⟨v, r, e, h1, h2⟩ := h
    exact ⟨v, r, e, RD.monoW s M N x v h1, RDs.monoW s M N xs r h2⟩
end
/-- all that may change or is being made -/
structure MutA (φ : Al) (H : Hp) : Prop where
  m : Muts φ H
  b : MutB φ H
theorem RD.mono (s : Step φ φ' H H') (M : MutA φ H) (d : D) (v : V) (h : RD K φ H d v) : RD K φ' H' d v := RD.monoW s.w M.m M.b d v h
theorem RDs.mono (s : Step φ φ' H H') (M : MutA φ H) (xs : List D) (vs : List V) (h : RDs K φ H xs vs) : RDs K φ' H' xs vs := RDs.monoW s.w M.m M.b xs vs h
theorem RDs.nil : RDs K φ H [] [] := by rw [RDs]
theorem RDs.cons {x : D} {xs : List D} {v : V} {vs : List V} (h : RD K φ H x v) (r : RDs K φ H xs vs) : RDs K φ H (x :: xs) (v :: vs) := by
  rw [RDs]; exact ⟨v, vs, rfl, h, r⟩
theorem RDs.length : ∀ {xs : List D} {vs : List V}, RDs K φ H xs vs → vs.length = xs.length
  | [], vs, h => by rw [RDs] at h; rw [h]; rfl
  | x :: xs, vs, h => by
    rw [RDs] at h
    obtain ⟨v, r, rfl, _, h2⟩ := h
    rw [List.length_cons, List.length_cons, RDs.length h2]
theorem RDs.append : ∀ {xs ys : List D} {vs ws : List V}, RDs K φ H xs vs → RDs K φ H ys ws → RDs K φ H (xs ++ ys) (vs ++ ws)
  | [], ys, vs, ws, h, q => by rw [RDs] at h; rw [h]; exact q
  | x :: xs, ys, vs, ws, h, q => by
    rw [RDs] at h
    obtain ⟨v, r, rfl, h1, h2⟩ := h
    exact .cons h1 (RDs.append h2 q)
theorem RDs.get : ∀ {xs : List D} {vs : List V} {i : Nat} {x : D}, RDs K φ H xs vs → xs[i]? = some x → ∃ v, vs[i]? = some v ∧ RD K φ H x v
  | [], vs, i, x, h, e => by simp at e
  | y :: xs, vs, 0, x, h, e => by
    rw [RDs] at h
    obtain ⟨v, r, rfl, h1, h2⟩ := h
    simp at e; subst e
    exact ⟨v, rfl, h1⟩
  | y :: xs, vs, i + 1, x, h, e => by
    rw [RDs] at h
    obtain ⟨v, r, rfl, h1, h2⟩ := h
    simp at e
    obtain ⟨u, q1, q2⟩ := RDs.get h2 e
    exact ⟨u, by simpa using q1, q2⟩
theorem RDs.getV : ∀ {xs : List D} {vs : List V} {i : Nat} {v : V}, RDs K φ H xs vs → vs[i]? = some v → ∃ x, xs[i]? = some x ∧ RD K φ H x v
  | [], vs, i, v, h, e => by rw [RDs] at h; rw [h] at e; simp at e
  | y :: xs, vs, 0, v, h, e => by
    rw [RDs] at h
    obtain ⟨u, r, rfl, h1, h2⟩ := h
    simp at e; subst e
    exact ⟨y, rfl, h1⟩
  | y :: xs, vs, i + 1, v, h, e => by
    rw [RDs] at h
    obtain ⟨u, r, rfl, h1, h2⟩ := h
    simp at e
    obtain ⟨x, q1, q2⟩ := RDs.getV h2 e
    exact ⟨x, by simpa using q1, q2⟩
theorem RDs.set : ∀ {xs : List D} {vs : List V} (i : Nat) {x : D} {v : V}, RDs K φ H xs vs → RD K φ H x v → RDs K φ H (xs.set i x) (vs.set i v)
  | [], vs, i, x, v, h, q => by rw [RDs] at h; rw [h]; exact .nil
  | y :: xs, vs, 0, x, v, h, q => by
    rw [RDs] at h
    obtain ⟨u, r, rfl, h1, h2⟩ := h
    exact .cons q h2
  | y :: xs, vs, i + 1, x, v, h, q => by
    rw [RDs] at h
    obtain ⟨u, r, rfl, h1, h2⟩ := h
    exact .cons h1 (RDs.set i h2 q)
theorem RDs.drop : ∀ {xs : List D} {vs : List V} (n : Nat), RDs K φ H xs vs → RDs K φ H (xs.drop n) (vs.drop n)
  | _, _, 0, h => h
  | [], vs, n + 1, h => by rw [RDs] at h; rw [h]; exact .nil
  | y :: xs, vs, n + 1, h => by
    rw [RDs] at h
    obtain ⟨u, r, rfl, h1, h2⟩ := h
    exact RDs.drop n h2
theorem RDs.take : ∀ {xs : List D} {vs : List V} (n : Nat), RDs K φ H xs vs → RDs K φ H (xs.take n) (vs.take n)
  | _, _, 0, h => .nil
  | [], vs, n + 1, h => by rw [RDs] at h; rw [h]; exact .nil
  | y :: xs, vs, n + 1, h => by
    rw [RDs] at h
    obtain ⟨u, r, rfl, h1, h2⟩ := h
    exact .cons h1 (RDs.take n h2)
theorem RDs.eraseIdx : ∀ {xs : List D} {vs : List V} (n : Nat), RDs K φ H xs vs → RDs K φ H (xs.eraseIdx n) (vs.eraseIdx n)
  | [], vs, n, h => by rw [RDs] at h; rw [h]; exact .nil
  | y :: xs, vs, 0, h => by
    rw [RDs] at h
    obtain ⟨u, r, rfl, h1, h2⟩ := h
    exact h2
  | y :: xs, vs, n + 1, h => by
    rw [RDs] at h
    obtain ⟨u, r, rfl, h1, h2⟩ := h
    exact .cons h1 (RDs.eraseIdx n h2)
theorem RDs.ints : ∀ (ns : List Int), RDs K φ H (ns.map D.int) (ns.map V.int)
  | [] => .nil
  | n :: ns => .cons (by rw [RD]) (RDs.ints ns)
theorem RDs.ints_inv : ∀ {ns : List Int} {vs : List V}, RDs K φ H (ns.map D.int) vs → vs = ns.map V.int
  | [], vs, h => by rw [List.map_nil, RDs] at h; exact h
  | n :: ns, vs, h => by
    rw [List.map_cons, RDs] at h
    obtain ⟨u, r, rfl, h1, h2⟩ := h
    rw [RD] at h1
    rw [h1, RDs.ints_inv h2]; rfl
theorem RDs.bls_inv : ∀ {ns : List Bool} {vs : List V}, RDs K φ H (ns.map D.bl) vs → vs = ns.map V.bl
  | [], vs, h => by rw [List.map_nil, RDs] at h; exact h
  | n :: ns, vs, h => by
    rw [List.map_cons, RDs] at h
    obtain ⟨u, r, rfl, h1, h2⟩ := h
    rw [RD] at h1
    rw [h1, RDs.bls_inv h2]; rfl
end

/-! ### the store -/
inductive SO where
  | lst (xs : List D) | dK (kvs : List (Key × D)) | ins (C : Addr) (fs : List (Str × D))
abbrev Store := List SO
def RK {κ : Type} (K : PySem.W.Frag) (φ : Al) (H : Hp) (kvs : List (κ × D)) (ws : List (κ × V)) : Prop := kvs.map (·.1) = ws.map (·.1) ∧ RDs K φ H (kvs.map (·.2)) (ws.map (·.2))
def OR (K : PySem.W.Frag) (φ : Al) (H : Hp) (a : Addr) : SO → Prop
  | .lst xs => ∃ vs, H a = some (.lst vs) ∧ RDs K φ H xs vs
  | .dK kvs => ∃ ws, H a = some (.dK ws) ∧ RK K φ H kvs ws
  | .ins C fs => ∃ dx ws, H a = some (.ins C dx ws) ∧ RK K φ H fs ws
structure SR (K : PySem.W.Frag) (φ : Al) (S : Store) (H : Hp) : Prop where
  nd : φ.l.Nodup
  len : S.length = φ.l.length
  at_ : ∀ (n : Nat) (a : Addr) (o : SO), φ.l[n]? = some a → S[n]? = some o → OR K φ H a o
  mb : MutB φ H
  db : ∀ a, a ∈ φ.b → a ∉ φ.l
section
variable {K : PySem.W.Frag} {φ φ' φ1 φ2 : Al} {H H' H1 H2 : Hp} {S S' : Store}
theorem OR.mut {a : Addr} {o : SO} (h : OR K φ H a o) : Mut (H a) := by
  cases o with
  | lst xs => obtain ⟨_, e, _⟩ := h; rw [e]; trivial
  | dK xs => obtain ⟨_, e, _⟩ := h; rw [e]; trivial
  | ins C xs => obtain ⟨_, _, e, _⟩ := h; rw [e]; trivial
theorem SR.mutl (R : SR K φ S H) : Muts φ H := fun a h => by
  obtain ⟨n, e⟩ := List.getElem?_of_mem h
  have hn : n < S.length := by rw [R.len]; exact (List.getElem?_eq_some_iff.mp e).1
  exact (R.at_ n a S[n] e (List.getElem?_eq_getElem hn)).mut
theorem SR.muts (R : SR K φ S H) : MutA φ H := ⟨R.mutl, R.mb⟩
theorem SR.some_at (R : SR K φ S H) {n : Nat} {o : SO} (e : S[n]? = some o) : ∃ a, φ.l[n]? = some a ∧ OR K φ H a o := by
  have hn : n < φ.l.length := by rw [← R.len]; exact (List.getElem?_eq_some_iff.mp e).1
  exact ⟨φ.l[n], List.getElem?_eq_getElem hn, R.at_ n _ o (List.getElem?_eq_getElem hn) e⟩
theorem RK.monoW {κ : Type} (s : StepW φ φ' H H') (M : MutA φ H) {kvs : List (κ × D)} {ws : List (κ × V)} (h : RK K φ H kvs ws) : RK K φ' H' kvs ws := ⟨h.1, RDs.monoW s M.m M.b _ _ h.2⟩
theorem RK.mono {κ : Type} (s : Step φ φ' H H') (M : MutA φ H) {kvs : List (κ × D)} {ws : List (κ × V)} (h : RK K φ H kvs ws) : RK K φ' H' kvs ws := h.monoW s.w M
theorem OR.moved {a : Addr} {o : SO} (s : StepW φ φ' H H') (M : MutA φ H) (h : OR K φ H a o) (e : H' a = H a) : OR K φ' H' a o := by
  cases o with
  | lst xs => obtain ⟨vs, h1, h2⟩ := h; exact ⟨vs, by rw [e]; exact h1, RDs.monoW s M.m M.b _ _ h2⟩
  | dK xs => obtain ⟨vs, h1, h2⟩ := h; exact ⟨vs, by rw [e]; exact h1, h2.monoW s M⟩
  | ins C xs => obtain ⟨dx, vs, h1, h2⟩ := h; exact ⟨dx, vs, by rw [e]; exact h1, h2.monoW s M⟩
/-- an object of the store is changed -/
theorem SR.step_put (R : SR K φ S H) {n : Nat} {a : Addr} {ho : HO} (e : φ.l[n]? = some a) : Step φ φ H (upd H a ho) :=
  ⟨⟨[], by simp⟩, fun _ h n _ => absurd h n, fun _ h => h, fun b o h nb => by
    have : b ≠ a := fun q => nb (q ▸ List.mem_of_getElem? e)
    rw [upd_ne this]; exact h, fun _ h n => absurd h n⟩
theorem SR.put (R : SR K φ S H) {n : Nat} {a : Addr} {ho : HO} {o : SO} (e : φ.l[n]? = some a) (h : OR K φ (upd H a ho) a o) : SR K φ (S.set n o) (upd H a ho) := by
  have am := List.mem_of_getElem? e
  refine ⟨R.nd, by simpa using R.len, fun m b u hb hu => ?_, fun b hb => ?_, R.db⟩
  · by_cases q : m = n
    · subst q
      rw [e] at hb; cases hb
      have hm : m < S.length := by rw [R.len]; exact (List.getElem?_eq_some_iff.mp e).1
      rw [List.getElem?_set_self hm] at hu; cases hu
      exact h
    · rw [List.getElem?_set_ne (Ne.symm q)] at hu
      have ne : b ≠ a := fun z => by
        subst z
        obtain ⟨h1, e1⟩ := List.getElem?_eq_some_iff.mp hb
        obtain ⟨h2, e2⟩ := List.getElem?_eq_some_iff.mp e
        exact q ((List.getElem_inj R.nd).mp (e1.trans e2.symm))
      exact (R.at_ m b u hb hu).moved (R.step_put (ho := ho) e).w R.muts (upd_ne ne)
  · have ne : b ≠ a := fun z => R.db b hb (z ▸ am)
    rw [upd_ne ne]
    exact R.mb b hb
/-- an object that is not ours comes -/
theorem step_new {p : Addr} {ho : HO} (h : H p = none) : Step φ φ H (upd H p ho) :=
  ⟨⟨[], by simp⟩, fun _ h n _ => absurd h n, fun _ h => h, fun b o e _ => by
    have : b ≠ p := fun q => by rw [q, h] at e; cases e
    rw [upd_ne this]; exact e, fun _ h n => absurd h n⟩
theorem SR.out (R : SR K φ S H) {p : Addr} (h : H p = none) : p ∉ φ.l := fun m => by
  have := R.mutl p m
  rw [h] at this; exact this
theorem SR.outb (R : SR K φ S H) {p : Addr} (h : H p = none) : p ∉ φ.b := fun m => by
  rcases R.mb p m with ⟨xs, q⟩ | ⟨xs, q⟩ <;> rw [h] at q <;> cases q
/-- the store stands where no object of it is touched -/
theorem SR.keep (R : SR K φ S H) (s : Step φ φ H H') (h : ∀ a, a ∈ φ.l → H' a = H a) : SR K φ S H' :=
  ⟨R.nd, R.len, fun n a o ha ho => (R.at_ n a o ha ho).moved s.w R.muts (h a (List.mem_of_getElem? ha)), fun b hb => by
    rcases R.mb b hb with ⟨xs, q⟩ | ⟨xs, q⟩
    · exact .inl ⟨xs, s.keep _ _ q (R.db b hb)⟩
    · exact .inr ⟨xs, s.keep _ _ q (R.db b hb)⟩, R.db⟩
theorem SR.new (R : SR K φ S H) {p : Addr} {ho : HO} (h : H p = none) : SR K φ S (upd H p ho) :=
  R.keep (step_new h) fun a m => upd_ne fun q => R.out h (q ▸ m)
theorem step_push (R : SR K φ S H) {p : Addr} {ho : HO} (h : H p = none) : Step φ (φ.push p) H (upd H p ho) :=
  ⟨⟨[p], rfl⟩, fun _ h n _ => absurd h n, fun _ h => h, (step_new (φ := φ) h).keep, fun a m n => by
    rcases List.mem_append.mp m with m | m
    · exact absurd m n
    · rw [List.mem_singleton.mp m]; exact h⟩
theorem SR.push (R : SR K φ S H) {p : Addr} {ho : HO} {o : SO} (h : H p = none) (q : OR K (φ.push p) (upd H p ho) p o) : SR K (φ.push p) (S ++ [o]) (upd H p ho) := by
  have st := step_push R (ho := ho) h
  refine ⟨?_, by simp [R.len], fun n a u ha hu => ?_, fun b hb => ?_, fun b hb m => ?_⟩
  · show (φ.l ++ [p]).Nodup
    rw [List.nodup_append]
    refine ⟨R.nd, by simp, fun a ha b hb => ?_⟩
    rw [List.mem_singleton.mp hb]
    exact fun z => R.out h (z ▸ ha)
  · have ha' : (φ.l ++ [p])[n]? = some a := ha
    by_cases hn : n < φ.l.length
    · rw [List.getElem?_append_left hn] at ha'
      rw [List.getElem?_append_left (by rw [R.len]; exact hn)] at hu
      have ne : a ≠ p := fun z => R.out h (z ▸ List.mem_of_getElem? ha')
      exact (R.at_ n a u ha' hu).moved st.w R.muts (upd_ne ne)
    · have hn' : n = φ.l.length := by
        have := (List.getElem?_eq_some_iff.mp ha').1
        simp at this; omega
      subst hn'
      rw [List.getElem?_append_right (Nat.le_refl _)] at ha'
      rw [List.getElem?_append_right (by rw [R.len]; exact Nat.le_refl _), R.len] at hu
      simp at ha' hu
      subst ha' hu
      exact q
  · have ne : b ≠ p := fun z => R.outb h (z ▸ hb)
    rw [upd_ne ne]
    exact R.mb b hb
  · rcases List.mem_append.mp m with m | m
    · exact R.db b hb m
    · rw [List.mem_singleton.mp m] at hb
      exact R.outb h hb
end
end Dy
namespace Dy
open PySem PySem.Spec PyProof.Rows L2

/-! ### exceptions, slots -/
/-- an error of the class at C; its fields, if its class has an __init__ of its own -/
structure Exc where
  C : Addr
  fs : Option (List (Str × D))
def ExR (K : PySem.W.Frag) (φ : Al) (H : Hp) (x : Exc) (cls : Value) (d : Option Addr) : Prop :=
  cls = .ref x.C ∧ match x.fs with
    | none => d = none
    | some fs => ∃ dd ws, d = some dd ∧ H dd = some (.xd ws) ∧ RK K φ H fs ws
abbrev Rho := List (Option D)
structure Sl (K : PySem.W.Frag) (φ : Al) (H : Hp) (ρ : Rho) (σ : L2.St) : Prop where
  len : ρ.length = σ.length
  at_ : ∀ (i : Nat) (d : D), ρ[i]? = some (some d) → ∃ v, σ[i]? = some (some v) ∧ RD K φ H d v
section
variable {K : PySem.W.Frag} {φ φ' : Al} {H H' : Hp} {S : Store} {ρ : Rho} {σ : L2.St}
theorem Sl.mono (l : Sl K φ H ρ σ) (s : Step φ φ' H H') (M : MutA φ H) : Sl K φ' H' ρ σ :=
  ⟨l.len, fun i d e => let ⟨v, h1, h2⟩ := l.at_ i d e; ⟨v, h1, RD.mono s M d v h2⟩⟩
theorem Sl.set (l : Sl K φ H ρ σ) {i : Nat} {d : D} {v : V} (h : RD K φ H d v) : Sl K φ H (ρ.set i (some d)) (σ.set i (some v)) := by
  refine ⟨by simpa using l.len, fun j u e => ?_⟩
  by_cases q : j = i
  · subst q
    have hj : j < ρ.length := by
      have := (List.getElem?_eq_some_iff.mp e).1
      simpa using this
    rw [List.getElem?_set_self hj] at e
    cases e
    exact ⟨v, by rw [List.getElem?_set_self (by rw [← l.len]; exact hj)], h⟩
  · rw [List.getElem?_set_ne (Ne.symm q)] at e
    rw [List.getElem?_set_ne (Ne.symm q)]
    exact l.at_ j u e
theorem Sl.unset (l : Sl K φ H ρ σ) {i : Nat} : Sl K φ H (ρ.set i none) (σ.set i none) := by
  refine ⟨by simpa using l.len, fun j u e => ?_⟩
  by_cases q : j = i
  · subst q
    have hj : j < ρ.length := by
      have := (List.getElem?_eq_some_iff.mp e).1
      simpa using this
    rw [List.getElem?_set_self hj] at e
    cases e
  · rw [List.getElem?_set_ne (Ne.symm q)] at e
    rw [List.getElem?_set_ne (Ne.symm q)]
    exact l.at_ j u e
end

/-! ### expressions -/
/-- contexts that differ in what a derivation does not see -/
structure Fam where
  ι : Type
  X : ι → Cx
  K : PySem.W.Frag
  hK : ∀ i, (X i).K = K
def Fam.one (X : Cx) : Fam := ⟨Unit, fun _ => X, X.K, fun _ => rfl⟩
abbrev QD := D → Store → Prop
abbrev XQ := Exc → Store → Prop
abbrev DTE := Rho → Store → QD → XQ → Prop
abbrev DTT := Rho → Store → (Bool → Store → Prop) → XQ → Prop
abbrev DTA := Rho → Store → (List D → Store → Prop) → XQ → Prop
/-- where an evaluation stands -/
structure Ok (K : PySem.W.Frag) (W : WX) (σ : L2.St) (ρ : Rho) (φ : Al) (S : Store) (H : Hp) (E : XQ) : Prop where
  sr : SR K φ S H
  sl : Sl K φ H ρ σ
  ex : ∀ φ' H' S' x cls d, Step φ φ' H H' → SR K φ' S' H' → ExR K φ' H' x cls d → E x S' → W cls d σ H'
theorem Ok.mono {K : PySem.W.Frag} {W : WX} {σ : L2.St} {ρ : Rho} {φ φ' : Al} {S S' : Store} {H H' : Hp} {E : XQ} (o : Ok K W σ ρ φ S H E) (s : Step φ φ' H H') (r : SR K φ' S' H') : Ok K W σ ρ φ' S' H' E :=
  ⟨r, o.sl.mono s o.sr.muts, fun _ _ _ _ _ _ t r' x e => o.ex _ _ _ _ _ _ (s.trans t) r' x e⟩
/-- what an evaluation's end is worth -/
def EndV (K : PySem.W.Frag) (φ : Al) (H : Hp) (Q' : QD) (Q : VK) : Prop :=
  ∀ φ' H' S' d v, Step φ φ' H H' → SR K φ' S' H' → RD K φ' H' d v → Q' d S' → Q v H'
def EndT (K : PySem.W.Frag) (φ : Al) (H : Hp) (Q' : Bool → Store → Prop) (Q : Bool → Hp → Prop) : Prop :=
  ∀ φ' H' S' b, Step φ φ' H H' → SR K φ' S' H' → Q' b S' → Q b H'
def EndA (K : PySem.W.Frag) (φ : Al) (H : Hp) (Q' : List D → Store → Prop) (Q : List V → Hp → Prop) : Prop :=
  ∀ φ' H' S' ds vs, Step φ φ' H H' → SR K φ' S' H' → RDs K φ' H' ds vs → Q' ds S' → Q vs H'
def DE (F : Fam) (W : WX) (e : Expr) (t' : DTE) : Prop :=
  ∃ t : TE, (∀ i, PE (F.X i) e t) ∧ ∀ σ ρ φ S H E Q' Q, Ok F.K W σ ρ φ S H E → EndV F.K φ H Q' Q → t' ρ S Q' E → t σ H Q
def DT (F : Fam) (W : WX) (e : Expr) (t' : DTT) : Prop :=
  ∃ t : TT, (∀ i, PT (F.X i) e t) ∧ ∀ σ ρ φ S H E Q' Q, Ok F.K W σ ρ φ S H E → EndT F.K φ H Q' Q → t' ρ S Q' E → t σ H Q
def DW (F : Fam) (W : WX) (e : Expr) (t' : DTT) : Prop :=
  ∃ t : TT, (∀ i, PW (F.X i) e t) ∧ ∀ σ ρ φ S H E Q' Q, Ok F.K W σ ρ φ S H E → EndT F.K φ H Q' Q → t' ρ S Q' E → t σ H Q
def DA (F : Fam) (W : WX) (es : List Expr) (t' : DTA) : Prop :=
  ∃ t : TA, (∀ i, PA (F.X i) es t) ∧ ∀ σ ρ φ S H E Q' Q, Ok F.K W σ ρ φ S H E → EndA F.K φ H Q' Q → t' ρ S Q' E → t σ H Q
/-- inside an evaluation: the end, seen from a later state -/
theorem EndV.mono {K : PySem.W.Frag} {φ φ' : Al} {H H' : Hp} {Q' : QD} {Q : VK} (q : EndV K φ H Q' Q) (s : Step φ φ' H H') : EndV K φ' H' Q' Q :=
  fun _ _ _ _ _ t r rd h => q _ _ _ _ _ (s.trans t) r rd h
theorem EndT.mono {K : PySem.W.Frag} {φ φ' : Al} {H H' : Hp} {Q' : Bool → Store → Prop} {Q : Bool → Hp → Prop} (q : EndT K φ H Q' Q) (s : Step φ φ' H H') : EndT K φ' H' Q' Q :=
  fun _ _ _ _ t r h => q _ _ _ _ (s.trans t) r h
theorem EndA.mono {K : PySem.W.Frag} {φ φ' : Al} {H H' : Hp} {Q' : List D → Store → Prop} {Q : List V → Hp → Prop} (q : EndA K φ H Q' Q) (s : Step φ φ' H H') : EndA K φ' H' Q' Q :=
  fun _ _ _ _ _ t r rd h => q _ _ _ _ _ (s.trans t) r rd h
section
variable {F : Fam} {W : WX} {a b c e : Expr} {es rest : List Expr} {pos : Pos} {ta tb tc te : DTE} {uA uB uC : DTT} {t : DTA}
def dVar (i : Nat) : DTE := fun ρ S Q _ => ∃ d, ρ[i]? = some (some d) ∧ Q d S
def dC (d : D) : DTE := fun _ S Q _ => Q d S
/-- a constant that says nothing of the heap -/
def Flat : D → V → Prop
  | .non, v => v = .non
  | .bl b, v => v = .bl b
  | .int i, v => v = .int i
  | .str x, v => v = .str x
  | .ty n, v => v = .ty n
  | .cls C, v => v = .ref C
  | _, _ => False
theorem Flat.rd {K : PySem.W.Frag} {φ : Al} {H : Hp} {d : D} {v : V} (h : Flat d v) : RD K φ H d v := by
  cases d <;> first | exact h.elim | (rw [RD]; exact h)
theorem de_of_c {d : D} {v : V} (h : ∀ i, PE (F.X i) e (tC v)) (f : Flat d v) : DE F W e (dC d) :=
  ⟨tC v, h, fun σ ρ φ S H E Q' Q o q h => q φ H S d v .refl o.sr f.rd h⟩
theorem de_var (i : Nat) {x : Str} (hN : ∀ j, (F.X j).N[i]? = some x := by intro _; rfl) (hv : ∀ j, Vis (F.X j).env.scope x := by intro _; first | exact Or.inl rfl | exact Or.inr (Or.inl rfl) | exact Or.inr (Or.inr rfl)) (hd : (x == ("__debug__" : Str)) = false := by decide)
    (hcd : (x == ("__classdict__" : Str)) = false := by decide) : DE F W (.Name x pos) (dVar i) :=
  ⟨tVar i, fun j => pe_var (hN j) (hv j) hd hcd, fun σ ρ φ S H E Q' Q o q h => by
    obtain ⟨d, e, h⟩ := h
    obtain ⟨v, e2, r⟩ := o.sl.at_ i d e
    exact ⟨v, e2, q φ H S d v .refl o.sr r h⟩⟩
theorem de_int {i : Int} {j} : DE F W (.Constant (.int i) j pos) (dC (.int i)) := de_of_c (fun _ => pe_int) rfl
theorem de_bl {i : Bool} {j} : DE F W (.Constant (.bool i) j pos) (dC (.bl i)) := de_of_c (fun _ => pe_bl) rfl
theorem de_non {j} : DE F W (.Constant .none j pos) (dC .non) := de_of_c (fun _ => pe_non) rfl
theorem de_str {x : Str} {j} : DE F W (.Constant (.str x) j pos) (dC (.str x)) := de_of_c (fun _ => pe_str) rfl
/-- a module's own name: a class, a def, a plain constant -/
theorem de_glob {x : Str} {d : D} {v : V} {u : Value} (hg : ∀ i, Gl (F.X i) x) (hm : ∀ i, (F.X i).mg x = some u) (r : RelV v u) (f : Flat d v) (hd : (x == ("__debug__" : Str)) = false := by decide) : DE F W (.Name x pos) (dC d) := de_of_c (fun i => pe_glob (hg i) (hm i) r hd) f
theorem de_bltn {x : Str} {d : D} {v : V} {u : Value} (hg : ∀ i, Gl (F.X i) x) (hm : ∀ i, (F.X i).mg x = none) (hv : bootBuiltins x = some u) (r : RelV v u) (f : Flat d v) (hn : x ≠ "__name__" := by decide) (hd : (x == ("__debug__" : Str)) = false := by decide) :
    DE F W (.Name x pos) (dC d) := de_of_c (fun i => pe_bltn (hg i) (hm i) hv r hn hd) f
/-- a constant tuple (or list) of the module -/
theorem de_globT {x : Str} {a : Addr} {xs : List D} (hg : ∀ i, Gl (F.X i) x) (hm : ∀ i, (F.X i).mg x = some (.ref a)) (h : ∀ φ H, RD F.K φ H (.tup xs) (.ref a)) (hd : (x == ("__debug__" : Str)) = false := by decide) : DE F W (.Name x pos) (dC (.tup xs)) :=
  ⟨tC (.ref a), fun i => pe_glob (hg i) (hm i) rfl hd, fun σ ρ φ S H E Q' Q o q k => q φ H S _ _ .refl o.sr (h φ H) k⟩

/-! ### arguments, two in a row -/
def dNil : DTA := fun _ S Q _ => Q [] S
def dCons (ta : DTE) (t : DTA) : DTA := fun ρ S Q E => ta ρ S (fun d S1 => t ρ S1 (fun ds S2 => Q (d :: ds) S2) E) E
theorem da_nil : DA F W [] dNil := ⟨tNil, fun _ => pa_nil, fun σ ρ φ S H E Q' Q o q h => q φ H S [] [] .refl o.sr .nil h⟩
theorem da_cons (ha : DE F W e ta) (hr : DA F W es t) (hs : ∀ i, starEach (e :: es) (F.X i).env = (false, eval e (F.X i).env) :: starEach es (F.X i).env := by intro _; rfl) : DA F W (e :: es) (dCons ta t) := by
  obtain ⟨t1, p1, k1⟩ := ha
  obtain ⟨t2, p2, k2⟩ := hr
  refine ⟨tCons t1 t2, fun i => pa_cons (p1 i) (p2 i) (hs i), fun σ ρ φ S H E Q' Q o q h => ?_⟩
  refine k1 σ ρ φ S H E _ _ o (fun φ1 H1 S1 d v s1 r1 rd h1 => ?_) h
  refine k2 σ ρ φ1 S1 H1 E _ _ (o.mono s1 r1) (fun φ2 H2 S2 ds vs s2 r2 rds h2 => ?_) h1
  exact q φ2 H2 S2 _ _ (s1.trans s2) r2 (.cons (RD.mono s2 r1.muts _ _ rd) rds) h2
/-- the common way of a two-place operation -/
theorem de_two {r : R2} {r' : D → D → Store → QD → Prop} {f : TE → TE → TE} (hf : ∀ t1 t2, f t1 t2 = tOp r t1 t2) (ha : DE F W a ta) (hb : DE F W b tb) (hp : ∀ i t1 t2, PE (F.X i) a t1 → PE (F.X i) b t2 → PE (F.X i) e (f t1 t2))
    (hr : ∀ φ S H Q' Q d1 d2 v1 v2, SR F.K φ S H → RD F.K φ H d1 v1 → RD F.K φ H d2 v2 → EndV F.K φ H Q' Q → r' d1 d2 S Q' → r v1 v2 H Q) :
    DE F W e (fun ρ S Q E => ta ρ S (fun d1 S1 => tb ρ S1 (fun d2 S2 => r' d1 d2 S2 Q) E) E) := by
  obtain ⟨t1, p1, k1⟩ := ha
  obtain ⟨t2, p2, k2⟩ := hb
  refine ⟨f t1 t2, fun i => hp i t1 t2 (p1 i) (p2 i), fun σ ρ φ S H E Q' Q o q h => ?_⟩
  rw [hf]
  refine k1 σ ρ φ S H E _ _ o (fun φ1 H1 S1 d v s1 r1 rd h1 => ?_) h
  refine k2 σ ρ φ1 S1 H1 E _ _ (o.mono s1 r1) (fun φ2 H2 S2 d2 v2 s2 r2 rd2 h2 => ?_) h1
  exact hr φ2 S2 H2 _ _ d d2 v v2 r2 (RD.mono s2 r1.muts _ _ rd) rd2 (q.mono (s1.trans s2)) h2
abbrev D2 := D → D → Store → QD → Prop
def dOp (r : D2) (ta tb : DTE) : DTE := fun ρ S Q E => ta ρ S (fun d1 S1 => tb ρ S1 (fun d2 S2 => r d1 d2 S2 Q) E) E
/-- an operation on trees and its rule by values -/
def Lk (K : PySem.W.Frag) (r' : D2) (r : R2) : Prop :=
  ∀ φ S H Q' Q d1 d2 v1 v2, SR K φ S H → RD K φ H d1 v1 → RD K φ H d2 v2 → EndV K φ H Q' Q → r' d1 d2 S Q' → r v1 v2 H Q
theorem de_op {op : Operator} {r : R2} {r' : D2} (ho : ∀ i, OpR (F.X i) (binaryOp op) r) (l : Lk F.K r' r) (ha : DE F W a ta) (hb : DE F W b tb) : DE F W (.BinOp a op b pos) (dOp r' ta tb) :=
  de_two (f := fun t1 t2 => tOp r t1 t2) (fun _ _ => rfl) ha hb (fun i _ _ p1 p2 => pe_op (ho i) p1 p2) l
theorem de_cmp {op : CmpOp} {r : R2} {r' : D2} (ho : ∀ i, OpR (F.X i) (compareOp op) r) (l : Lk F.K r' r) (ha : DE F W a ta) (hb : DE F W b tb) (hm : behindInMarks op b = false) : DE F W (.Compare a [op] [b] pos) (dOp r' ta tb) :=
  de_two (f := fun t1 t2 => tOp r t1 t2) (fun _ _ => rfl) ha hb (fun i _ _ p1 p2 => pe_cmpR (ho i) p1 p2 hm) l
theorem de_ix {r : R2} {r' : D2} (ho : ∀ i, IxR (F.X i) r) (l : Lk F.K r' r) (ha : DE F W a ta) (hb : DE F W b tb) (hs : PlainIx b := by exact fun _ _ => rfl) : DE F W (.Subscript a b pos) (dOp r' ta tb) :=
  de_two (f := fun t1 t2 => tOp r t1 t2) (fun _ _ => rfl) ha hb (fun i _ _ p1 p2 => pe_ix (ho i) p1 p2 hs) l
def dUn (r : D → Store → QD → Prop) (ta : DTE) : DTE := fun ρ S Q E => ta ρ S (fun d S1 => r d S1 Q) E
theorem de_un {op : UnaryOp} {r : V → Hp → VK → Prop} {r' : D → Store → QD → Prop} (ho : ∀ i, UnR (F.X i) (unaryOp op) r) (l : ∀ φ S H Q' Q d v, SR F.K φ S H → RD F.K φ H d v → EndV F.K φ H Q' Q → r' d S Q' → r v H Q) (ha : DE F W a ta) : DE F W (.UnaryOp op a pos) (dUn r' ta) := by
  obtain ⟨t1, p1, k1⟩ := ha
  refine ⟨_, fun i => pe_un (ho i) (p1 i), fun σ ρ φ S H E Q' Q o q h => ?_⟩
  refine k1 σ ρ φ S H E _ _ o (fun φ1 H1 S1 d v s1 r1 rd h1 => ?_) h
  exact l φ1 S1 H1 _ _ d v r1 rd (q.mono s1) h1

/-! ### tests -/
/-- an expression that gives True or False, as a test -/
def dTest (te : DTE) : DTT := fun ρ S Q E => te ρ S (fun d S1 => ∃ k, d = .bl k ∧ Q k S1) E
theorem dt_val (h : DE F W e te) (he : ∀ i whole, isTrue e (F.X i).env whole = (do let v ← whole; standAt e.pos; holding [v] (truthy v)) := by intro _ _; rfl) : DT F W e (dTest te) := by
  obtain ⟨t1, p1, k1⟩ := h
  refine ⟨tB t1, fun i => pt_val (p1 i) (he i), fun σ ρ φ S H E Q' Q o q h => ?_⟩
  refine k1 σ ρ φ S H E _ _ o (fun φ1 H1 S1 d v s1 r1 rd h1 => ?_) h
  obtain ⟨k, rfl, h2⟩ := h1
  rw [RD] at rd
  exact ⟨k, rd, q φ1 H1 S1 k s1 r1 h2⟩
theorem dt_cmp {op : CmpOp} {r : R2} {r' : D2} (ho : ∀ i, OpR (F.X i) (compareOp op) r) (l : Lk F.K r' r) (ha : DE F W a ta) (hb : DE F W b tb) (hm : behindInMarks op b = false) : DT F W (.Compare a [op] [b] pos) (dTest (dOp r' ta tb)) := by
  obtain ⟨t1, p1, k1⟩ := ha
  obtain ⟨t2, p2, k2⟩ := hb
  refine ⟨_, fun i => pt_cmpR (ho i) (p1 i) (p2 i) hm, fun σ ρ φ S H E Q' Q o q h => ?_⟩
  refine k1 σ ρ φ S H E _ _ o (fun φ1 H1 S1 d v s1 r1 rd h1 => ?_) h
  refine k2 σ ρ φ1 S1 H1 E _ _ (o.mono s1 r1) (fun φ2 H2 S2 d2 v2 s2 r2 rd2 h2 => ?_) h1
  refine l φ2 S2 H2 _ _ d d2 v v2 r2 (RD.mono s2 r1.muts _ _ rd) rd2 (fun φ3 H3 S3 d3 v3 s3 r3 rd3 h3 => ?_) h2
  obtain ⟨k, rfl, h4⟩ := h3
  rw [RD] at rd3
  exact ⟨k, rd3, q φ3 H3 S3 k ((s1.trans s2).trans s3) r3 h4⟩
def dAnd (t u : DTT) : DTT := fun ρ S Q E => t ρ S (fun c S1 => if c = true then u ρ S1 Q E else Q false S1) E
def dOr (t u : DTT) : DTT := fun ρ S Q E => t ρ S (fun c S1 => if c = true then Q true S1 else u ρ S1 Q E) E
def dNot (t : DTT) : DTT := fun ρ S Q E => t ρ S (fun c S1 => Q (!c) S1) E
theorem dw_and1 (h : DT F W a uA) : DW F W (.BoolOp .And [a] pos) uA := let ⟨t, p, k⟩ := h; ⟨t, fun i => pw_and1 (p i), k⟩
theorem dw_or1 (h : DT F W a uA) : DW F W (.BoolOp .Or [a] pos) uA := let ⟨t, p, k⟩ := h; ⟨t, fun i => pw_or1 (p i), k⟩
theorem dw_and (ha : DT F W a uA) (hb : DW F W (.BoolOp .And (b :: rest) pos) uB) : DW F W (.BoolOp .And (a :: b :: rest) pos) (dAnd uA uB) := by
  obtain ⟨t1, p1, k1⟩ := ha
  obtain ⟨t2, p2, k2⟩ := hb
  refine ⟨_, fun i => pw_and (p1 i) (p2 i), fun σ ρ φ S H E Q' Q o q h => ?_⟩
  refine k1 σ ρ φ S H E _ _ o (fun φ1 H1 S1 k s1 r1 h1 => ?_) h
  cases k with
  | false => rw [if_neg Bool.false_ne_true] at h1 ⊢; exact q φ1 H1 S1 false s1 r1 h1
  | true => rw [if_pos rfl] at h1 ⊢; exact k2 σ ρ φ1 S1 H1 E _ _ (o.mono s1 r1) (q.mono s1) h1
theorem dw_or (ha : DT F W a uA) (hb : DW F W (.BoolOp .Or (b :: rest) pos) uB) : DW F W (.BoolOp .Or (a :: b :: rest) pos) (dOr uA uB) := by
  obtain ⟨t1, p1, k1⟩ := ha
  obtain ⟨t2, p2, k2⟩ := hb
  refine ⟨_, fun i => pw_or (p1 i) (p2 i), fun σ ρ φ S H E Q' Q o q h => ?_⟩
  refine k1 σ ρ φ S H E _ _ o (fun φ1 H1 S1 k s1 r1 h1 => ?_) h
  cases k with
  | false => rw [if_neg Bool.false_ne_true] at h1 ⊢; exact k2 σ ρ φ1 S1 H1 E _ _ (o.mono s1 r1) (q.mono s1) h1
  | true => rw [if_pos rfl] at h1 ⊢; exact q φ1 H1 S1 true s1 r1 h1
theorem DW.dt (h : DW F W a uA) : DT F W a uA := let ⟨t, p, k⟩ := h; ⟨t, fun i => (p i).pt, k⟩
theorem dt_not (ha : DT F W a uA) : DT F W (.UnaryOp .Not a pos) (dNot uA) := by
  obtain ⟨t1, p1, k1⟩ := ha
  refine ⟨_, fun i => pt_not (p1 i), fun σ ρ φ S H E Q' Q o q h => ?_⟩
  exact k1 σ ρ φ S H E _ _ o (fun φ1 H1 S1 k s1 r1 h1 => q φ1 H1 S1 _ s1 r1 h1) h
/-- and, or, not as values -/
def dAndV (ta tb : DTE) : DTE := fun ρ S Q E => ta ρ S (fun d S1 => ∃ c, d = .bl c ∧ if c = true then tb ρ S1 Q E else Q (.bl false) S1) E
def dOrV (ta tb : DTE) : DTE := fun ρ S Q E => ta ρ S (fun d S1 => ∃ c, d = .bl c ∧ if c = true then Q (.bl true) S1 else tb ρ S1 Q E) E
def dNotV (ta : DTE) : DTE := fun ρ S Q E => ta ρ S (fun d S1 => ∃ c, d = .bl c ∧ Q (.bl (!c)) S1) E
theorem rd_bl {K : PySem.W.Frag} {φ : Al} {H : Hp} {b : Bool} : RD K φ H (.bl b) (.bl b) := by rw [RD]
theorem rd_int {K : PySem.W.Frag} {φ : Al} {H : Hp} {b : Int} : RD K φ H (.int b) (.int b) := by rw [RD]
theorem rd_str {K : PySem.W.Frag} {φ : Al} {H : Hp} {b : Str} : RD K φ H (.str b) (.str b) := by rw [RD]
theorem rd_non {K : PySem.W.Frag} {φ : Al} {H : Hp} : RD K φ H .non .non := by rw [RD]
theorem de_one {op} (h : DE F W a ta) : DE F W (.BoolOp op [a] pos) ta := let ⟨t, p, k⟩ := h; ⟨t, fun i => pe_one (p i), k⟩
theorem de_and (ha : DE F W a ta) (hb : DE F W (.BoolOp .And (b :: rest) pos) tb) : DE F W (.BoolOp .And (a :: b :: rest) pos) (dAndV ta tb) := by
  obtain ⟨t1, p1, k1⟩ := ha
  obtain ⟨t2, p2, k2⟩ := hb
  refine ⟨_, fun i => pe_and (p1 i) (p2 i), fun σ ρ φ S H E Q' Q o q h => ?_⟩
  refine k1 σ ρ φ S H E _ _ o (fun φ1 H1 S1 d v s1 r1 rd h1 => ?_) h
  obtain ⟨k, rfl, h1⟩ := h1
  rw [RD] at rd
  refine ⟨k, rd, ?_⟩
  cases k with
  | false => rw [if_neg Bool.false_ne_true] at h1 ⊢; exact q φ1 H1 S1 _ _ s1 r1 rd_bl h1
  | true => rw [if_pos rfl] at h1 ⊢; exact k2 σ ρ φ1 S1 H1 E _ _ (o.mono s1 r1) (q.mono s1) h1
theorem de_or (ha : DE F W a ta) (hb : DE F W (.BoolOp .Or (b :: rest) pos) tb) : DE F W (.BoolOp .Or (a :: b :: rest) pos) (dOrV ta tb) := by
  obtain ⟨t1, p1, k1⟩ := ha
  obtain ⟨t2, p2, k2⟩ := hb
  refine ⟨_, fun i => pe_or (p1 i) (p2 i), fun σ ρ φ S H E Q' Q o q h => ?_⟩
  refine k1 σ ρ φ S H E _ _ o (fun φ1 H1 S1 d v s1 r1 rd h1 => ?_) h
  obtain ⟨k, rfl, h1⟩ := h1
  rw [RD] at rd
  refine ⟨k, rd, ?_⟩
  cases k with
  | false => rw [if_neg Bool.false_ne_true] at h1 ⊢; exact k2 σ ρ φ1 S1 H1 E _ _ (o.mono s1 r1) (q.mono s1) h1
  | true => rw [if_pos rfl] at h1 ⊢; exact q φ1 H1 S1 _ _ s1 r1 rd_bl h1
theorem de_not (ha : DE F W a ta) : DE F W (.UnaryOp .Not a pos) (dNotV ta) := by
  obtain ⟨t1, p1, k1⟩ := ha
  refine ⟨_, fun i => pe_not (p1 i), fun σ ρ φ S H E Q' Q o q h => ?_⟩
  refine k1 σ ρ φ S H E _ _ o (fun φ1 H1 S1 d v s1 r1 rd h1 => ?_) h
  obtain ⟨k, rfl, h1⟩ := h1
  rw [RD] at rd
  exact ⟨k, rd, q φ1 H1 S1 _ _ s1 r1 rd_bl h1⟩
def dIf (t : DTT) (ta tb : DTE) : DTE := fun ρ S Q E => t ρ S (fun c S1 => if c = true then ta ρ S1 Q E else tb ρ S1 Q E) E
theorem de_ifExp (hc : DT F W c uC) (ha : DE F W a ta) (hb : DE F W b tb) : DE F W (.IfExp c a b pos) (dIf uC ta tb) := by
  obtain ⟨t0, p0, k0⟩ := hc
  obtain ⟨t1, p1, k1⟩ := ha
  obtain ⟨t2, p2, k2⟩ := hb
  refine ⟨_, fun i => pe_ifExp (p0 i) (p1 i) (p2 i), fun σ ρ φ S H E Q' Q o q h => ?_⟩
  refine k0 σ ρ φ S H E _ _ o (fun φ1 H1 S1 k s1 r1 h1 => ?_) h
  cases k with
  | false => rw [if_neg Bool.false_ne_true] at h1 ⊢; exact k2 σ ρ φ1 S1 H1 E _ _ (o.mono s1 r1) (q.mono s1) h1
  | true => rw [if_pos rfl] at h1 ⊢; exact k1 σ ρ φ1 S1 H1 E _ _ (o.mono s1 r1) (q.mono s1) h1

/-! ### tuples and lists made -/
def dTup (t : DTA) : DTE := fun ρ S Q E => t ρ S (fun ds S1 => ds.length ≤ sizeLine ∧ Q (.tup ds) S1) E
/-- a list that is never changed -/
def dLst (t : DTA) : DTE := fun ρ S Q E => t ρ S (fun ds S1 => ds.length ≤ sizeLine ∧ Q (.lst ds) S1) E
/-- a list that may be changed -/
def dNew (t : DTA) : DTE := fun ρ S Q E => t ρ S (fun ds S1 => ds.length ≤ sizeLine ∧ Q (.ref S1.length) (S1 ++ [.lst ds])) E
theorem rd_tup_new {K : PySem.W.Frag} {φ : Al} {H : Hp} {S : Store} {p : Addr} {ds : List D} {vs : List V} (r : SR K φ S H) (hp : H p = none) (rd : RDs K φ H ds vs) : RD K φ (upd H p (.tup vs)) (.tup ds) (.ref p) := by
  rw [RD]
  exact ⟨p, vs, rfl, .inl (.inl upd_same), RDs.mono (step_new hp) r.muts _ _ rd⟩
theorem rd_lst_new {K : PySem.W.Frag} {φ : Al} {H : Hp} {S : Store} {p : Addr} {ds : List D} {vs : List V} (r : SR K φ S H) (hp : H p = none) (rd : RDs K φ H ds vs) : RD K φ (upd H p (.lst vs)) (.lst ds) (.ref p) := by
  rw [RD]
  exact ⟨p, vs, rfl, ⟨upd_same, r.out hp, r.outb hp⟩, RDs.mono (step_new hp) r.muts _ _ rd⟩
/-- the ends: a new tuple, a new frozen list, a new list of the store -/
theorem EndV.tup {K : PySem.W.Frag} {φ : Al} {H : Hp} {S : Store} {Q' : QD} {Q : VK} (q : EndV K φ H Q' Q) (r : SR K φ S H) {p : Addr} {ds : List D} {vs : List V} (hp : H p = none) (rd : RDs K φ H ds vs) (h : Q' (.tup ds) S) : Q (.ref p) (upd H p (.tup vs)) :=
  q φ _ S _ _ (step_new hp) (r.new hp) (rd_tup_new r hp rd) h
theorem EndV.lst {K : PySem.W.Frag} {φ : Al} {H : Hp} {S : Store} {Q' : QD} {Q : VK} (q : EndV K φ H Q' Q) (r : SR K φ S H) {p : Addr} {ds : List D} {vs : List V} (hp : H p = none) (rd : RDs K φ H ds vs) (h : Q' (.lst ds) S) : Q (.ref p) (upd H p (.lst vs)) :=
  q φ _ S _ _ (step_new hp) (r.new hp) (rd_lst_new r hp rd) h
theorem EndV.newL {K : PySem.W.Frag} {φ : Al} {H : Hp} {S : Store} {Q' : QD} {Q : VK} (q : EndV K φ H Q' Q) (r : SR K φ S H) {p : Addr} {ds : List D} {vs : List V} (hp : H p = none) (rd : RDs K φ H ds vs) (h : Q' (.ref S.length) (S ++ [.lst ds])) : Q (.ref p) (upd H p (.lst vs)) :=
  q (φ.push p) _ _ _ _ (step_push r hp) (r.push (o := .lst ds) hp ⟨vs, upd_same, RDs.mono (step_push r hp) r.muts _ _ rd⟩) (by rw [RD]; exact ⟨p, rfl, by rw [r.len]; simp⟩) h
theorem de_tup {x1} (h : DA F W es t) : DE F W (.Tuple es x1 pos) (dTup t) := by
  obtain ⟨t1, p1, k1⟩ := h
  refine ⟨_, fun i => pe_tup (p1 i), fun σ ρ φ S H E Q' Q o q h => ?_⟩
  refine k1 σ ρ φ S H E _ _ o (fun φ1 H1 S1 ds vs s1 r1 rd h1 => ?_) h
  exact ⟨by rw [rd.length]; exact h1.1, fun p hp => (q.mono s1).tup r1 hp rd h1.2⟩
theorem de_lst (h : DA F W es t) : DE F W (.List es pos) (dLst t) := by
  obtain ⟨t1, p1, k1⟩ := h
  refine ⟨_, fun i => pe_lst (p1 i), fun σ ρ φ S H E Q' Q o q h => ?_⟩
  refine k1 σ ρ φ S H E _ _ o (fun φ1 H1 S1 ds vs s1 r1 rd h1 => ?_) h
  exact ⟨by rw [rd.length]; exact h1.1, fun p hp => (q.mono s1).lst r1 hp rd h1.2⟩
theorem de_new (h : DA F W es t) : DE F W (.List es pos) (dNew t) := by
  obtain ⟨t1, p1, k1⟩ := h
  refine ⟨_, fun i => pe_lst (p1 i), fun σ ρ φ S H E Q' Q o q h => ?_⟩
  refine k1 σ ρ φ S H E _ _ o (fun φ1 H1 S1 ds vs s1 r1 rd h1 => ?_) h
  exact ⟨by rw [rd.length]; exact h1.1, fun p hp => (q.mono s1).newL r1 hp rd h1.2⟩
end
end Dy
namespace Dy
open PySem PySem.Spec PyProof.Rows L2

/-! ### what may be read as a list, a tuple -/
def lsM (S : Store) : D → Option (List D)
  | .lst xs => some xs
  | .ref n => match S[n]? with
    | some (.lst xs) => some xs
    | _ => none
  | _ => none
def lsOf (S : Store) : D → Option (List D)
  | .lst xs => some xs
  | .frz xs => some xs
  | .ref n => match S[n]? with
    | some (.lst xs) => some xs
    | _ => none
  | _ => none
def tpOf : D → Option (List D)
  | .tup xs => some xs
  | _ => none
/-- a list or a tuple -/
def sqOf (S : Store) : D → Option (List D)
  | .tup xs => some xs
  | d => lsOf S d
section
variable {K : PySem.W.Frag} {φ : Al} {H : Hp} {S : Store} {d : D} {v : V} {xs : List D}
theorem rd_tup (h : RD K φ H (.tup xs) v) : ∃ a vs, v = .ref a ∧ SqT K H a vs ∧ RDs K φ H xs vs := by rw [RD] at h; exact h
theorem rd_ref {n : Nat} (h : RD K φ H (.ref n) v) : ∃ a, v = .ref a ∧ φ.l[n]? = some a := by rw [RD] at h; exact h
theorem SR.lst (r : SR K φ S H) {n : Nat} (h : RD K φ H (.ref n) v) (e : S[n]? = some (.lst xs)) : ∃ a vs, v = .ref a ∧ φ.l[n]? = some a ∧ H a = some (.lst vs) ∧ RDs K φ H xs vs := by
  obtain ⟨a, rfl, ha⟩ := rd_ref h
  obtain ⟨vs, h1, h2⟩ := r.at_ n a _ ha e
  exact ⟨a, vs, rfl, ha, h1, h2⟩
theorem ls_m (r : SR K φ S H) (rd : RD K φ H d v) (h : lsM S d = some xs) : ∃ a vs, v = .ref a ∧ H a = some (.lst vs) ∧ RDs K φ H xs vs := by
  cases d with
  | lst ys =>
    rw [RD] at rd
    obtain ⟨a, vs, rfl, h1, h2⟩ := rd
    cases h
    exact ⟨a, vs, rfl, h1.1, h2⟩
  | ref n =>
    simp only [lsM] at h
    split at h
    · rename_i ys e
      cases h
      obtain ⟨a, vs, e1, _, h1, h2⟩ := r.lst rd e
      exact ⟨a, vs, e1, h1, h2⟩
    · cases h
  | _ => cases h
theorem ls_of (r : SR K φ S H) (rd : RD K φ H d v) (h : lsOf S d = some xs) : ∃ a vs, v = .ref a ∧ SqL K H a vs ∧ RDs K φ H xs vs := by
  cases d with
  | lst ys =>
    rw [RD] at rd
    obtain ⟨a, vs, rfl, h1, h2⟩ := rd
    cases h
    exact ⟨a, vs, rfl, h1.sq, h2⟩
  | frz ys =>
    rw [RD] at rd
    obtain ⟨a, vs, rfl, h1, h2⟩ := rd
    cases h
    exact ⟨a, vs, rfl, h1.sq, h2⟩
  | ref n =>
    simp only [lsOf] at h
    split at h
    · rename_i ys e
      cases h
      obtain ⟨a, vs, e1, _, h1, h2⟩ := r.lst rd e
      exact ⟨a, vs, e1, SqL.of h1, h2⟩
    · cases h
  | _ => cases h
theorem sq_of (r : SR K φ S H) (rd : RD K φ H d v) (h : sqOf S d = some xs) : ∃ a vs, v = .ref a ∧ (SqL K H a vs ∨ SqT K H a vs) ∧ RDs K φ H xs vs := by
  unfold sqOf at h
  split at h
  · cases h
    obtain ⟨a, vs, e, h1, h2⟩ := rd_tup rd
    exact ⟨a, vs, e, .inr h1, h2⟩
  · obtain ⟨a, vs, e, h1, h2⟩ := ls_of r rd h
    exact ⟨a, vs, e, .inl h1, h2⟩
end

/-! ### operators -/
def dI0 (g : Int → Int → D) : D2 := fun x y S Q => ∃ i j, x = .int i ∧ y = .int j ∧ Q (g i j) S
def dI (C : Int → Int → Prop) (g : Int → Int → D) : D2 := fun x y S Q => ∃ i j, x = .int i ∧ y = .int j ∧ C i j ∧ Q (g i j) S
theorem lk_I0 {K : PySem.W.Frag} {g : Int → Int → D} {g' : Int → Int → V} (hg : ∀ i j, Flat (g i j) (g' i j)) : Lk K (dI0 g) (rI0 g') := by
  rintro φ S H Q' Q d1 d2 v1 v2 r r1 r2 q ⟨i, j, rfl, rfl, h⟩
  rw [RD] at r1 r2
  exact ⟨i, j, r1, r2, q φ H S _ _ .refl r (hg i j).rd h⟩
theorem lk_I {K : PySem.W.Frag} {C : Int → Int → Prop} {g : Int → Int → D} {g' : Int → Int → V} (hg : ∀ i j, Flat (g i j) (g' i j)) : Lk K (dI C g) (rI C g') := by
  rintro φ S H Q' Q d1 d2 v1 v2 r r1 r2 q ⟨i, j, rfl, rfl, c, h⟩
  rw [RD] at r1 r2
  exact ⟨i, j, r1, r2, c, q φ H S _ _ .refl r (hg i j).rd h⟩
theorem Lk.or {K : PySem.W.Frag} {a b : D2} {r s : R2} (h : Lk K a r) (k : Lk K b s) : Lk K (fun x y S Q => a x y S Q ∨ b x y S Q) (fun x y H Q => r x y H Q ∨ s x y H Q) := by
  rintro φ S H Q' Q d1 d2 v1 v2 r r1 r2 q (z | z)
  · exact .inl (h _ _ _ _ _ _ _ _ _ r r1 r2 q z)
  · exact .inr (k _ _ _ _ _ _ _ _ _ r r1 r2 q z)
def dAddS : D2 := fun x y S Q => ∃ i j, x = .str i ∧ y = .str j ∧ i.length + j.length ≤ sizeLine ∧ Q (.str (i ++ j)) S
def dAddT : D2 := fun x y S Q => ∃ xs ys, x = .tup xs ∧ y = .tup ys ∧ xs.length + ys.length ≤ sizeLine ∧ Q (.tup (xs ++ ys)) S
/-- two lists: a new one that is not changed any more | one of the store -/
def dCat : D2 := fun x y S Q => ∃ xs ys, lsM S x = some xs ∧ lsM S y = some ys ∧ xs.length + ys.length ≤ sizeLine ∧ Q (.lst (xs ++ ys)) S
def dCatN : D2 := fun x y S Q => ∃ xs ys, lsM S x = some xs ∧ lsM S y = some ys ∧ xs.length + ys.length ≤ sizeLine ∧ Q (.ref S.length) (S ++ [.lst (xs ++ ys)])
def dRepT : D2 := fun x y S Q => ∃ xs k, x = .tup xs ∧ y = .int k ∧ xs ≠ [] ∧ 2 ≤ k ∧ k ≤ 1000 ∧ xs.length ≤ 1000 ∧ Q (.tup (List.replicate k.toNat xs).flatten) S
section
variable {K : PySem.W.Frag}
theorem lk_addS : Lk K dAddS (fun x y H Q => ∃ i j, x = .str i ∧ y = .str j ∧ i.length + j.length ≤ sizeLine ∧ Q (.str (i ++ j)) H) := by
  rintro φ S H Q' Q d1 d2 v1 v2 r r1 r2 q ⟨i, j, rfl, rfl, c, h⟩
  rw [RD] at r1 r2
  exact ⟨i, j, r1, r2, c, q φ H S _ _ .refl r rd_str h⟩
theorem RDs.ne_nil {φ : Al} {H : Hp} {xs : List D} {vs : List V} (h : RDs K φ H xs vs) : vs = [] ↔ xs = [] := by
  constructor
  · intro e
    have := h.length
    rw [e] at this
    exact List.length_eq_zero_iff.mp this.symm
  · intro e
    rw [e, RDs] at h; exact h
theorem lk_addT : Lk K dAddT (rCatA K) := by
  rintro φ S H Q' Q d1 d2 v1 v2 r r1 r2 q ⟨xs, ys, rfl, rfl, c, h⟩
  obtain ⟨a, vs, rfl, h1, h2⟩ := rd_tup r1
  obtain ⟨b, ws, rfl, k1, k2⟩ := rd_tup r2
  refine ⟨a, b, vs, ws, rfl, rfl, h1, k1, by rw [h2.length, k2.length]; exact c, fun e => ?_, fun _ e => ?_, fun _ _ p hp => ?_⟩
  · have e' := h2.ne_nil.mp e
    subst e'
    exact q φ H S _ _ .refl r r2 h
  · have e' := k2.ne_nil.mp e
    subst e'
    rw [List.append_nil] at h
    exact q φ H S _ _ .refl r r1 h
  · exact q.tup r hp (h2.append k2) h
theorem lk_cat : Lk K dCat rCat := by
  rintro φ S H Q' Q d1 d2 v1 v2 r r1 r2 q ⟨xs, ys, e1, e2, c, h⟩
  obtain ⟨a, vs, rfl, h1, h2⟩ := ls_m r r1 e1
  obtain ⟨b, ws, rfl, k1, k2⟩ := ls_m r r2 e2
  exact ⟨a, b, vs, ws, rfl, rfl, h1, k1, by rw [h2.length, k2.length]; exact c, fun p hp => q.lst r hp (h2.append k2) h⟩
theorem lk_catN : Lk K dCatN rCat := by
  rintro φ S H Q' Q d1 d2 v1 v2 r r1 r2 q ⟨xs, ys, e1, e2, c, h⟩
  obtain ⟨a, vs, rfl, h1, h2⟩ := ls_m r r1 e1
  obtain ⟨b, ws, rfl, k1, k2⟩ := ls_m r r2 e2
  exact ⟨a, b, vs, ws, rfl, rfl, h1, k1, by rw [h2.length, k2.length]; exact c, fun p hp => q.newL r hp (h2.append k2) h⟩
theorem RDs.rep {φ : Al} {H : Hp} {xs : List D} {vs : List V} (h : RDs K φ H xs vs) : ∀ k : Nat, RDs K φ H (List.replicate k xs).flatten (List.replicate k vs).flatten
  | 0 => .nil
  | k + 1 => by
    rw [List.replicate_succ, List.replicate_succ, List.flatten_cons, List.flatten_cons]
    exact h.append (RDs.rep h k)
theorem lk_repT : Lk K dRepT (rRepT K) := by
  rintro φ S H Q' Q d1 d2 v1 v2 r r1 r2 q ⟨xs, k, rfl, rfl, ne, c1, c2, c3, h⟩
  obtain ⟨a, vs, rfl, h1, h2⟩ := rd_tup r1
  rw [RD] at r2
  subst r2
  exact ⟨a, k, vs, rfl, rfl, h1, fun e => ne (h2.ne_nil.mp e), c1, c2, by rw [h2.length]; exact c3, fun p hp => q.tup r hp (h2.rep _) h⟩
/-- + of ints, texts, tuples -/
def dAdd : D2 := fun x y S Q => match x, y with
  | .int i, .int j => Q (.int (i + j)) S
  | .str i, .str j => i.length + j.length ≤ sizeLine ∧ Q (.str (i ++ j)) S
  | .tup xs, .tup ys => xs.length + ys.length ≤ sizeLine ∧ Q (.tup (xs ++ ys)) S
  | _, _ => False
theorem op_addA {X : Cx} : OpR X (binaryOp .Add) (fun x y H Q => rI0 (fun i j => .int (i + j)) x y H Q ∨ (∃ i j, x = .str i ∧ y = .str j ∧ i.length + j.length ≤ sizeLine ∧ Q (.str (i ++ j)) H) ∨ rCatA X.K x y H Q) :=
  OpR.or op_add (OpR.or op_add_str op_catA)
theorem lk_add : Lk K dAdd (fun x y H Q => rI0 (fun i j => .int (i + j)) x y H Q ∨ (∃ i j, x = .str i ∧ y = .str j ∧ i.length + j.length ≤ sizeLine ∧ Q (.str (i ++ j)) H) ∨ rCatA K x y H Q) := by
  intro φ S H Q' Q x y v1 v2 r r1 r2 q h
  unfold dAdd at h
  split at h
  · exact .inl (lk_I0 (g := fun i j => .int (i + j)) (fun _ _ => rfl) φ S H Q' Q _ _ v1 v2 r r1 r2 q ⟨_, _, rfl, rfl, h⟩)
  · exact .inr (.inl (lk_addS φ S H Q' Q _ _ v1 v2 r r1 r2 q ⟨_, _, rfl, rfl, h⟩))
  · exact .inr (.inr (lk_addT φ S H Q' Q _ _ v1 v2 r r1 r2 q ⟨_, _, rfl, rfl, h⟩))
  · exact h.elim
end
section
variable {F : Fam} {W : WX} {a b c e : Expr} {es rest : List Expr} {pos : Pos} {ta tb tc te : DTE} {uA uB uC : DTT} {t : DTA}
theorem de_add (ha : DE F W a ta) (hb : DE F W b tb) : DE F W (.BinOp a .Add b pos) (dOp dAdd ta tb) := de_op (fun i => F.hK i ▸ op_addA) lk_add ha hb
theorem de_cat (ha : DE F W a ta) (hb : DE F W b tb) : DE F W (.BinOp a .Add b pos) (dOp dCat ta tb) := de_op (fun _ => op_cat) lk_cat ha hb
theorem de_catN (ha : DE F W a ta) (hb : DE F W b tb) : DE F W (.BinOp a .Add b pos) (dOp dCatN ta tb) := de_op (fun _ => op_cat) lk_catN ha hb
theorem de_sub (ha : DE F W a ta) (hb : DE F W b tb) : DE F W (.BinOp a .Sub b pos) (dOp (dI0 fun i j => .int (i - j)) ta tb) := de_op (fun _ => op_sub) (lk_I0 fun _ _ => rfl) ha hb
/-- one factor small, or both not too great -/
def CMulA (i j : Int) : Prop := CMul i j ∨ CMulW i j
theorem op_mulA {X : Cx} : OpR X (binaryOp .Mult) (rI CMulA fun i j => .int (i * j)) := by
  intro pins s σ H x y v u Q I rx ry h
  obtain ⟨i, j, e1, e2, c, q⟩ := h
  rcases c with c | c
  · exact op_mul pins s σ H x y v u Q I rx ry ⟨i, j, e1, e2, c, q⟩
  · exact op_mulW pins s σ H x y v u Q I rx ry ⟨i, j, e1, e2, c, q⟩
theorem de_mul (ha : DE F W a ta) (hb : DE F W b tb) : DE F W (.BinOp a .Mult b pos) (dOp (dI CMulA fun i j => .int (i * j)) ta tb) := de_op (fun _ => op_mulA) (lk_I fun _ _ => rfl) ha hb
theorem de_repT (ha : DE F W a ta) (hb : DE F W b tb) : DE F W (.BinOp a .Mult b pos) (dOp dRepT ta tb) := de_op (fun i => F.hK i ▸ op_repT) lk_repT ha hb
theorem de_fdiv (ha : DE F W a ta) (hb : DE F W b tb) : DE F W (.BinOp a .FloorDiv b pos) (dOp (dI CDivW fun i j => .int (i / j)) ta tb) := de_op (fun _ => op_fdivW) (lk_I fun _ _ => rfl) ha hb
theorem de_mod (ha : DE F W a ta) (hb : DE F W b tb) : DE F W (.BinOp a .Mod b pos) (dOp (dI (fun _ j => 0 < j) fun i j => .int (i % j)) ta tb) := de_op (fun _ => op_mod) (lk_I fun _ _ => rfl) ha hb
theorem de_pow (ha : DE F W a ta) (hb : DE F W b tb) : DE F W (.BinOp a .Pow b pos) (dOp (dI CPow fun i j => .int (i ^ j.toNat)) ta tb) := de_op (fun _ => op_pow) (lk_I fun _ _ => rfl) ha hb
theorem de_shl (ha : DE F W a ta) (hb : DE F W b tb) : DE F W (.BinOp a .LShift b pos) (dOp (dI CPow fun i j => .int (i * 2 ^ j.toNat)) ta tb) := de_op (fun _ => op_shl) (lk_I fun _ _ => rfl) ha hb
theorem de_shr (ha : DE F W a ta) (hb : DE F W b tb) : DE F W (.BinOp a .RShift b pos) (dOp (dI (fun _ j => 0 ≤ j) fun i j => .int (i / 2 ^ j.toNat)) ta tb) := de_op (fun _ => op_shr) (lk_I fun _ _ => rfl) ha hb
theorem de_band (ha : DE F W a ta) (hb : DE F W b tb) : DE F W (.BinOp a .BitAnd b pos) (dOp (dI0 fun i j => .int (Builtin.bitAnd i j)) ta tb) := de_op (fun _ => op_and) (lk_I0 fun _ _ => rfl) ha hb
theorem de_bor (ha : DE F W a ta) (hb : DE F W b tb) : DE F W (.BinOp a .BitOr b pos) (dOp (dI0 fun i j => .int (Builtin.bitOr i j)) ta tb) := de_op (fun _ => op_or) (lk_I0 fun _ _ => rfl) ha hb
def dNeg : D → Store → QD → Prop := fun x S Q => ∃ i, x = .int i ∧ Q (.int (-i)) S
def dInv : D → Store → QD → Prop := fun x S Q => ∃ i, x = .int i ∧ Q (.int (Builtin.bitNot i)) S
theorem de_neg (ha : DE F W a ta) : DE F W (.UnaryOp .USub a pos) (dUn dNeg ta) := de_un (fun _ => un_neg) (by
  rintro φ S H Q' Q d v r rd q ⟨i, rfl, h⟩
  rw [RD] at rd
  exact ⟨i, rd, q φ H S _ _ .refl r rd_int h⟩) ha
theorem de_inv (ha : DE F W a ta) : DE F W (.UnaryOp .Invert a pos) (dUn dInv ta) := de_un (fun _ => un_inv) (by
  rintro φ S H Q' Q d v r rd q ⟨i, rfl, h⟩
  rw [RD] at rd
  exact ⟨i, rd, q φ H S _ _ .refl r rd_int h⟩) ha
/-! comparisons of ints -/
abbrev dLt : D2 := dI0 fun i j => .bl (decide (i < j))
abbrev dLe : D2 := dI0 fun i j => .bl (decide (i ≤ j))
abbrev dGt : D2 := dI0 fun i j => .bl (decide (j < i))
abbrev dGe : D2 := dI0 fun i j => .bl (decide (j ≤ i))
theorem lk_lt {K : PySem.W.Frag} : Lk K dLt (rI0 fun i j => .bl (decide (i < j))) := lk_I0 fun _ _ => rfl
theorem lk_le {K : PySem.W.Frag} : Lk K dLe (rI0 fun i j => .bl (decide (i ≤ j))) := lk_I0 fun _ _ => rfl
theorem lk_gt {K : PySem.W.Frag} : Lk K dGt (rI0 fun i j => .bl (decide (j < i))) := lk_I0 fun _ _ => rfl
theorem lk_ge {K : PySem.W.Frag} : Lk K dGe (rI0 fun i j => .bl (decide (j ≤ i))) := lk_I0 fun _ _ => rfl
/-- is None, is not None -/
def isN : D → Bool
  | .non => true
  | _ => false
theorem isN_eq {K : PySem.W.Frag} {φ : Al} {H : Hp} {d : D} {v : V} (h : RD K φ H d v) : decide (v = .non) = isN d := by
  cases d <;> rw [RD] at h
  case non => rw [h]; rfl
  case tup => obtain ⟨a, _, e, _⟩ := h; rw [e]; rfl
  case lst => obtain ⟨a, _, e, _⟩ := h; rw [e]; rfl
  case frz => obtain ⟨a, _, e, _⟩ := h; rw [e]; rfl
  case dic => obtain ⟨a, _, e, _⟩ := h; rw [e]; rfl
  case ref => obtain ⟨a, e, _⟩ := h; rw [e]; rfl
  case exo => obtain ⟨_, e, _⟩ := h; rw [e]; rfl
  all_goals (rw [h]; rfl)
def dIsN : D2 := fun x y S Q => y = .non ∧ Q (.bl (isN x)) S
def dNotN : D2 := fun x y S Q => y = .non ∧ Q (.bl (!isN x)) S
theorem lk_isN {K : PySem.W.Frag} : Lk K dIsN (fun x y H Q => y = .non ∧ Q (.bl (decide (x = .non))) H) := by
  rintro φ S H Q' Q d1 d2 v1 v2 r r1 r2 q ⟨rfl, h⟩
  rw [isN_eq r1]
  rw [RD] at r2
  exact ⟨r2, q φ H S _ _ .refl r rd_bl h⟩
theorem lk_notN {K : PySem.W.Frag} : Lk K dNotN (fun x y H Q => y = .non ∧ Q (.bl (!decide (x = .non))) H) := by
  rintro φ S H Q' Q d1 d2 v1 v2 r r1 r2 q ⟨rfl, h⟩
  rw [isN_eq r1]
  rw [RD] at r2
  exact ⟨r2, q φ H S _ _ .refl r rd_bl h⟩
/-! ### a op1 b op2 c -/
def dChain (r r' : D2) (ta tb tc : DTE) : DTE := fun ρ S Q E => ta ρ S (fun x S1 => tb ρ S1 (fun y S2 => r x y S2 fun z S3 => ∃ k, z = .bl k ∧ (if k = true then tc ρ S3 (fun w S4 => r' y w S4 Q) E else Q (.bl false) S3)) E) E
theorem de_chain {op op' : CmpOp} {r r' : R2} {s s' : D2} (ho : ∀ i, OpR (F.X i) (compareOp op) r) (ho' : ∀ i, OpR (F.X i) (compareOp op') r') (l : Lk F.K s r) (l' : Lk F.K s' r') (ha : DE F W a ta) (hb : DE F W b tb) (hc : DE F W c tc)
    (hm : lastMarks [op, op'] [b, c] = false := by with_unfolding_all rfl) : DE F W (.Compare a [op, op'] [b, c] pos) (dChain s s' ta tb tc) := by
  obtain ⟨t1, p1, k1⟩ := ha
  obtain ⟨t2, p2, k2⟩ := hb
  obtain ⟨t3, p3, k3⟩ := hc
  refine ⟨_, fun i => pe_chain (ho i) (ho' i) (p1 i) (p2 i) (p3 i) hm, fun σ ρ φ S H E Q' Q o q h => ?_⟩
  refine k1 σ ρ φ S H E _ _ o (fun φ1 H1 S1 d v s1 r1 rd h1 => ?_) h
  refine k2 σ ρ φ1 S1 H1 E _ _ (o.mono s1 r1) (fun φ2 H2 S2 d2 v2 s2 r2 rd2 h2 => ?_) h1
  refine l φ2 S2 H2 _ _ d d2 v v2 r2 (RD.mono s2 r1.muts _ _ rd) rd2 (fun φ3 H3 S3 d3 v3 s3 r3 rd3 h3 => ?_) h2
  obtain ⟨k, rfl, h4⟩ := h3
  rw [RD] at rd3
  refine ⟨k, rd3, ?_⟩
  have s13 := (s1.trans s2).trans s3
  cases k with
  | false => rw [if_neg Bool.false_ne_true] at h4 ⊢; exact q φ3 H3 S3 _ _ s13 r3 rd_bl h4
  | true =>
    rw [if_pos rfl] at h4 ⊢
    refine k3 σ ρ φ3 S3 H3 E _ _ (o.mono s13 r3) (fun φ4 H4 S4 d4 v4 s4 r4 rd4 h5 => ?_) h4
    exact l' φ4 S4 H4 _ _ d2 d4 v2 v4 r4 (RD.mono (s3.trans s4) r2.muts _ _ rd2) rd4 (q.mono (s13.trans s4)) h5
theorem dt_chain {op op' : CmpOp} {r r' : R2} {s s' : D2} (ho : ∀ i, OpR (F.X i) (compareOp op) r) (ho' : ∀ i, OpR (F.X i) (compareOp op') r') (l : Lk F.K s r) (l' : Lk F.K s' r') (ha : DE F W a ta) (hb : DE F W b tb) (hc : DE F W c tc)
    (hm : lastMarks [op, op'] [b, c] = false := by with_unfolding_all rfl) : DT F W (.Compare a [op, op'] [b, c] pos) (dTest (dChain s s' ta tb tc)) := by
  obtain ⟨t1, p1, k1⟩ := ha
  obtain ⟨t2, p2, k2⟩ := hb
  obtain ⟨t3, p3, k3⟩ := hc
  refine ⟨_, fun i => pt_chain (ho i) (ho' i) (p1 i) (p2 i) (p3 i) hm, fun σ ρ φ S H E Q' Q o q h => ?_⟩
  refine k1 σ ρ φ S H E _ _ o (fun φ1 H1 S1 d v s1 r1 rd h1 => ?_) h
  refine k2 σ ρ φ1 S1 H1 E _ _ (o.mono s1 r1) (fun φ2 H2 S2 d2 v2 s2 r2 rd2 h2 => ?_) h1
  refine l φ2 S2 H2 _ _ d d2 v v2 r2 (RD.mono s2 r1.muts _ _ rd) rd2 (fun φ3 H3 S3 d3 v3 s3 r3 rd3 h3 => ?_) h2
  obtain ⟨k, rfl, h4⟩ := h3
  rw [RD] at rd3
  refine ⟨k, rd3, ?_⟩
  have s13 := (s1.trans s2).trans s3
  cases k with
  | false =>
    rw [if_neg Bool.false_ne_true] at h4 ⊢
    obtain ⟨k, e, h4⟩ := h4
    cases e
    exact ⟨_, rfl, q φ3 H3 S3 _ s13 r3 h4⟩
  | true =>
    rw [if_pos rfl] at h4 ⊢
    refine k3 σ ρ φ3 S3 H3 E _ _ (o.mono s13 r3) (fun φ4 H4 S4 d4 v4 s4 r4 rd4 h5 => ?_) h4
    refine l' φ4 S4 H4 _ _ d2 d4 v2 v4 r4 (RD.mono (s3.trans s4) r2.muts _ _ rd2) rd4 (fun φ5 H5 S5 d5 v5 s5 r5 rd5 h6 => ?_) h5
    obtain ⟨k, rfl, h7⟩ := h6
    rw [RD] at rd5
    exact ⟨k, rd5, q φ5 H5 S5 _ ((s13.trans s4).trans s5) r5 h7⟩

/-! ### subscripts -/
def dIx : D2 := fun x y S Q => ∃ xs i v, sqOf S x = some xs ∧ y = .int i ∧ atI xs i = some v ∧ Q v S
theorem at_rd {K : PySem.W.Frag} {φ : Al} {H : Hp} {xs : List D} {vs : List V} {i : Int} {d : D} (h : RDs K φ H xs vs) (e : atI xs i = some d) : ∃ v, atI vs i = some v ∧ RD K φ H d v := by
  unfold atI at e ⊢
  rw [h.length]
  cases q : ixN xs.length i with
  | none => rw [q] at e; cases e
  | some j =>
    rw [q] at e
    obtain ⟨v, e1, e2⟩ := h.get (i := j) e
    exact ⟨v, e1, e2⟩
theorem lk_ix {K : PySem.W.Frag} : Lk K dIx (rIx K) := by
  rintro φ S H Q' Q d1 d2 v1 v2 r r1 r2 q ⟨xs, i, d, e, rfl, e2, h⟩
  obtain ⟨a, vs, rfl, h1, h2⟩ := sq_of r r1 e
  rw [RD] at r2
  subst r2
  obtain ⟨v, e3, rd⟩ := at_rd h2 e2
  rcases h1 with h1 | h1
  · exact .inl ⟨a, vs, i, v, rfl, rfl, h1, e3, q φ H S _ _ .refl r rd h⟩
  · exact .inr (.inl ⟨a, vs, i, v, rfl, rfl, h1, e3, q φ H S _ _ .refl r rd h⟩)
theorem de_at (ha : DE F W a ta) (hb : DE F W b tb) (hs : PlainIx b := by exact fun _ _ => rfl) : DE F W (.Subscript a b pos) (dOp dIx ta tb) := de_ix (fun i => F.hK i ▸ ix_seq) lk_ix ha hb hs
/-! slices -/
abbrev DTO := Rho → Store → (Option Int → Store → Prop) → XQ → Prop
def EndO (K : PySem.W.Frag) (φ : Al) (H : Hp) (Q' : Option Int → Store → Prop) (Q : Option Int → Hp → Prop) : Prop :=
  ∀ φ' H' S' b, Step φ φ' H H' → SR K φ' S' H' → Q' b S' → Q b H'
def DO (F : Fam) (W : WX) (e : Option Expr) (t' : DTO) : Prop :=
  ∃ t : TO, (∀ i, PO (F.X i) e t) ∧ ∀ σ ρ φ S H E Q' Q, Ok F.K W σ ρ φ S H E → EndO F.K φ H Q' Q → t' ρ S Q' E → t σ H Q
def dNoPart : DTO := fun _ S Q _ => Q none S
def dPart (te : DTE) : DTO := fun ρ S Q E => te ρ S (fun d S1 => ∃ i, d = .int i ∧ Q (some i) S1) E
theorem do_none : DO F W none dNoPart := ⟨_, fun _ => po_none, fun σ ρ φ S H E Q' Q o q h => q φ H S _ .refl o.sr h⟩
theorem do_some (h : DE F W e te) : DO F W (some e) (dPart te) := by
  obtain ⟨t1, p1, k1⟩ := h
  refine ⟨_, fun i => po_some (p1 i), fun σ ρ φ S H E Q' Q o q h => ?_⟩
  refine k1 σ ρ φ S H E _ _ o (fun φ1 H1 S1 d v s1 r1 rd h1 => ?_) h
  obtain ⟨i, rfl, h2⟩ := h1
  rw [RD] at rd
  exact ⟨i, rd, q φ1 H1 S1 _ s1 r1 h2⟩
def cutD (xs : List D) (lo hi : Option Int) : List D := (xs.drop (HT.sIx xs.length 0 lo)).take (HT.sIx xs.length xs.length hi - HT.sIx xs.length 0 lo)
theorem cut_rd {K : PySem.W.Frag} {φ : Al} {H : Hp} {xs : List D} {vs : List V} (h : RDs K φ H xs vs) (lo hi : Option Int) : RDs K φ H (cutD xs lo hi) (cutV vs lo hi) := by
  unfold cutD cutV
  rw [h.length]
  exact (h.drop _).take _
def dSl (r : D → Option Int → Option Int → Store → QD → Prop) (te : DTE) (tl th : DTO) : DTE := fun ρ S Q E => te ρ S (fun x S1 => tl ρ S1 (fun l S2 => th ρ S2 (fun u S3 => r x l u S3 Q) E) E) E
/-- of a tuple; of a list: a new one that is not changed any more -/
def dSlT : D → Option Int → Option Int → Store → QD → Prop := fun x lo hi S Q => ∃ xs, x = .tup xs ∧ Q (.tup (cutD xs lo hi)) S
def dSlL : D → Option Int → Option Int → Store → QD → Prop := fun x lo hi S Q => ∃ xs, lsOf S x = some xs ∧ Q (.lst (cutD xs lo hi)) S
theorem sl_whole {xs : List D} {lo hi : Option Int} (h : HT.sIx xs.length 0 lo = 0 ∧ HT.sIx xs.length xs.length hi = xs.length) : cutD xs lo hi = xs := by
  unfold cutD
  rw [h.1, h.2]
  simp
theorem de_sl {r : V → Option Int → Option Int → Hp → VK → Prop} {r' : D → Option Int → Option Int → Store → QD → Prop} {l u : Option Expr} {tl th : DTO} {p2 : Pos} (hr : ∀ i, SlR (F.X i) r)
    (lk : ∀ φ S H Q' Q d v lo hi, SR F.K φ S H → RD F.K φ H d v → EndV F.K φ H Q' Q → r' d lo hi S Q' → r v lo hi H Q) (he : DE F W e te) (hl : DO F W l tl) (hu : DO F W u th) : DE F W (.Subscript e (.Slice l u none p2) pos) (dSl r' te tl th) := by
  obtain ⟨t1, p1, k1⟩ := he
  obtain ⟨t2, p2, k2⟩ := hl
  obtain ⟨t3, p3, k3⟩ := hu
  refine ⟨_, fun i => pe_slice (hr i) (p1 i) (p2 i) (p3 i), fun σ ρ φ S H E Q' Q o q h => ?_⟩
  refine k1 σ ρ φ S H E _ _ o (fun φ1 H1 S1 d v s1 r1 rd h1 => ?_) h
  refine k2 σ ρ φ1 S1 H1 E _ _ (o.mono s1 r1) (fun φ2 H2 S2 lo s2 r2 h2 => ?_) h1
  refine k3 σ ρ φ2 S2 H2 E _ _ (o.mono (s1.trans s2) r2) (fun φ3 H3 S3 hi s3 r3 h3 => ?_) h2
  exact lk φ3 S3 H3 _ _ d v lo hi r3 (RD.mono (s2.trans s3) r1.muts _ _ rd) (q.mono ((s1.trans s2).trans s3)) h3
theorem de_slT {l u : Option Expr} {tl th : DTO} {p2 : Pos} (he : DE F W e te) (hl : DO F W l tl) (hu : DO F W u th) : DE F W (.Subscript e (.Slice l u none p2) pos) (dSl dSlT te tl th) := by
  refine de_sl (fun i => F.hK i ▸ sl_tupA) ?_ he hl hu
  rintro φ S H Q' Q d v lo hi r rd q ⟨xs, rfl, h⟩
  obtain ⟨a, vs, rfl, h1, h2⟩ := rd_tup rd
  refine ⟨a, vs, rfl, h1, fun w => ?_, fun _ p hp => q.tup r hp (cut_rd h2 lo hi) h⟩
  rw [h2.length] at w
  rw [sl_whole w] at h
  exact q φ H S _ _ .refl r rd h
theorem de_slL {l u : Option Expr} {tl th : DTO} {p2 : Pos} (he : DE F W e te) (hl : DO F W l tl) (hu : DO F W u th) : DE F W (.Subscript e (.Slice l u none p2) pos) (dSl dSlL te tl th) := by
  refine de_sl (fun i => F.hK i ▸ sl_list) ?_ he hl hu
  rintro φ S H Q' Q d v lo hi r rd q ⟨xs, e, h⟩
  obtain ⟨a, vs, rfl, h1, h2⟩ := ls_of r rd e
  exact ⟨a, vs, rfl, h1, fun p hp => q.lst r hp (cut_rd h2 lo hi) h⟩

/-! ### calls of built-ins -/
abbrev DR := List D → Store → QD → Prop
def LkC (K : PySem.W.Frag) (r' : DR) (r : List V → Hp → VK → Prop) : Prop := ∀ φ S H Q' Q ds vs, SR K φ S H → RDs K φ H ds vs → EndV K φ H Q' Q → r' ds S Q' → r vs H Q
def dCB (r : DR) (t : DTA) : DTE := fun ρ S Q E => t ρ S (fun ds S1 => r ds S1 Q) E
theorem de_callB {x : Str} {p : Pos} {id : String} {r : List V → Hp → VK → Prop} {r' : DR} (hc : ∀ i, CallR (F.X i) (.builtin id) r) (l : LkC F.K r' r) (hg : ∀ i, Gl (F.X i) x) (hm : ∀ i, (F.X i).mg x = none) (hv : bootBuiltins x = some (.builtin id)) (ha : DA F W (e :: es) t) (hn : x ≠ "__name__" := by decide) (hdb : (x == ("__debug__" : Str)) = false := by decide)
    (he : ∀ i, starEach (e :: es) (F.X i).env = (false, eval e (F.X i).env) :: starEach es (F.X i).env := by intro _; rfl) (hpl : ∀ i, (backTo pos (starEach es (F.X i).env)).any (·.1) = false := by intro _; rfl) : DE F W (.Call (.Name x p) (e :: es) [] pos) (dCB r' t) := by
  obtain ⟨t1, p1, k1⟩ := ha
  refine ⟨_, fun i => pe_callB (hc i) (hg i) (hm i) hv (p1 i) hn hdb (he i) (hpl i), fun σ ρ φ S H E Q' Q o q h => ?_⟩
  exact k1 σ ρ φ S H E _ _ o (fun φ1 H1 S1 ds vs s1 r1 rd h1 => l φ1 S1 H1 _ _ ds vs r1 rd (q.mono s1) h1) h
theorem de_callTy {x : Str} {p : Pos} {T : String} {r : List V → Hp → VK → Prop} {r' : DR} (hc : ∀ i, CallR (F.X i) (.type T) r) (l : LkC F.K r' r) (hg : ∀ i, Gl (F.X i) x) (hm : ∀ i, (F.X i).mg x = none) (hv : bootBuiltins x = some (.type T)) (ha : DA F W (e :: es) t) (hn : x ≠ "__name__" := by decide) (hdb : (x == ("__debug__" : Str)) = false := by decide)
    (he : ∀ i, starEach (e :: es) (F.X i).env = (false, eval e (F.X i).env) :: starEach es (F.X i).env := by intro _; rfl) (hpl : ∀ i, (backTo pos (starEach es (F.X i).env)).any (·.1) = false := by intro _; rfl) : DE F W (.Call (.Name x p) (e :: es) [] pos) (dCB r' t) := by
  obtain ⟨t1, p1, k1⟩ := ha
  refine ⟨_, fun i => pe_callTy (hc i) (hg i) (hm i) hv (p1 i) hn hdb (he i) (hpl i), fun σ ρ φ S H E Q' Q o q h => ?_⟩
  exact k1 σ ρ φ S H E _ _ o (fun φ1 H1 S1 ds vs s1 r1 rd h1 => l φ1 S1 H1 _ _ ds vs r1 rd (q.mono s1) h1) h
section
variable {K : PySem.W.Frag}
theorem rds1 {φ : Al} {H : Hp} {d : D} {vs : List V} (h : RDs K φ H [d] vs) : ∃ v, vs = [v] ∧ RD K φ H d v := by
  rw [RDs] at h
  obtain ⟨v, r, rfl, h1, h2⟩ := h
  rw [RDs] at h2
  subst h2
  exact ⟨v, rfl, h1⟩
theorem rds2 {φ : Al} {H : Hp} {d c : D} {vs : List V} (h : RDs K φ H [d, c] vs) : ∃ v w, vs = [v, w] ∧ RD K φ H d v ∧ RD K φ H c w := by
  rw [RDs] at h
  obtain ⟨v, r, rfl, h1, h2⟩ := h
  obtain ⟨w, rfl, h3⟩ := rds1 h2
  exact ⟨v, w, rfl, h1, h3⟩
def cInt : DR := fun ds S Q => (∃ i, ds = [.int i] ∧ Q (.int i) S) ∨ ∃ k, ds = [.bl k] ∧ Q (.int (if k then 1 else 0)) S
theorem lk_int : LkC K cInt (fun xs H Q => (∃ i, xs = [.int i] ∧ Q (.int i) H) ∨ ∃ k, xs = [.bl k] ∧ Q (.int (if k then 1 else 0)) H) := by
  rintro φ S H Q' Q ds vs r rd q (⟨i, rfl, h⟩ | ⟨i, rfl, h⟩)
  · obtain ⟨v, rfl, h1⟩ := rds1 rd
    rw [RD] at h1
    exact .inl ⟨i, by rw [h1], q φ H S _ _ .refl r rd_int h⟩
  · obtain ⟨v, rfl, h1⟩ := rds1 rd
    rw [RD] at h1
    exact .inr ⟨i, by rw [h1], q φ H S _ _ .refl r rd_int h⟩
def cAbs : DR := fun ds S Q => ∃ i, ds = [.int i] ∧ Q (.int (if i < 0 then -i else i)) S
theorem lk_abs : LkC K cAbs (fun xs H Q => ∃ i, xs = [.int i] ∧ Q (.int (if i < 0 then -i else i)) H) := by
  rintro φ S H Q' Q ds vs r rd q ⟨i, rfl, h⟩
  obtain ⟨v, rfl, h1⟩ := rds1 rd
  rw [RD] at h1
  exact ⟨i, by rw [h1], q φ H S _ _ .refl r rd_int h⟩
def cLen : DR := fun ds S Q => ∃ d xs, ds = [d] ∧ sqOf S d = some xs ∧ Q (.int xs.length) S
theorem lk_len : LkC K cLen (fun xs H Q => ∃ p ys, xs = [.ref p] ∧ (SqL K H p ys ∨ SqT K H p ys) ∧ Q (.int ys.length) H) := by
  rintro φ S H Q' Q ds vs r rd q ⟨d, xs, rfl, e, h⟩
  obtain ⟨v, rfl, h1⟩ := rds1 rd
  obtain ⟨a, ws, rfl, h2, h3⟩ := sq_of r h1 e
  refine ⟨a, ws, rfl, h2, ?_⟩
  rw [h3.length]
  exact q φ H S _ _ .refl r rd_int h
/-- list(x): a new one, not changed any more | of the store -/
def cList : DR := fun ds S Q => ∃ d xs, ds = [d] ∧ sqOf S d = some xs ∧ Q (.lst xs) S
def cListN : DR := fun ds S Q => ∃ d xs, ds = [d] ∧ sqOf S d = some xs ∧ Q (.ref S.length) (S ++ [.lst xs])
theorem lk_list : LkC K cList (fun xs H Q => ∃ p ys, xs = [.ref p] ∧ (SqL K H p ys ∨ SqT K H p ys) ∧ ∀ l, H l = none → Q (.ref l) (upd H l (.lst ys))) := by
  rintro φ S H Q' Q ds vs r rd q ⟨d, xs, rfl, e, h⟩
  obtain ⟨v, rfl, h1⟩ := rds1 rd
  obtain ⟨a, ws, rfl, h2, h3⟩ := sq_of r h1 e
  exact ⟨a, ws, rfl, h2, fun l hl => q.lst r hl h3 h⟩
theorem lk_listN : LkC K cListN (fun xs H Q => ∃ p ys, xs = [.ref p] ∧ (SqL K H p ys ∨ SqT K H p ys) ∧ ∀ l, H l = none → Q (.ref l) (upd H l (.lst ys))) := by
  rintro φ S H Q' Q ds vs r rd q ⟨d, xs, rfl, e, h⟩
  obtain ⟨v, rfl, h1⟩ := rds1 rd
  obtain ⟨a, ws, rfl, h2, h3⟩ := sq_of r h1 e
  exact ⟨a, ws, rfl, h2, fun l hl => q.newL r hl h3 h⟩
def cTuple : DR := fun ds S Q => ∃ d xs, ds = [d] ∧ sqOf S d = some xs ∧ Q (.tup xs) S
theorem lk_tuple : LkC K cTuple (fun xs H Q => ∃ p ys, xs = [.ref p] ∧ ((SqL K H p ys ∧ ∀ l, H l = none → Q (.ref l) (upd H l (.tup ys))) ∨ (SqT K H p ys ∧ Q (.ref p) H))) := by
  rintro φ S H Q' Q ds vs r rd q ⟨d, xs, rfl, e, h⟩
  obtain ⟨v, rfl, h1⟩ := rds1 rd
  unfold sqOf at e
  split at e
  · cases e
    obtain ⟨a, ws, rfl, h2, h3⟩ := rd_tup h1
    exact ⟨a, ws, rfl, .inr ⟨h2, q φ H S _ _ .refl r h1 h⟩⟩
  · obtain ⟨a, ws, rfl, h2, h3⟩ := ls_of r h1 e
    exact ⟨a, ws, rfl, .inl ⟨h2, fun l hl => q.tup r hl h3 h⟩⟩
def cAll : DR := fun ds S Q => ∃ (d : D) (bs : List Bool), ds = [d] ∧ lsOf S d = some (bs.map D.bl) ∧ Q (.bl (bs.all id)) S
def cAny : DR := fun ds S Q => ∃ (d : D) (bs : List Bool), ds = [d] ∧ lsOf S d = some (bs.map D.bl) ∧ Q (.bl (bs.any id)) S
theorem lk_all : LkC K cAll (rAll K) := by
  rintro φ S H Q' Q ds vs r rd q ⟨d, bs, rfl, e, h⟩
  obtain ⟨v, rfl, h1⟩ := rds1 rd
  obtain ⟨a, ws, rfl, h2, h3⟩ := ls_of r h1 e
  have := h3.bls_inv
  subst this
  exact ⟨a, bs, rfl, h2, q φ H S _ _ .refl r rd_bl h⟩
theorem lk_any : LkC K cAny (rAny K) := by
  rintro φ S H Q' Q ds vs r rd q ⟨d, bs, rfl, e, h⟩
  obtain ⟨v, rfl, h1⟩ := rds1 rd
  obtain ⟨a, ws, rfl, h2, h3⟩ := ls_of r h1 e
  have := h3.bls_inv
  subst this
  exact ⟨a, bs, rfl, h2, q φ H S _ _ .refl r rd_bl h⟩
def cSum : DR := fun ds S Q => ∃ (d : D) (ns : List Int), ds = [d] ∧ lsOf S d = some (ns.map D.int) ∧ Q (.int ns.sum) S
theorem lk_sum : LkC K cSum (rSum K) := by
  rintro φ S H Q' Q ds vs r rd q ⟨d, bs, rfl, e, h⟩
  obtain ⟨v, rfl, h1⟩ := rds1 rd
  obtain ⟨a, ws, rfl, h2, h3⟩ := ls_of r h1 e
  have := h3.ints_inv
  subst this
  exact ⟨a, bs, rfl, h2, q φ H S _ _ .refl r rd_int h⟩
end
end
end Dy
namespace Dy
open PySem PySem.Spec PyProof.Rows L2

/-! ### statements -/
structure DEnds where
  nx : Rho → Store → Prop
  rt : D → Store → Prop
  bk : Rho → Store → Prop := fun _ _ => False
  ct : Rho → Store → Prop := fun _ _ => False
  ex : Exc → Rho → Store → Prop := fun _ _ _ => False
abbrev DTS := DEnds → Rho → Store → Prop
structure Lnk (K : PySem.W.Frag) (W : WX) (φ : Al) (H : Hp) (D' : DEnds) (D : Ends) : Prop where
  nx : ∀ φ' H' S' ρ' σ', Step φ φ' H H' → SR K φ' S' H' → Sl K φ' H' ρ' σ' → D'.nx ρ' S' → D.nx σ' H'
  rt : ∀ φ' H' S' d v, Step φ φ' H H' → SR K φ' S' H' → RD K φ' H' d v → D'.rt d S' → D.rt v H'
  bk : ∀ φ' H' S' ρ' σ', Step φ φ' H H' → SR K φ' S' H' → Sl K φ' H' ρ' σ' → D'.bk ρ' S' → D.bk σ' H'
  ct : ∀ φ' H' S' ρ' σ', Step φ φ' H H' → SR K φ' S' H' → Sl K φ' H' ρ' σ' → D'.ct ρ' S' → D.ct σ' H'
  ex : ∀ φ' H' S' ρ' σ' x cls d, Step φ φ' H H' → SR K φ' S' H' → Sl K φ' H' ρ' σ' → ExR K φ' H' x cls d → D'.ex x ρ' S' → W cls d σ' H'
section
variable {K : PySem.W.Frag} {W : WX} {φ φ' : Al} {H H' : Hp} {S : Store} {ρ : Rho} {σ : L2.St} {D' : DEnds} {D : Ends}
theorem Lnk.mono (l : Lnk K W φ H D' D) (s : Step φ φ' H H') : Lnk K W φ' H' D' D :=
  ⟨fun _ _ _ _ _ t r sl h => l.nx _ _ _ _ _ (s.trans t) r sl h, fun _ _ _ _ _ t r rd h => l.rt _ _ _ _ _ (s.trans t) r rd h, fun _ _ _ _ _ t r sl h => l.bk _ _ _ _ _ (s.trans t) r sl h,
    fun _ _ _ _ _ t r sl h => l.ct _ _ _ _ _ (s.trans t) r sl h, fun _ _ _ _ _ _ _ _ t r sl x h => l.ex _ _ _ _ _ _ _ _ (s.trans t) r sl x h⟩
theorem Lnk.ok (l : Lnk K W φ H D' D) (r : SR K φ S H) (sl : Sl K φ H ρ σ) : Ok K W σ ρ φ S H (fun x S1 => D'.ex x ρ S1) :=
  ⟨r, sl, fun _ _ _ _ _ _ t r' x h => l.ex _ _ _ _ _ _ _ _ t r' (sl.mono t r.muts) x h⟩
/-- another next end -/
theorem Lnk.next (l : Lnk K W φ H D' D) {n' : Rho → Store → Prop} {n : L2.St → Hp → Prop} (h : ∀ φ' H' S' ρ' σ', Step φ φ' H H' → SR K φ' S' H' → Sl K φ' H' ρ' σ' → n' ρ' S' → n σ' H') : Lnk K W φ H { D' with nx := n' } { D with nx := n } :=
  ⟨h, l.rt, l.bk, l.ct, l.ex⟩
end
def DS (F : Fam) (W : WX) (st : Stmt) (t' : DTS) : Prop :=
  ∃ t : TS, (∀ i, PS (F.X i) st t) ∧ ∀ σ ρ φ S H D' D, SR F.K φ S H → Sl F.K φ H ρ σ → Lnk F.K W φ H D' D → t' D' ρ S → t D σ H
def DSs (F : Fam) (W : WX) (sts : List Stmt) (t' : DTS) : Prop :=
  ∃ t : TS, (∀ i, PSs (F.X i) sts t) ∧ ∀ σ ρ φ S H D' D, SR F.K φ S H → Sl F.K φ H ρ σ → Lnk F.K W φ H D' D → t' D' ρ S → t D σ H
section
variable {F : Fam} {W : WX} {a b c e : Expr} {es : List Expr} {st : Stmt} {rest sa sb : List Stmt} {pos : Pos} {te ta tb : DTE} {uC : DTT} {t : DTA} {u v w : DTS}
def dNext : DTS := fun D ρ S => D.nx ρ S
def dSeq (u v : DTS) : DTS := fun D ρ S => u { D with nx := v D } ρ S
theorem ds_nil : DSs F W [] dNext := ⟨_, fun _ => pss_nil, fun σ ρ φ S H D' D r sl l h => l.nx _ _ _ _ _ .refl r sl h⟩
theorem ds_cons (h1 : DS F W st u) (h2 : DSs F W rest v) : DSs F W (st :: rest) (dSeq u v) := by
  obtain ⟨t1, p1, k1⟩ := h1
  obtain ⟨t2, p2, k2⟩ := h2
  exact ⟨_, fun i => pss_cons (p1 i) (p2 i), fun σ ρ φ S H D' D r sl l h =>
    k1 σ ρ φ S H _ _ r sl (l.next fun φ1 H1 S1 ρ1 σ1 s r1 sl1 q => k2 σ1 ρ1 φ1 S1 H1 D' D r1 sl1 (l.mono s) q) h⟩
theorem ds_one (h : DS F W st u) : DSs F W [st] u := let ⟨t, p, k⟩ := h; ⟨t, fun i => pss_one (p i), k⟩
theorem ds_pass : DS F W (.Pass pos) dNext := ⟨_, fun _ => ps_pass, fun σ ρ φ S H D' D r sl l h => l.nx _ _ _ _ _ .refl r sl h⟩
theorem ds_break : DS F W (.Break pos) (fun D ρ S => D.bk ρ S) := ⟨_, fun _ => ps_break, fun σ ρ φ S H D' D r sl l h => l.bk _ _ _ _ _ .refl r sl h⟩
theorem ds_continue : DS F W (.Continue pos) (fun D ρ S => D.ct ρ S) := ⟨_, fun _ => ps_continue, fun σ ρ φ S H D' D r sl l h => l.ct _ _ _ _ _ .refl r sl h⟩
def dDrop (te : DTE) : DTS := fun D ρ S => te ρ S (fun _ S1 => D.nx ρ S1) (fun x S1 => D.ex x ρ S1)
theorem ds_expr (he : DE F W e te) (hs : ∀ i, swapsWith e none pos.line (F.X i).env = pure false := by intro _; rfl) : DS F W (.Expr e pos) (dDrop te) := by
  obtain ⟨t1, p1, k1⟩ := he
  exact ⟨_, fun i => ps_expr (p1 i) (hs i), fun σ ρ φ S H D' D r sl l h => k1 σ ρ φ S H _ _ _ (l.ok r sl) (fun φ1 H1 S1 d v s r1 rd q => l.nx _ _ _ _ _ s r1 (sl.mono s r.muts) q) h⟩
def dRet (te : DTE) : DTS := fun D ρ S => te ρ S D.rt (fun x S1 => D.ex x ρ S1)
theorem ds_ret (he : DE F W e te) : DS F W (.Return (some e) pos) (dRet te) := by
  obtain ⟨t1, p1, k1⟩ := he
  exact ⟨_, fun i => ps_ret (p1 i), fun σ ρ φ S H D' D r sl l h => k1 σ ρ φ S H _ _ _ (l.ok r sl) (fun φ1 H1 S1 d v s r1 rd q => l.rt _ _ _ _ _ s r1 rd q) h⟩
def dRetN : DTS := fun D _ S => D.rt .non S
theorem ds_retN : DS F W (.Return none pos) dRetN := ⟨_, fun _ => ps_retN, fun σ ρ φ S H D' D r sl l h => l.rt _ _ _ _ _ .refl r rd_non h⟩
def dIfS (t : DTT) (u v : DTS) : DTS := fun D ρ S => t ρ S (fun b S1 => if b = true then u D ρ S1 else v D ρ S1) (fun x S1 => D.ex x ρ S1)
theorem ds_if (hc : DT F W c uC) (ha : DSs F W sa u) (hb : DSs F W sb v) : DS F W (.If c sa sb pos) (dIfS uC u v) := by
  obtain ⟨t0, p0, k0⟩ := hc
  obtain ⟨t1, p1, k1⟩ := ha
  obtain ⟨t2, p2, k2⟩ := hb
  refine ⟨_, fun i => ps_if (p0 i) (p1 i) (p2 i), fun σ ρ φ S H D' D r sl l h => ?_⟩
  refine k0 σ ρ φ S H _ _ _ (l.ok r sl) (fun φ1 H1 S1 k s r1 q => ?_) h
  cases k with
  | false => rw [if_neg Bool.false_ne_true] at q ⊢; exact k2 σ ρ φ1 S1 H1 D' D r1 (sl.mono s r.muts) (l.mono s) q
  | true => rw [if_pos rfl] at q ⊢; exact k1 σ ρ φ1 S1 H1 D' D r1 (sl.mono s r.muts) (l.mono s) q

/-! ### targets, assignments -/
abbrev DTG := D → Rho → Store → (Rho → Store → Prop) → Prop
abbrev DTGs := List D → Rho → Store → (Rho → Store → Prop) → Prop
def EndG (K : PySem.W.Frag) (φ : Al) (H : Hp) (Q' : Rho → Store → Prop) (Q : L2.St → Hp → Prop) : Prop := ∀ φ' H' S' ρ' σ', Step φ φ' H H' → SR K φ' S' H' → Sl K φ' H' ρ' σ' → Q' ρ' S' → Q σ' H'
def DG (F : Fam) (target : Expr) (t' : DTG) : Prop :=
  ∃ t : TG, (∀ i, PG (F.X i) target t) ∧ ∀ σ ρ φ S H d v Q' Q, SR F.K φ S H → Sl F.K φ H ρ σ → RD F.K φ H d v → EndG F.K φ H Q' Q → t' d ρ S Q' → t v σ H Q
def DGs (F : Fam) (ts : List Expr) (t' : DTGs) : Prop :=
  ∃ t : TGs, (∀ i, PGs (F.X i) ts t) ∧ ∀ σ ρ φ S H ds vs Q' Q, SR F.K φ S H → Sl F.K φ H ρ σ → RDs F.K φ H ds vs → EndG F.K φ H Q' Q → t' ds ρ S Q' → t vs σ H Q
def eName (i : Nat) : DTG := fun d ρ S Q => Q (ρ.set i (some d)) S
theorem dg_name (i : Nat) {x : Str} (hN : ∀ j, (F.X j).N.Nodup) (hi : ∀ j, (F.X j).N[i]? = some x := by intro _; rfl) (hx : ∀ j, Loc (F.X j).env.scope x := by intro _; first | exact Or.inl rfl | exact Or.inr rfl) (hf : ∀ j, (F.X j).fn x = true ∨ (F.X j).env.scope.names.lookup x = some .local := by intro _; first | exact .inl rfl | exact .inr rfl) : DG F (.Name x pos) (eName i) :=
  ⟨_, fun j => pg_name (hN j) (hi j) (hx j) (hf j), fun σ ρ φ S H d v Q' Q r sl rd q h => q _ _ _ _ _ .refl r (sl.set rd) h⟩
def eNil : DTGs := fun ds ρ S Q => ds = [] ∧ Q ρ S
def eCons (t : DTG) (u : DTGs) : DTGs := fun ds ρ S Q => ∃ d r, ds = d :: r ∧ t d ρ S fun ρ1 S1 => u r ρ1 S1 Q
theorem dgs_nil : DGs F [] eNil := by
  refine ⟨_, fun _ => pgs_nil, fun σ ρ φ S H ds vs Q' Q r sl rd q h => ?_⟩
  obtain ⟨rfl, h⟩ := h
  rw [RDs] at rd
  exact ⟨rd, q _ _ _ _ _ .refl r sl h⟩
theorem dgs_cons {t : DTG} {u : DTGs} (h1 : DG F e t) (h2 : DGs F es u) (hs : ∀ i, (assignEach (e :: es) (F.X i).env).map (·.2) = assign e (F.X i).env :: (assignEach es (F.X i).env).map (·.2) := by intro _; rfl) : DGs F (e :: es) (eCons t u) := by
  obtain ⟨t1, p1, k1⟩ := h1
  obtain ⟨t2, p2, k2⟩ := h2
  refine ⟨_, fun i => pgs_cons (p1 i) (p2 i) (hs i), fun σ ρ φ S H ds vs Q' Q r sl rd q h => ?_⟩
  obtain ⟨d, ds', rfl, h⟩ := h
  rw [RDs] at rd
  obtain ⟨v, vs', rfl, rd1, rd2⟩ := rd
  refine ⟨v, vs', rfl, k1 σ ρ φ S H d v _ _ r sl rd1 (fun φ1 H1 S1 ρ1 σ1 s r1 sl1 h1 => ?_) h⟩
  exact k2 σ1 ρ1 φ1 S1 H1 ds' vs' _ _ r1 sl1 (RDs.mono s r.muts _ _ rd2) (fun _ _ _ _ _ s2 r2 sl2 h2 => q _ _ _ _ _ (s.trans s2) r2 sl2 h2) h1
def eTup (n : Nat) (t : DTGs) : DTG := fun d ρ S Q => ∃ xs, d = .tup xs ∧ xs.length = n ∧ t xs ρ S Q
theorem dg_tup {k : Nat} {t : DTGs} {n : Nat} (hc : ∀ i, (F.X i).calm = true) (h : DGs F es t)
    (hn : ∀ i, (assignEach es (F.X i).env).length = n := by intro _; rfl) (hst : ∀ i, (assignEach es (F.X i).env).findIdx? (·.1) = none := by intro _; rfl) : DG F (.Tuple es k pos) (eTup n t) := by
  obtain ⟨t1, p1, k1⟩ := h
  refine ⟨_, fun i => F.hK i ▸ pg_tup (hc i) (p1 i) (hn i) (hst i), fun σ ρ φ S H d v Q' Q r sl rd q h => ?_⟩
  obtain ⟨xs, rfl, hl, h⟩ := h
  obtain ⟨a, vs, rfl, h1, h2⟩ := rd_tup rd
  exact ⟨a, vs, rfl, h1, by rw [h2.length]; exact hl, k1 σ ρ φ S H xs vs _ _ r sl h2 q h⟩
def dAsg (te : DTE) (g : DTG) : DTS := fun D ρ S => te ρ S (fun d S1 => g d ρ S1 D.nx) (fun x S1 => D.ex x ρ S1)
theorem ds_asg {tg : Expr} {g : DTG} (he : DE F W e te) (hg : DG F tg g) (hs : ∀ i, swapsWithSole [tg] e pos.line (F.X i).env = pure false := by intro _; rfl) (hw : ∀ i, swappedStores [tg] e (F.X i).env = pure none := by intro _; rfl)
    (h1 : ∀ i, (assignEach [tg] (F.X i).env).map (·.2) = [assign tg (F.X i).env] := by intro _; rfl) : DS F W (.Assign [tg] e pos) (dAsg te g) := by
  obtain ⟨t1, p1, k1⟩ := he
  obtain ⟨t2, p2, k2⟩ := hg
  exact ⟨_, fun i => ps_asg (p1 i) (p2 i) (hs i) (hw i) (h1 i), fun σ ρ φ S H D' D r sl l h => k1 σ ρ φ S H _ _ _ (l.ok r sl) (fun φ1 H1 S1 d v s r1 rd q =>
    k2 σ ρ φ1 S1 H1 d v _ _ r1 (sl.mono s r.muts) rd (fun φ2 H2 S2 ρ2 σ2 s2 r2 sl2 q2 => l.nx _ _ _ _ _ (s.trans s2) r2 sl2 q2) q) h⟩
theorem ds_set (i : Nat) {x : Str} {pos' : Pos} (hN : ∀ j, (F.X j).N.Nodup) (he : DE F W e te) (hi : ∀ j, (F.X j).N[i]? = some x := by intro _; rfl) (hx : ∀ j, Loc (F.X j).env.scope x := by intro _; first | exact Or.inl rfl | exact Or.inr rfl) (hs : ∀ j, swapsWith e (some (.Name x pos')) pos.line (F.X j).env = pure false := by intro _; rfl) (hf : ∀ j, (F.X j).fn x = true ∨ (F.X j).env.scope.names.lookup x = some .local := by intro _; first | exact .inl rfl | exact .inr rfl) :
    DS F W (.Assign [.Name x pos'] e pos) (dAsg te (eName i)) := by
  obtain ⟨t1, p1, k1⟩ := he
  exact ⟨_, fun j => ps_set (hN j) (hi j) (hx j) (p1 j) (hs j) (hf j), fun σ ρ φ S H D' D r sl l h => k1 σ ρ φ S H _ _ _ (l.ok r sl) (fun φ1 H1 S1 d v s r1 rd q => l.nx _ _ _ _ _ s r1 ((sl.mono s r.muts).set rd) q) h⟩
/-- a, b = x, y with plain local names -/
def dPar (i j : Nat) (t : DTA) : DTS := fun D ρ S => t ρ S (fun ds S1 => ∃ d c, ds = [d, c] ∧ D.nx ((ρ.set i (some d)).set j (some c)) S1) (fun x S1 => D.ex x ρ S1)
theorem ds_par (i j : Nat) {x y : Str} {px py pt : Pos} {kt k2 pt2} (hc : ∀ k, (F.X k).calm = true) (hN : ∀ k, (F.X k).N.Nodup) (ha : DA F W [a, b] t) (hi : ∀ k, (F.X k).N[i]? = some x := by intro _; rfl) (hj : ∀ k, (F.X k).N[j]? = some y := by intro _; rfl) (hij : i ≠ j := by decide)
    (hx : ∀ k, (F.X k).env.scope.names.lookup x = some .local := by intro _; rfl) (hy : ∀ k, (F.X k).env.scope.names.lookup y = some .local := by intro _; rfl)
    (hw : ∀ k, swappedStores [.Tuple [.Name x px, .Name y py] kt pt] (.Tuple [a, b] k2 pt2) (F.X k).env = pure (some [x, y]) := by intro _; rfl)
    (hs : ∀ k, swapsWithSole [.Tuple [.Name x px, .Name y py] kt pt] (.Tuple [a, b] k2 pt2) pos.line (F.X k).env = pure false := by intro _; rfl) :
    DS F W (.Assign [.Tuple [.Name x px, .Name y py] kt pt] (.Tuple [a, b] k2 pt2) pos) (dPar i j t) := by
  obtain ⟨t1, p1, k1⟩ := ha
  refine ⟨_, fun k => ps_par (hc k) (hN k) (hi k) (hj k) hij (hx k) (hy k) (p1 k) (hw k) (hs k), fun σ ρ φ S H D' D r sl l h => k1 σ ρ φ S H _ _ _ (l.ok r sl) (fun φ1 H1 S1 ds vs s r1 rd q => ?_) h⟩
  obtain ⟨d, c, rfl, q⟩ := q
  obtain ⟨v, w, rfl, h1, h2⟩ := rds2 rd
  exact ⟨v, w, rfl, l.nx _ _ _ _ _ s r1 (((sl.mono s r.muts).set h1).set h2) q⟩
/-- x op= e, x a name -/
def dAug (i : Nat) (te : DTE) (r : D2) : DTS := fun D ρ S => ∃ x, ρ[i]? = some (some x) ∧ te ρ S (fun d S1 => r x d S1 fun z S2 => D.nx (ρ.set i (some z)) S2) (fun x S1 => D.ex x ρ S1)
theorem ds_aug (i : Nat) {x : Str} {op : Operator} {r : R2} {r' : D2} {pos' : Pos} (hN : ∀ j, (F.X j).N.Nodup) (ho : ∀ j, OpR (F.X j) (inplaceOp op) r) (lk : Lk F.K r' r) (he : DE F W e te) (hi : ∀ j, (F.X j).N[i]? = some x := by intro _; rfl) (hx : ∀ j, Loc (F.X j).env.scope x := by intro _; first | exact Or.inl rfl | exact Or.inr rfl)
    (hf : ∀ j, (F.X j).fn x = true ∨ (F.X j).env.scope.names.lookup x = some .local := by intro _; first | exact .inl rfl | exact .inr rfl) : DS F W (.AugAssign (.Name x pos') op e pos) (dAug i te r') := by
  obtain ⟨t1, p1, k1⟩ := he
  refine ⟨_, fun j => ps_aug (ti := r) (hN j) (hi j) (hx j) (p1 j) (ho j) (hf j), fun σ ρ φ S H D' D r sl l h => ?_⟩
  obtain ⟨x, ex, h⟩ := h
  obtain ⟨v, ev, rx⟩ := sl.at_ i x ex
  refine ⟨v, ev, k1 σ ρ φ S H _ _ _ (l.ok r sl) (fun φ1 H1 S1 d w s r1 rd q => ?_) h⟩
  refine lk φ1 S1 H1 _ _ x d v w r1 (RD.mono s r.muts _ _ rx) rd (fun φ2 H2 S2 z u s2 r2 rz q2 => ?_) q
  exact l.nx _ _ _ _ _ (s.trans s2) r2 ((sl.mono (s.trans s2) r.muts).set rz) q2
/-- xs[i] = e, a list of the store -/
def dSetL (te to ti : DTE) : DTS := fun D ρ S => te ρ S (fun d S1 => to ρ S1 (fun o S2 => ti ρ S2 (fun i S3 => ∃ n xs k j, o = .ref n ∧ S3[n]? = some (.lst xs) ∧ i = .int k ∧ ixN xs.length k = some j ∧ D.nx ρ (S3.set n (.lst (xs.set j d))))
  (fun x S1 => D.ex x ρ S1)) (fun x S1 => D.ex x ρ S1)) (fun x S1 => D.ex x ρ S1)
theorem ds_setL {o i : Expr} {to ti : DTE} {p2 : Pos} (he : DE F W e te) (ho : DE F W o to) (hi : DE F W i ti) (hs : ∀ j, swapsWithSole [.Subscript o i p2] e pos.line (F.X j).env = pure false := by intro _; rfl) (hw : ∀ j, swappedStores [.Subscript o i p2] e (F.X j).env = pure none := by intro _; rfl)
    (h1 : ∀ j, (assignEach [.Subscript o i p2] (F.X j).env).map (·.2) = [assign (.Subscript o i p2) (F.X j).env] := by intro _; rfl)
    (ha : ∀ j v, assign (.Subscript o i p2) (F.X j).env v = (do
      let ov ← holding [v] (eval o (F.X j).env)
      let iv ← holding [v, ov] (eval i (F.X j).env)
      standAt p2
      holding [v, ov, iv] (setItem ov iv v)
      release [v, ov, iv] []) := by intro _ _; rfl) : DS F W (.Assign [.Subscript o i p2] e pos) (dSetL te to ti) := by
  obtain ⟨t1, p1, k1⟩ := he
  obtain ⟨t2, q2, k2⟩ := ho
  obtain ⟨t3, p3, k3⟩ := hi
  refine ⟨_, fun j => ps_asg (p1 j) (pg_sub (q2 j) (p3 j) set_list (ha j)) (hs j) (hw j) (h1 j), fun σ ρ φ S H D' D r sl l h => ?_⟩
  have o0 := l.ok r sl
  refine k1 σ ρ φ S H _ _ _ o0 (fun φ1 H1 S1 d v s1 r1 rd h1 => ?_) h
  refine k2 σ ρ φ1 S1 H1 _ _ _ (o0.mono s1 r1) (fun φ2 H2 S2 od ov s2 r2 ro h2 => ?_) h1
  refine k3 σ ρ φ2 S2 H2 _ _ _ (o0.mono (s1.trans s2) r2) (fun φ3 H3 S3 i iv s3 r3 ri h3 => ?_) h2
  obtain ⟨n, xs, k, j, rfl, e1, rfl, e2, q⟩ := h3
  obtain ⟨a, vs, e3, ha, e4, rs⟩ := r3.lst (RD.mono s3 r2.muts _ _ ro) e1
  rw [RD] at ri
  refine ⟨a, vs, k, j, e3, ri, e4, by rw [rs.length]; exact e2, ?_⟩
  have st := r3.step_put (ho := .lst (vs.set j v)) ha
  refine l.nx _ _ _ _ _ (((s1.trans s2).trans s3).trans st) (r3.put (o := .lst (xs.set j d)) ha ⟨_, upd_same, ?_⟩) (sl.mono (((s1.trans s2).trans s3).trans st) r.muts) q
  exact RDs.mono st r3.muts _ _ (rs.set j (RD.mono (s2.trans s3) r1.muts _ _ rd))

/-! ### what is walked -/
/-- J walks the items xs while live holds of the store -/
def WalkD (K : PySem.W.Frag) (J : It) (xs : List D) (live : Store → Prop) (φ : Al) (H : Hp) : Prop :=
  ∀ φ2 H2 S2 i, Step φ φ2 H H2 → SR K φ2 S2 H2 → live S2 → (xs.length = i → J.stop i H2) ∧
    (i < xs.length → J.go i H2 ∧ ∀ v H3, J.yld i H2 v H3 → ∃ d, xs[i]? = some d ∧ Step φ2 φ2 H2 H3 ∧ SR K φ2 S2 H3 ∧ RD K φ2 H3 d v)
abbrev DTI := Rho → Store → (List D → (Store → Prop) → Store → Prop) → XQ → Prop
def DI (F : Fam) (W : WX) (tg iter : Expr) (t' : DTI) : Prop :=
  ∃ wi : TI, (∀ i, PI (F.X i) tg iter wi) ∧ ∀ σ ρ φ S H E R' R, Ok F.K W σ ρ φ S H E → (∀ φ1 H1 S1 xs live J, Step φ φ1 H H1 → SR F.K φ1 S1 H1 → WalkD F.K J xs live φ1 H1 → R' xs live S1 → R J H1) → t' ρ S R' E → wi σ H R
def iSq (K : PySem.W.Frag) (tl : TE) : TI := fun σ H R => tl σ H fun x H1 => ∃ a, x = .ref a ∧ (((∃ xs, SqL K H1 a xs) ∧ R (Itl K a) H1) ∨ ((∃ xs, SqT K H1 a xs) ∧ R (Itt K a) H1))
theorem pi_sq {X : Cx} {tg l : Expr} {tl : TE} (hl : PE X l tl) : PI X tg l (iSq X.K tl) := by
  refine ⟨fun pins s σ H R I h => ?_⟩
  refine thn (hl.run pins s σ H _ I h) fun v s1 ⟨x, H1, I1, r1, q1⟩ => ?_
  obtain ⟨a, e, q⟩ := q1
  subst e
  cases r1
  rcases q with ⟨⟨xs, hq⟩, q⟩ | ⟨⟨xs, hq⟩, q⟩
  · obtain ⟨its, rv, p, hz⟩ := I1.list hq
    refine wpAny_pyIter_list p.isList ?_
    refine ⟨s1.heap.objs.size, [s1.heap.objs.size], _, _, H1, rfl, I1.kept (t' := s1.toks) fun b o e => Heap.get?_push_of_some _ e, turn_list a _, ⟨_, Heap.get?_push_size _ rfl, rfl, rfl⟩, fun b hb => ?_, q⟩
    have e : b = s1.heap.objs.size := by simpa using hb
    subst e
    exact I1.fpOk (Nat.le_refl _) (I1.hok.fresh (Nat.le_refl _))
  · obtain ⟨its, rv, p, hz⟩ := I1.tuple hq
    refine wpAny_pyIter_tuple (show s1.heap.IsTuple a its.toArray from p) ?_
    refine ⟨s1.heap.objs.size, [s1.heap.objs.size], _, _, H1, rfl, I1.kept (t' := s1.toks) fun b o e => Heap.get?_push_of_some _ e, turn_tuple a _, ⟨_, Heap.get?_push_size _ rfl, rfl, rfl⟩, fun b hb => ?_, q⟩
    have e : b = s1.heap.objs.size := by simpa using hb
    subst e
    exact I1.fpOk (Nat.le_refl _) (I1.hok.fresh (Nat.le_refl _))
/-- over a list or a tuple that stands while it is walked -/
def jSq (te : DTE) : DTI := fun ρ S R E => te ρ S (fun d S1 => ∃ xs, sqOf S1 d = some xs ∧ R xs (fun S => sqOf S d = some xs) S1) E
theorem di_sq {tg : Expr} (he : DE F W e te) : DI F W tg e (jSq te) := by
  obtain ⟨t1, p1, k1⟩ := he
  refine ⟨_, fun i => F.hK i ▸ pi_sq (p1 i), fun σ ρ φ S H E R' R o q h => ?_⟩
  refine k1 σ ρ φ S H E _ _ o (fun φ1 H1 S1 d v s1 r1 rd h1 => ?_) h
  obtain ⟨xs, e1, h1⟩ := h1
  by_cases ht : ∃ ys, d = .tup ys
  · obtain ⟨ys, rfl⟩ := ht
    cases e1
    obtain ⟨a, vs, rfl, hq, rs⟩ := rd_tup rd
    refine ⟨a, rfl, .inr ⟨⟨_, hq⟩, q φ1 H1 S1 _ _ _ s1 r1 (fun φ2 H2 S2 i s r lv => ?_) h1⟩⟩
    have hq2 := s.w.sqT r1.muts.m r1.muts.b hq
    have rs2 := RDs.mono s r1.muts _ _ rs
    refine ⟨fun hi => ⟨vs, hq2, by rw [rs.length]; exact Nat.le_of_eq hi⟩, fun hi => ?_⟩
    obtain ⟨v, ev, rv⟩ := rs2.get (List.getElem?_eq_getElem hi)
    exact ⟨⟨vs, v, hq2, ev⟩, fun u H3 hy => ⟨_, List.getElem?_eq_getElem hi, by rw [hy.1]; exact .refl, by rw [hy.1]; exact r, by
      have := hy.2 vs hq2
      rw [ev] at this; cases this
      rw [hy.1]; exact rv⟩⟩
  · have e1' : lsOf S1 d = some xs := by
      cases d <;> first | exact e1 | exact absurd ⟨_, rfl⟩ ht
    obtain ⟨a, vs, rfl, hq, rs⟩ := ls_of r1 rd e1'
    refine ⟨a, rfl, .inl ⟨⟨_, hq⟩, q φ1 H1 S1 _ _ _ s1 r1 (fun φ2 H2 S2 i s r lv => ?_) h1⟩⟩
    have lv' : lsOf S2 d = some xs := by
      cases d <;> first | exact lv | exact absurd ⟨_, rfl⟩ ht
    obtain ⟨b, ws, eb, hq2, rs2⟩ := ls_of r (RD.mono s r1.muts _ _ rd) lv'
    cases eb
    refine ⟨fun hi => ⟨ws, hq2, by rw [rs2.length]; exact Nat.le_of_eq hi⟩, fun hi => ?_⟩
    obtain ⟨v, ev, rv⟩ := rs2.get (List.getElem?_eq_getElem hi)
    exact ⟨⟨ws, v, hq2, ev⟩, fun u H3 hy => ⟨_, List.getElem?_eq_getElem hi, by rw [hy.1]; exact .refl, by rw [hy.1]; exact r, by
      have := hy.2 ws hq2
      rw [ev] at this; cases this
      rw [hy.1]; exact rv⟩⟩
def rngD (lo : Int) (n : Nat) : List D := (List.range n).map fun (k : Nat) => D.int (lo + (k : Int))
theorem rngD_length (lo : Int) (n : Nat) : (rngD lo n).length = n := by simp [rngD]
theorem rngD_get {lo : Int} {n i : Nat} (h : i < n) : (rngD lo n)[i]? = some (.int (lo + (i : Int))) := by
  unfold rngD
  rw [List.getElem?_map, List.getElem?_range h]; rfl
def jRng1 (t : DTA) : DTI := fun ρ S R E => t ρ S (fun ds S1 => ∃ j : Int, ds = [.int j] ∧ -(2 ^ 62) ≤ j ∧ j < 2 ^ 62 ∧ R (rngD 0 j.toNat) (fun _ => True) S1) E
def jRng2 (t : DTA) : DTI := fun ρ S R E => t ρ S (fun ds S1 => ∃ i j : Int, ds = [.int i, .int j] ∧ (-(2 ^ 62) ≤ i ∧ i < 2 ^ 62 ∧ -(2 ^ 62) ≤ j ∧ j < 2 ^ 62) ∧ R (rngD i (j - i).toNat) (fun _ => True) S1) E
theorem walk_rng {K : PySem.W.Frag} {lo : Int} {n : Nat} {φ : Al} {H : Hp} : WalkD K (Itr lo n) (rngD lo n) (fun _ => True) φ H := fun φ2 H2 S2 i s r _ =>
  ⟨fun hi => by rw [rngD_length] at hi; exact Nat.le_of_eq hi, fun hi => by
    rw [rngD_length] at hi
    exact ⟨hi, fun v H3 hy => ⟨_, rngD_get hi, by rw [hy.1]; exact .refl, by rw [hy.1]; exact r, by rw [RD]; exact hy.2⟩⟩⟩
theorem di_rng1 {tg : Expr} {p : Pos} (hg : ∀ i, Gl (F.X i) "range") (hm : ∀ i, (F.X i).mg "range" = none) (ha : DA F W [a] t) (hs : ∀ i, starEach [a] (F.X i).env = [(false, eval a (F.X i).env)] := by intro _; rfl) : DI F W tg (.Call (.Name "range" p) [a] [] pos) (jRng1 t) := by
  obtain ⟨t1, p1, k1⟩ := ha
  refine ⟨_, fun i => pi_range1 (hg i) (hm i) (p1 i) (hs i), fun σ ρ φ S H E R' R o q h => ?_⟩
  refine k1 σ ρ φ S H E _ _ o (fun φ1 H1 S1 ds vs s1 r1 rd h1 => ?_) h
  obtain ⟨j, rfl, b1, b2, h1⟩ := h1
  obtain ⟨v, rfl, hv⟩ := rds1 rd
  rw [RD] at hv
  subst hv
  exact ⟨j, rfl, b1, b2, q φ1 H1 S1 _ _ _ s1 r1 walk_rng h1⟩
theorem di_rng2 {tg : Expr} {p : Pos} (hg : ∀ i, Gl (F.X i) "range") (hm : ∀ i, (F.X i).mg "range" = none) (ha : DA F W [a, b] t) (hs : ∀ i, starEach [a, b] (F.X i).env = [(false, eval a (F.X i).env), (false, eval b (F.X i).env)] := by intro _; rfl) (hs2 : ∀ i, starEach [b] (F.X i).env = [(false, eval b (F.X i).env)] := by intro _; rfl) :
    DI F W tg (.Call (.Name "range" p) [a, b] [] pos) (jRng2 t) := by
  obtain ⟨t1, p1, k1⟩ := ha
  refine ⟨_, fun i => pi_range2 (hg i) (hm i) (p1 i) (hs i) (hs2 i), fun σ ρ φ S H E R' R o q h => ?_⟩
  refine k1 σ ρ φ S H E _ _ o (fun φ1 H1 S1 ds vs s1 r1 rd h1 => ?_) h
  obtain ⟨i, j, rfl, b1, h1⟩ := h1
  obtain ⟨v, w, rfl, hv, hw⟩ := rds2 rd
  rw [RD] at hv hw
  subst hv hw
  exact ⟨i, j, rfl, b1, q φ1 H1 S1 _ _ _ s1 r1 walk_rng h1⟩

/-! ### for -/
def dFor (ti : DTI) (g : DTG) (tb : DTS) : DTS := fun D ρ S => ti ρ S (fun xs live S1 => ∃ Pv : Nat → Rho → Store → Prop, Pv 0 ρ S1 ∧ (∀ i ρ S, i ≤ xs.length → Pv i ρ S → live S) ∧
  (∀ i x ρ S, xs[i]? = some x → Pv i ρ S → g x ρ S fun ρ2 S2 => tb { D with nx := Pv (i + 1), ct := Pv (i + 1), bk := D.nx } ρ2 S2) ∧ ∀ ρ S, Pv xs.length ρ S → D.nx ρ S) (fun x S1 => D.ex x ρ S1)
theorem ds_for {tg iter : Expr} {body : List Stmt} {ti : DTI} {g : DTG} {tb : DTS} (hp : ∀ j, PassesOwn (model (F.X j).prog (F.X j).w) (F.X j).A (F.X j).env (F.X j).xe) (hc : ∀ j, (F.X j).calm = true) (hi : DI F W tg iter ti) (hg : DG F tg g) (hb : DSs F W body tb)
    (hs : ∀ j x, foldedSetIterable iter (F.X j).env x = pure x := by intro _ _; rfl) : DS F W (.For tg iter body [] pos) (dFor ti g tb) := by
  obtain ⟨t1, p1, k1⟩ := hi
  obtain ⟨t2, p2, k2⟩ := hg
  obtain ⟨t3, p3, k3⟩ := hb
  refine ⟨_, fun j => ps_for (hp j) (hc j) (p1 j) (p2 j) (p3 j) (hs j), fun σ ρ φ S H D' D r sl l h => ?_⟩
  refine k1 σ ρ φ S H _ _ _ (l.ok r sl) (fun φ1 H1 S1 xs live J s1 r1 wk h1 => ?_) h
  obtain ⟨Pv, h0, hl, hs, hd⟩ := h1
  refine ⟨fun i m σ' H' => ∃ φ' S' ρ', Step φ1 φ' H1 H' ∧ SR F.K φ' S' H' ∧ Sl F.K φ' H' ρ' σ' ∧ Pv i ρ' S' ∧ i ≤ xs.length ∧ m = xs.length - i,
    ⟨_, φ1, S1, ρ, .refl, r1, sl.mono s1 r.muts, h0, Nat.zero_le _, rfl⟩, ?_⟩
  rintro i m σ' H' ⟨φ', S', ρ', s', r', sl', hP, hi, rfl⟩
  obtain ⟨w1, w2⟩ := wk φ' H' S' i s' r' (hl i ρ' S' hi hP)
  by_cases hlt : i < xs.length
  · obtain ⟨go, hy⟩ := w2 hlt
    refine .inr ⟨go, fun σ2 H2 => ∃ φ2 S2 ρ2, Step φ1 φ2 H1 H2 ∧ SR F.K φ2 S2 H2 ∧ Sl F.K φ2 H2 ρ2 σ2 ∧ Pv (i + 1) ρ2 S2, ?_, ?_⟩
    · rintro σ2 H2 ⟨φ2, S2, ρ2, a1, a2, a3, a4⟩
      exact ⟨xs.length - (i + 1), by omega, φ2, S2, ρ2, a1, a2, a3, a4, hlt, rfl⟩
    · intro v H3 yv
      obtain ⟨d, ed, s3, r3, rd⟩ := hy v H3 yv
      refine k2 σ' ρ' φ' S' H3 d v _ _ r3 (sl'.mono s3 r'.muts) rd (fun φ4 H4 S4 ρ4 σ4 s4 r4 sl4 h4 => ?_) (hs i d ρ' S' ed hP)
      have s14 : Step φ1 φ4 H1 H4 := (s'.trans s3).trans s4
      refine k3 σ4 ρ4 φ4 S4 H4 _ _ r4 sl4 ?_ h4
      have l4 := l.mono (s1.trans s14)
      exact ⟨fun φ5 H5 S5 ρ5 σ5 s5 r5 sl5 q => ⟨φ5, S5, ρ5, s14.trans s5, r5, sl5, q⟩, l4.rt, l4.nx, fun φ5 H5 S5 ρ5 σ5 s5 r5 sl5 q => ⟨φ5, S5, ρ5, s14.trans s5, r5, sl5, q⟩, l4.ex⟩
  · have e : i = xs.length := by omega
    subst e
    exact .inl ⟨w1 rfl, l.nx _ _ _ _ _ (s1.trans s') r' sl' (hd ρ' S' hP)⟩

/-! ### list comprehensions -/
def wipeD (ρ : Rho) : List Nat → Rho
  | [] => ρ
  | v :: vs => (wipeD ρ vs).set v none
theorem Sl.wipe {K : PySem.W.Frag} {φ : Al} {H : Hp} {ρ : Rho} {σ : L2.St} (l : Sl K φ H ρ σ) : ∀ vs : List Nat, Sl K φ H (wipeD ρ vs) (wipe σ vs)
  | [] => l
  | v :: vs => (Sl.wipe l vs).unset
end
end Dy
namespace Dy
open PySem PySem.Spec PyProof.Rows L2

/-! ### list comprehensions -/
abbrev W0 : WX := fun _ _ _ _ => False
abbrev noX : XQ := fun _ _ => False
def Fam.blk (F : Fam) (scope : Scope) : Fam :=
  ⟨F.ι × Shared × Hp × Addr × List (Str × Addr) × List Addr, fun j => (F.X j.1).blk j.2.1 j.2.2.1 scope (compEnvC scope j.2.2.2.2.1 j.2.2.2.1 (F.X j.1).env) j.2.2.2.2.2, F.K, fun j => F.hK j.1⟩
def DTs (F : Fam) (W : WX) (ifs : List Expr) (t' : DTT) : Prop :=
  ∃ t : TT, (∀ i, PTs (F.X i) ifs t) ∧ ∀ σ ρ φ S H E Q' Q, Ok F.K W σ ρ φ S H E → EndT F.K φ H Q' Q → t' ρ S Q' E → t σ H Q
def dYes : DTT := fun _ S Q _ => Q true S
section
variable {F : Fam} {W : WX} {a b c e : Expr} {es : List Expr} {st : Stmt} {rest sa sb : List Stmt} {pos : Pos} {te ta tb : DTE} {tt uC : DTT} {t : DTA} {ti : DTI}
theorem dts_nil : DTs F W [] dYes := ⟨_, fun _ => pts_nil, fun σ ρ φ S H E Q' Q o q h => q _ _ _ _ .refl o.sr h⟩
theorem dts_one (h : DT F W c tt) : DTs F W [c] tt := let ⟨t, p, k⟩ := h; ⟨t, fun i => pts_one (p i), k⟩
/-- what a comprehension does: G puts an item into the slots, or is not defined; K makes the end of the items -/
def dLc (ti : DTI) (g : D → Rho → (Rho → Prop) → Prop) (tt : DTT) (te : DTE) : DTE := fun ρ S Q E => ti ρ S (fun xs live S1 => ∃ Pv : Nat → List D → Store → Prop, Pv 0 [] S1 ∧ (∀ k acc S, k ≤ xs.length → Pv k acc S → live S) ∧
  (∀ k x acc S, xs[k]? = some x → Pv k acc S → g x ρ fun ρ2 => tt ρ2 S (fun b S2 => if b = true then te ρ2 S2 (fun y S3 => acc.length < sizeLine ∧ Pv (k + 1) (acc ++ [y]) S3) noX else Pv (k + 1) acc S2) noX) ∧
  ∀ acc S, Pv xs.length acc S → Q (.lst acc) S) E
/-- .. a list of the store -/
def dLcN (ti : DTI) (g : D → Rho → (Rho → Prop) → Prop) (tt : DTT) (te : DTE) : DTE := fun ρ S Q E => dLc ti g tt te ρ S (fun d S1 => ∃ xs, d = .lst xs ∧ Q (.ref S1.length) (S1 ++ [.lst xs])) E
def c1 (i : Nat) : D → Rho → (Rho → Prop) → Prop := fun x ρ Q => Q (ρ.set i (some x))
def c2 (i j : Nat) : D → Rho → (Rho → Prop) → Prop := fun x ρ Q => ∃ u v, x = .tup [u, v] ∧ Q ((ρ.set i (some u)).set j (some v))
def c3 (i j k : Nat) : D → Rho → (Rho → Prop) → Prop := fun x ρ Q => ∃ u v w, x = .tup [u, v, w] ∧ Q (((ρ.set i (some u)).set j (some v)).set k (some w))
/-- the target's store by values and by trees -/
def TgL (K : PySem.W.Frag) (g : TG) (g' : D → Rho → (Rho → Prop) → Prop) (vs : List Nat) : Prop :=
  ∀ φ S H σ ρ d v (Q' : Rho → Prop) (Q : L2.St → Hp → Prop), SR K φ S H → Sl K φ H ρ σ → RD K φ H d v → g' d ρ Q' → (∀ ρ2 σ2, Sl K φ H ρ2 σ2 → Q' ρ2 → Q σ2 H) → g v (wipe σ vs) H fun σ2 H2 => wipe σ2 vs = wipe σ vs ∧ Q σ2 H2
theorem tgl_1 {K : PySem.W.Frag} (i : Nat) : TgL K (gName i) (c1 i) [i] := by
  intro φ S H σ ρ d v Q' Q r sl rd h k
  have e : (wipe σ [i]).set i (some v) = σ.set i (some v) := by simp [wipe, List.set_set]
  refine ⟨by rw [e]; simp [wipe, List.set_set], ?_⟩
  rw [e]
  exact k _ _ (sl.set rd) h
theorem tgl_2 {K : PySem.W.Frag} {i j : Nat} (hij : i ≠ j) : TgL K (gTup K 2 (gCons (gName i) (gCons (gName j) gNil))) (c2 i j) [i, j] := by
  rintro φ S H σ ρ d v Q' Q r sl rd ⟨u1, u2, rfl, h⟩ k
  obtain ⟨a, vs, rfl, h1, h2⟩ := rd_tup rd
  obtain ⟨x, y, rfl, hx, hy⟩ := rds2 h2
  have e : ((wipe σ [i, j]).set i (some x)).set j (some y) = (σ.set i (some x)).set j (some y) := by
    show ((((σ.set j none).set i none).set i (some x)).set j (some y)) = _
    rw [List.set_set, List.set_comm _ _ hij, List.set_set, List.set_comm _ _ (Ne.symm hij)]
  refine ⟨a, [x, y], rfl, h1, rfl, x, [y], rfl, y, [], rfl, rfl, ?_, ?_⟩
  · rw [e]
    show ((((σ.set i (some x)).set j (some y)).set j none).set i none) = (σ.set j none).set i none
    rw [List.set_set, List.set_comm _ _ hij, List.set_set]
  · rw [e]
    exact k _ _ ((sl.set hx).set hy) h
theorem lc_core' {K : PySem.W.Frag} {wi : TI} {g : TG} {g' : D → Rho → (Rho → Prop) → Prop} {tt0 : TT} {te0 : TE} {vs : List Nat} (hg : TgL K g g' vs)
    (k1 : ∀ σ ρ φ S H E R' R, Ok K W σ ρ φ S H E → (∀ φ1 H1 S1 xs live J, Step φ φ1 H H1 → SR K φ1 S1 H1 → WalkD K J xs live φ1 H1 → R' xs live S1 → R J H1) → ti ρ S R' E → wi σ H R)
    (k2 : ∀ σ ρ φ S H E Q' Q, Ok K W0 σ ρ φ S H E → EndT K φ H Q' Q → tt ρ S Q' E → tt0 σ H Q)
    (k3 : ∀ σ ρ φ S H E Q' Q, Ok K W0 σ ρ φ S H E → EndV K φ H Q' Q → te ρ S Q' E → te0 σ H Q)
    (σ : L2.St) (ρ : Rho) (φ : Al) (S : Store) (H : Hp) (E : XQ) (Q' : QD) (Q : VK) (o : Ok K W σ ρ φ S H E) (h : dLc ti g' tt te ρ S Q' E)
    (fin : ∀ φ1 H1 S1 φ' S' H' D acc ws, Step φ φ1 H H1 → SR K φ1 S1 H1 → H1 D = none → Step φ1 φ' H1 H' → D ∈ φ'.b → SR K φ' S' H' → H' D = some (.lst ws) → RDs K φ' H' acc ws → Q' (.lst acc) S' → Q (.ref D) H') : tLc wi g tt0 te0 vs σ H Q := by
  refine k1 σ ρ φ S H E _ _ o (fun φ1 H1 S1 xs live J s1 r1 wk h1 => ?_) h
  obtain ⟨Pv, h0, hl, hs, hd⟩ := h1
  intro D hD
  -- the list that is being made
  let ψ : Al := ⟨φ1.l, D :: φ1.b⟩
  have st0 : Step φ1 ψ H1 (upd H1 D (.lst [])) := ⟨⟨[], by simp [ψ]⟩, fun a m n _ => by
    rcases List.mem_cons.mp m with m | m
    · rw [m]; exact hD
    · exact absurd m n, fun a m => List.mem_cons_of_mem _ m, fun a o e _ => by
    have : a ≠ D := fun z => by rw [z, hD] at e; cases e
    rw [upd_ne this]; exact e, fun a m n => absurd m n⟩
  have rb : SR K ψ S1 (upd H1 D (.lst [])) := ⟨r1.nd, r1.len, fun n a o ha ho => (r1.at_ n a o ha ho).moved st0.w r1.muts (upd_ne fun z => by
      have m := r1.mutl a (List.mem_of_getElem? ha)
      rw [z, hD] at m; exact m), fun a m => by
      rcases List.mem_cons.mp m with m | m
      · rw [m]; exact .inl ⟨[], upd_same⟩
      · rcases r1.mb a m with ⟨ys, e⟩ | ⟨ys, e⟩
        · have : a ≠ D := fun z => by rw [z, hD] at e; cases e
          exact .inl ⟨ys, by rw [upd_ne this]; exact e⟩
        · have : a ≠ D := fun z => by rw [z, hD] at e; cases e
          exact .inr ⟨ys, by rw [upd_ne this]; exact e⟩, fun a m => by
      rcases List.mem_cons.mp m with m | m
      · rw [m]; exact r1.out hD
      · exact r1.db a m⟩
  refine ⟨fun k m H' => ∃ φ' S' acc ws, Step φ1 φ' H1 H' ∧ D ∈ φ'.b ∧ SR K φ' S' H' ∧ Sl K φ' H' ρ σ ∧ H' D = some (.lst ws) ∧ RDs K φ' H' acc ws ∧ Pv k acc S' ∧ k ≤ xs.length ∧ m = xs.length - k,
    ⟨_, ψ, S1, [], [], st0, List.mem_cons_self, rb, (o.sl.mono s1 o.sr.muts).mono st0 r1.muts, upd_same, .nil, h0, Nat.zero_le _, rfl⟩, ?_⟩
  rintro k m H' ⟨φ', S', acc, ws, s', mD, r', sl', hDl, hacc, hP, hk, rfl⟩
  obtain ⟨w1, w2⟩ := wk φ' H' S' k s' r' (hl k acc S' hk hP)
  have nD : D ∉ φ'.l := r'.db D mD
  by_cases hlt : k < xs.length
  · obtain ⟨go, hy⟩ := w2 hlt
    refine .inr ⟨go, fun H2 => ∃ φ2 S2 acc2 ws2, Step φ1 φ2 H1 H2 ∧ D ∈ φ2.b ∧ SR K φ2 S2 H2 ∧ Sl K φ2 H2 ρ σ ∧ H2 D = some (.lst ws2) ∧ RDs K φ2 H2 acc2 ws2 ∧ Pv (k + 1) acc2 S2, ?_, ?_⟩
    · rintro H2 ⟨φ2, S2, acc2, ws2, a1, a2, a3, a4, a5, a6, a7⟩
      exact ⟨xs.length - (k + 1), by omega, φ2, S2, acc2, ws2, a1, a2, a3, a4, a5, a6, a7, hlt, rfl⟩
    · intro v H3 yv
      obtain ⟨d, ed, s3, r3, rd⟩ := hy v H3 yv
      refine hg φ' S' H3 σ ρ d v _ _ r3 (sl'.mono s3 r'.muts) rd (hs k d acc S' ed hP) (fun ρ2 σ2 sl2 h2 => ?_)
      have o3 : Ok K W0 σ2 ρ2 φ' S' H3 noX := ⟨r3, sl2, fun _ _ _ _ _ _ _ _ _ z => z.elim⟩
      refine k2 σ2 ρ2 φ' S' H3 noX _ _ o3 (fun φ4 H4 S4 b s4 r4 h4 => ?_) h2
      have s34 : Step φ' φ4 H' H4 := s3.trans s4
      cases b with
      | false =>
        rw [if_neg Bool.false_ne_true] at h4 ⊢
        exact ⟨φ4, S4, acc, ws, s'.trans s34, s34.sub D mD, r4, sl'.mono s34 r'.muts, s34.keep D _ hDl nD, RDs.mono s34 r'.muts _ _ hacc, h4⟩
      | true =>
        rw [if_pos rfl] at h4 ⊢
        refine k3 σ2 ρ2 φ4 S4 H4 noX _ _ (o3.mono s4 r4) (fun φ5 H5 S5 y u s5 r5 ry h5 => ?_) h4
        obtain ⟨hz, h6⟩ := h5
        have s35 : Step φ' φ5 H' H5 := s34.trans s5
        have m5 : D ∈ φ5.b := s35.sub D mD
        have n5 : D ∉ φ5.l := r5.db D m5
        have e5 : H5 D = some (.lst ws) := s35.keep D _ hDl nD
        have acc5 := RDs.mono s35 r'.muts _ _ hacc
        refine ⟨ws, e5, by rw [hacc.length]; exact hz, φ5, S5, acc ++ [y], ws ++ [u], ?_, m5, ?_, ?_, upd_same, ?_, h6⟩
        · have t := s'.trans s35
          exact ⟨t.pre, t.bs, t.sub, fun a o e n => by
            have : a ≠ D := fun z => by rw [z, hD] at e; cases e
            rw [upd_ne this]; exact t.keep a o e n, t.new⟩
        all_goals have sw : StepW φ5 φ5 H5 (upd H5 D (.lst (ws ++ [u]))) := ⟨⟨[], by simp⟩, fun a m n => absurd m n, fun a o e _ nb => by
            have : a ≠ D := fun z => nb (z ▸ m5)
            rw [upd_ne this]; exact e, fun a m n => absurd m n⟩
        · exact ⟨r5.nd, r5.len, fun n a o ha ho => (r5.at_ n a o ha ho).moved sw r5.muts (upd_ne fun z => n5 (z ▸ List.mem_of_getElem? ha)), fun a m => by
            by_cases z : a = D
            · exact .inl ⟨_, by rw [z]; exact upd_same⟩
            · rw [upd_ne z]; exact r5.mb a m, r5.db⟩
        · have sl5 := sl'.mono s35 r'.muts
          exact ⟨sl5.len, fun i d e => by
            obtain ⟨v, e1, e2⟩ := sl5.at_ i d e
            exact ⟨v, e1, RD.monoW sw r5.mutl r5.mb d v e2⟩⟩
        · exact RDs.append (RDs.monoW sw r5.mutl r5.mb _ _ acc5) (.cons (RD.monoW sw r5.mutl r5.mb _ _ ry) .nil)
  · have e : k = xs.length := by omega
    subst e
    refine .inl ⟨w1 rfl, ?_⟩
    exact fin φ1 H1 S1 φ' S' H' D acc ws s1 r1 hD s' mD r' hDl hacc (hd acc S' hP)
theorem lc_link {K : PySem.W.Frag} {wi : TI} {g : TG} {g' : D → Rho → (Rho → Prop) → Prop} {tt0 : TT} {te0 : TE} {vs : List Nat} (hg : TgL K g g' vs)
    (k1 : ∀ σ ρ φ S H E R' R, Ok K W σ ρ φ S H E → (∀ φ1 H1 S1 xs live J, Step φ φ1 H H1 → SR K φ1 S1 H1 → WalkD K J xs live φ1 H1 → R' xs live S1 → R J H1) → ti ρ S R' E → wi σ H R)
    (k2 : ∀ σ ρ φ S H E Q' Q, Ok K W0 σ ρ φ S H E → EndT K φ H Q' Q → tt ρ S Q' E → tt0 σ H Q)
    (k3 : ∀ σ ρ φ S H E Q' Q, Ok K W0 σ ρ φ S H E → EndV K φ H Q' Q → te ρ S Q' E → te0 σ H Q)
    (σ : L2.St) (ρ : Rho) (φ : Al) (S : Store) (H : Hp) (E : XQ) (Q' : QD) (Q : VK) (o : Ok K W σ ρ φ S H E) (q : EndV K φ H Q' Q) (h : dLc ti g' tt te ρ S Q' E) : tLc wi g tt0 te0 vs σ H Q := by
  refine lc_core' hg k1 k2 k3 σ ρ φ S H E Q' Q o h fun φ1 H1 S1 φ' S' H' D acc ws s1 r1 hD s' mD r' hDl hacc hq => ?_
  have nD : D ∉ φ'.l := r'.db D mD
  have sw : StepW φ' ⟨φ'.l, φ1.b⟩ H' H' := ⟨⟨[], by simp⟩, fun a m n _ => absurd (s'.sub a m) n, fun _ _ e _ _ => e, fun a m n _ => absurd m n⟩
  refine q ⟨φ'.l, φ1.b⟩ H' S' (.lst acc) (.ref D) (s1.trans ⟨s'.pre, fun a m n _ => absurd m n, fun a m => m, s'.keep, s'.new⟩) ?_ ?_ hq
  · exact ⟨r'.nd, r'.len, fun n a o ha ho => (r'.at_ n a o ha ho).moved sw r'.muts rfl, fun a m => r'.mb a (s'.sub a m), fun a m => r'.db a (s'.sub a m)⟩
  · rw [RD]
    exact ⟨D, ws, rfl, ⟨hDl, nD, r1.outb hD⟩, RDs.monoW sw r'.mutl r'.mb _ _ hacc⟩
theorem lcN_link {K : PySem.W.Frag} {wi : TI} {g : TG} {g' : D → Rho → (Rho → Prop) → Prop} {tt0 : TT} {te0 : TE} {vs : List Nat} (hg : TgL K g g' vs)
    (k1 : ∀ σ ρ φ S H E R' R, Ok K W σ ρ φ S H E → (∀ φ1 H1 S1 xs live J, Step φ φ1 H H1 → SR K φ1 S1 H1 → WalkD K J xs live φ1 H1 → R' xs live S1 → R J H1) → ti ρ S R' E → wi σ H R)
    (k2 : ∀ σ ρ φ S H E Q' Q, Ok K W0 σ ρ φ S H E → EndT K φ H Q' Q → tt ρ S Q' E → tt0 σ H Q)
    (k3 : ∀ σ ρ φ S H E Q' Q, Ok K W0 σ ρ φ S H E → EndV K φ H Q' Q → te ρ S Q' E → te0 σ H Q)
    (σ : L2.St) (ρ : Rho) (φ : Al) (S : Store) (H : Hp) (E : XQ) (Q' : QD) (Q : VK) (o : Ok K W σ ρ φ S H E) (q : EndV K φ H Q' Q) (h : dLcN ti g' tt te ρ S Q' E) : tLc wi g tt0 te0 vs σ H Q := by
  refine lc_core' hg k1 k2 k3 σ ρ φ S H E _ Q o h fun φ1 H1 S1 φ' S' H' D acc ws s1 r1 hD s' mD r' hDl hacc hq => ?_
  obtain ⟨xs, e, hq⟩ := hq
  cases e
  have nD : D ∉ φ'.l := r'.db D mD
  have sw : StepW φ' ⟨φ'.l ++ [D], φ1.b⟩ H' H' := ⟨⟨[D], rfl⟩, fun a m n _ => absurd (s'.sub a m) n, fun _ _ e _ _ => e, fun a m n nb => by
    rcases List.mem_append.mp m with m | m
    · exact absurd m n
    · rw [List.mem_singleton.mp m] at nb
      exact absurd mD nb⟩
  refine q ⟨φ'.l ++ [D], φ1.b⟩ H' (S' ++ [.lst acc]) (.ref S'.length) (.ref D) (s1.trans ⟨?_, fun a m n _ => absurd m n, fun a m => m, s'.keep, ?_⟩) ?_ ?_ hq
  · obtain ⟨ψ, e⟩ := s'.pre
    exact ⟨ψ ++ [D], by show φ'.l ++ [D] = _; rw [e]; simp⟩
  · intro a m n
    rcases List.mem_append.mp m with m | m
    · exact s'.new a m n
    · rw [List.mem_singleton.mp m]; exact hD
  · refine ⟨?_, by simp [r'.len], fun n a u ha hu => ?_, fun a m => r'.mb a (s'.sub a m), fun a m z => ?_⟩
    · show (φ'.l ++ [D]).Nodup
      rw [List.nodup_append]
      refine ⟨r'.nd, by simp, fun a ha b hb => ?_⟩
      rw [List.mem_singleton.mp hb]
      exact fun z => nD (z ▸ ha)
    · have ha' : (φ'.l ++ [D])[n]? = some a := ha
      by_cases hn : n < φ'.l.length
      · rw [List.getElem?_append_left hn] at ha'
        rw [List.getElem?_append_left (by rw [r'.len]; exact hn)] at hu
        exact (r'.at_ n a u ha' hu).moved sw r'.muts rfl
      · have hn' : n = φ'.l.length := by
          have := (List.getElem?_eq_some_iff.mp ha').1
          simp at this; omega
        subst hn'
        rw [List.getElem?_append_right (Nat.le_refl _)] at ha'
        rw [List.getElem?_append_right (by rw [r'.len]; exact Nat.le_refl _), r'.len] at hu
        simp at ha' hu
        subst ha' hu
        exact ⟨ws, hDl, RDs.monoW sw r'.mutl r'.mb _ _ hacc⟩
    · rcases List.mem_append.mp z with z | z
      · exact r'.db a (s'.sub a m) z
      · rw [List.mem_singleton.mp z] at m
        exact r1.outb hD m
  · rw [RD]
    exact ⟨D, rfl, by show (φ'.l ++ [D])[S'.length]? = _; rw [r'.len]; simp⟩
/-! the rules: as a value, as name = [..] -/
section
variable {elt iter tg : Expr} {ifs : List Expr} {scope : Scope} {x x2 : Str} {px px2 : Pos}
theorem de_lc (i : Nat) (hc : ∀ j, (F.X j).calm = true) (hN : ∀ j, (F.X j).N.Nodup) (hi : DI F W (.Name x px) iter ti) (ok : ∀ j, BlkOk (F.X j).N (F.X j).env.scope scope [(x, i)]) (ht : DTs (F.blk scope) W0 ifs tt) (he : DE (F.blk scope) W0 elt te)
    (hg : ∀ j, PG ((F.blk scope).X j) (.Name x px) (gName i)) (hs : ∀ j v, foldedSetIterable iter (F.X j).env v = pure v := by intro _ _; rfl) :
    DE F W (.ListComp elt [⟨.Name x px, iter, ifs, 0⟩] scope pos) (dLc ti (c1 i) tt te) := by
  obtain ⟨wi, p1, k1⟩ := hi
  obtain ⟨t2, p2, k2⟩ := ht
  obtain ⟨t3, p3, k3⟩ := he
  exact ⟨_, fun j => pe_lc (own := [(x, i)]) (hc j) (hN j) (p1 j) (ok j) (fun s H C cl fp => hg (j, s, H, C, cl, fp)) (fun s H C cl fp => p2 (j, s, H, C, cl, fp)) (fun s H C cl fp => p3 (j, s, H, C, cl, fp)) (hs j), lc_link (tgl_1 i) k1 k2 k3⟩
theorem de_lcN (i : Nat) (hc : ∀ j, (F.X j).calm = true) (hN : ∀ j, (F.X j).N.Nodup) (hi : DI F W (.Name x px) iter ti) (ok : ∀ j, BlkOk (F.X j).N (F.X j).env.scope scope [(x, i)]) (ht : DTs (F.blk scope) W0 ifs tt) (he : DE (F.blk scope) W0 elt te)
    (hg : ∀ j, PG ((F.blk scope).X j) (.Name x px) (gName i)) (hs : ∀ j v, foldedSetIterable iter (F.X j).env v = pure v := by intro _ _; rfl) :
    DE F W (.ListComp elt [⟨.Name x px, iter, ifs, 0⟩] scope pos) (dLcN ti (c1 i) tt te) := by
  obtain ⟨wi, p1, k1⟩ := hi
  obtain ⟨t2, p2, k2⟩ := ht
  obtain ⟨t3, p3, k3⟩ := he
  exact ⟨_, fun j => pe_lc (own := [(x, i)]) (hc j) (hN j) (p1 j) (ok j) (fun s H C cl fp => hg (j, s, H, C, cl, fp)) (fun s H C cl fp => p2 (j, s, H, C, cl, fp)) (fun s H C cl fp => p3 (j, s, H, C, cl, fp)) (hs j), lcN_link (tgl_1 i) k1 k2 k3⟩
theorem de_lc2 (i i2 : Nat) {k : Nat} (hij : i ≠ i2) (hc : ∀ j, (F.X j).calm = true) (hN : ∀ j, (F.X j).N.Nodup) (hi : DI F W (.Tuple [.Name x px, .Name x2 px2] k pos) iter ti) (ok : ∀ j, BlkOk (F.X j).N (F.X j).env.scope scope [(x, i), (x2, i2)]) (ht : DTs (F.blk scope) W0 ifs tt) (he : DE (F.blk scope) W0 elt te)
    (hg : ∀ j, PG ((F.blk scope).X j) (.Tuple [.Name x px, .Name x2 px2] k pos) (gTup F.K 2 (gCons (gName i) (gCons (gName i2) gNil)))) {pos2 : Pos} (hs : ∀ j v, foldedSetIterable iter (F.X j).env v = pure v := by intro _ _; rfl) :
    DE F W (.ListComp elt [⟨.Tuple [.Name x px, .Name x2 px2] k pos, iter, ifs, 0⟩] scope pos2) (dLc ti (c2 i i2) tt te) := by
  obtain ⟨wi, p1, k1⟩ := hi
  obtain ⟨t2, p2, k2⟩ := ht
  obtain ⟨t3, p3, k3⟩ := he
  refine ⟨tLc wi (gTup F.K 2 (gCons (gName i) (gCons (gName i2) gNil))) t2 t3 [i, i2], fun j => ?_, lc_link (tgl_2 hij) k1 k2 k3⟩
  exact pe_lc (own := [(x, i), (x2, i2)]) (hc j) (hN j) (p1 j) (ok j) (fun s H C cl fp => hg (j, s, H, C, cl, fp)) (fun s H C cl fp => p2 (j, s, H, C, cl, fp)) (fun s H C cl fp => p3 (j, s, H, C, cl, fp)) (hs j)
/-- y = [..] -/
theorem ds_setLc (n : Nat) {y : Str} {py spos : Pos} {g : TG} {g' : D → Rho → (Rho → Prop) → Prop} {own : List (Str × Nat)} (hl : TgL F.K g g' (own.map (·.2))) (hc : ∀ j, (F.X j).calm = true) (hN : ∀ j, (F.X j).N.Nodup) (hi : DI F W tg iter ti) (ok : ∀ j, BlkOk (F.X j).N (F.X j).env.scope scope own) (ht : DTs (F.blk scope) W0 ifs tt) (he : DE (F.blk scope) W0 elt te)
    (hg : ∀ j, PG ((F.blk scope).X j) tg g) (hsw : ∀ j, swapsWith (.ListComp elt [⟨tg, iter, ifs, 0⟩] scope pos) (some (.Name y py)) spos.line (F.X j).env = pure true)
    (hy : ∀ j, (F.X j).N[n]? = some y := by intro _; rfl) (hyl : ∀ j, (F.X j).env.scope.names.lookup y = some .local := by intro _; rfl) (hs : ∀ j v, foldedSetIterable iter (F.X j).env v = pure v := by intro _ _; rfl) :
    DS F W (.Assign [.Name y py] (.ListComp elt [⟨tg, iter, ifs, 0⟩] scope pos) spos) (dAsg (dLc ti g' tt te) (eName n)) := by
  obtain ⟨wi, p1, k1⟩ := hi
  obtain ⟨t2, p2, k2⟩ := ht
  obtain ⟨t3, p3, k3⟩ := he
  exact ⟨_, fun j => ps_setLc (i := n) (hc j) (hN j) (hy j) (hyl j) (hsw j) (p1 j) (ok j) (fun s H C cl fp => hg (j, s, H, C, cl, fp)) (fun s H C cl fp => p2 (j, s, H, C, cl, fp)) (fun s H C cl fp => p3 (j, s, H, C, cl, fp)) (hs j),
    fun σ ρ φ S H D' D r sl l h => lc_link hl k1 k2 k3 σ ρ φ S H _ _ _ (l.ok r sl) (fun φ1 H1 S1 d v s r1 rd q => l.nx _ _ _ _ _ s r1 ((sl.mono s r.muts).set rd) q) h⟩
theorem ds_setLcN (n : Nat) {y : Str} {py spos : Pos} {g : TG} {g' : D → Rho → (Rho → Prop) → Prop} {own : List (Str × Nat)} (hl : TgL F.K g g' (own.map (·.2))) (hc : ∀ j, (F.X j).calm = true) (hN : ∀ j, (F.X j).N.Nodup) (hi : DI F W tg iter ti) (ok : ∀ j, BlkOk (F.X j).N (F.X j).env.scope scope own) (ht : DTs (F.blk scope) W0 ifs tt) (he : DE (F.blk scope) W0 elt te)
    (hg : ∀ j, PG ((F.blk scope).X j) tg g) (hsw : ∀ j, swapsWith (.ListComp elt [⟨tg, iter, ifs, 0⟩] scope pos) (some (.Name y py)) spos.line (F.X j).env = pure true)
    (hy : ∀ j, (F.X j).N[n]? = some y := by intro _; rfl) (hyl : ∀ j, (F.X j).env.scope.names.lookup y = some .local := by intro _; rfl) (hs : ∀ j v, foldedSetIterable iter (F.X j).env v = pure v := by intro _ _; rfl) :
    DS F W (.Assign [.Name y py] (.ListComp elt [⟨tg, iter, ifs, 0⟩] scope pos) spos) (dAsg (dLcN ti g' tt te) (eName n)) := by
  obtain ⟨wi, p1, k1⟩ := hi
  obtain ⟨t2, p2, k2⟩ := ht
  obtain ⟨t3, p3, k3⟩ := he
  exact ⟨_, fun j => ps_setLc (i := n) (hc j) (hN j) (hy j) (hyl j) (hsw j) (p1 j) (ok j) (fun s H C cl fp => hg (j, s, H, C, cl, fp)) (fun s H C cl fp => p2 (j, s, H, C, cl, fp)) (fun s H C cl fp => p3 (j, s, H, C, cl, fp)) (hs j),
    fun σ ρ φ S H D' D r sl l h => lcN_link hl k1 k2 k3 σ ρ φ S H _ _ _ (l.ok r sl) (fun φ1 H1 S1 d v s r1 rd q => l.nx _ _ _ _ _ s r1 ((sl.mono s r.muts).set rd) q) h⟩
end

/-! ### calls of defs -/
abbrev DSp := List D → Store → QD → XQ → Prop
def liftSp (K : PySem.W.Frag) (sp : DSp) : Sp := fun vs H Q E => ∃ φ S ds Q' E', SR K φ S H ∧ RDs K φ H ds vs ∧ sp ds S Q' E' ∧ EndV K φ H Q' Q ∧
  ∀ φ' H' S' x cls d, Step φ φ' H H' → SR K φ' S' H' → ExR K φ' H' x cls d → E' x S' → E cls d H'
def dCall (sp : DSp) (t : DTA) : DTE := fun ρ S Q E => t ρ S (fun ds S1 => sp ds S1 Q E) E
theorem call_link {K : PySem.W.Frag} {sp : DSp} {σ : L2.St} {ρ : Rho} {φ : Al} {S : Store} {H : Hp} {E : XQ} {Q' : QD} {Q : VK} {ds : List D} {vs : List V} (o : Ok K W σ ρ φ S H E) (q : EndV K φ H Q' Q) (rd : RDs K φ H ds vs) (h : sp ds S Q' E) : liftSp K sp vs H Q (WE W σ) :=
  ⟨φ, S, ds, Q', E, o.sr, rd, h, q, o.ex⟩
theorem de_call {k : Nat} {f : Addr} {fd : FuncData} {ps : List Str} {sp : DSp} {x : Str} {p : Pos} (G : ∀ i, FnOk (F.X i).prog (F.X i).w (F.X i).K (F.X i).mg (F.X i).base (L2.CX (F.X i).prog (F.X i).w) k f fd ps (liftSp F.K sp)) (hr : ∀ i, Room k (F.X i).A) (hg : ∀ i, Gl (F.X i) x) (hm : ∀ i, (F.X i).mg x = some (.ref f))
    (hk : ∀ i, PySem.W.keepIn (F.X i).K (.ref f) = true) (hb : ∀ i, Binds (F.X i).K fd ps []) (tk : ∀ i, Takes (F.X i) W) (ha : DA F W (e :: es) t) (hdb : (x == ("__debug__" : Str)) = false := by decide)
    (he : ∀ i, starEach (e :: es) (F.X i).env = (false, eval e (F.X i).env) :: starEach es (F.X i).env := by intro _; rfl) (hpl : ∀ i, (backTo pos (starEach es (F.X i).env)).any (·.1) = false := by intro _; rfl) :
    DE F W (.Call (.Name x p) (e :: es) [] pos) (dCall sp t) := by
  obtain ⟨t1, p1, k1⟩ := ha
  refine ⟨_, fun i => pe_callS (G i) (hr i) (hg i) (hm i) (hk i) (hb i) (fun σ => passAt (tk i) σ) (p1 i) hdb (he i) (hpl i), fun σ ρ φ S H E Q' Q o q h => ?_⟩
  exact k1 σ ρ φ S H E _ _ o (fun φ1 H1 S1 ds vs s1 r1 rd h1 => call_link (o.mono s1 r1) (q.mono s1) rd h1) h
end

/-! ### a def's body -/
theorem start_sl {K : PySem.W.Frag} {φ : Al} {H : Hp} {ds : List D} {vs : List V} {n : Nat} (h : RDs K φ H ds vs) : Sl K φ H (ds.map some ++ List.replicate n none) (vs.map some ++ List.replicate n none) := by
  refine ⟨by simp [h.length], fun i d e => ?_⟩
  by_cases hi : i < ds.length
  · rw [List.getElem?_append_left (by simpa using hi)] at e
    rw [List.getElem?_append_left (by rw [List.length_map, h.length]; exact hi)]
    rw [List.getElem?_map] at e ⊢
    cases q : ds[i]? with
    | none => rw [q] at e; cases e
    | some y =>
      rw [q] at e
      cases e
      obtain ⟨v, e1, e2⟩ := h.get q
      exact ⟨v, by rw [e1]; rfl, e2⟩
  · rw [List.getElem?_append_right (by simpa using Nat.le_of_not_lt hi)] at e
    rw [List.getElem?_replicate] at e
    split at e <;> cases e
def startD (N : List Str) (ds : List D) : Rho := ds.map some ++ List.replicate (N.length - ds.length) none
section
variable {P : Program} {w : World} {K : PySem.W.Frag} {mg : Str → Option Value} {base : Heap}
/-- the context of a body that may let something out -/
abbrev bodyX (P : Program) (w : World) (K : PySem.W.Frag) (mg : Str → Option Value) (base : Heap) (N : List Str) (qual : Str) (sc : Scope) (f : Addr) (cdv : Value) (A : Around) (outer : List Env) (s : Shared) (H : Hp) (E : XK) : Cx :=
  cxOf (L2.CX P w) P w K mg base N qual sc f cdv A outer s H E
theorem bodyTk {N : List Str} {qual : Str} {sc : Scope} {f : Addr} {cdv : Value} {A : Around} {outer : List Env} {s : Shared} {H : Hp} {E : XK} : Takes (bodyX P w K mg base N qual sc f cdv A outer s H E) (fun cls d _ H => E cls d H) := takes_of rfl rfl rfl rfl
theorem bodyHp {N : List Str} {qual : Str} {sc : Scope} {f : Addr} {cdv : Value} {A : Around} {outer : List Env} {s : Shared} {H : Hp} {E : XK} :
    PassesOwn (model (bodyX P w K mg base N qual sc f cdv A outer s H E).prog (bodyX P w K mg base N qual sc f cdv A outer s H E).w) (bodyX P w K mg base N qual sc f cdv A outer s H E).A (bodyX P w K mg base N qual sc f cdv A outer s H E).env (bodyX P w K mg base N qual sc f cdv A outer s H E).xe := passes_of rfl
theorem dfn {x qual : Str} {st : Stmt} {f : Addr} {fd : FuncData} {N ps : List Str} {k : Nat} {sp : DSp} (F : Fun K x qual st f fd) (S : FnScope N ps (defScope st)) (len : ∀ ds S Q E, sp ds S Q E → ds.length = ps.length)
    (body : ∀ (cdv : Value) (A : Around) (outer : List Env) (s : Shared) (H : Hp) (E : XK), Room k (A.deeper (envOfC qual (defScope st) s.heap.objs.size f cdv)) →
      ∃ t, DSs (Fam.one (bodyX P w K mg base N qual (defScope st) f cdv A outer s H E)) (fun cls d _ H => E cls d H) (defBody st) t ∧
        ∀ ds S Q E, sp ds S Q E → t { nx := fun _ S' => Q .non S', rt := Q, ex := fun x _ S' => E x S' } (startD N ds) S) :
    FnOk P w K mg base (L2.CX P w) (k + 1) f fd ps (liftSp K sp) := by
  refine F.okX S (fun vs H Q E h => ?_) (fun cdv A outer s H vs Q E hr h => ?_)
  · obtain ⟨φ, S, ds, Q', E', _, rd, h, _⟩ := h
    rw [rd.length]
    exact len ds S Q' E' h
  · obtain ⟨φ, S0, ds, Q', E', r, rd, h, q, ex⟩ := h
    obtain ⟨t, ⟨t1, p1, k1⟩, ht⟩ := body cdv A outer s H E hr
    refine ⟨t1, p1 (), ?_⟩
    refine k1 (L2.start N vs) (startD N ds) φ S0 H _ _ r ?_ ?_ (ht ds S0 Q' E' h)
    · unfold L2.start startD
      rw [rd.length]
      exact start_sl rd
    · exact ⟨fun φ' H' S' ρ' σ' s r' _ h => q _ _ _ _ _ s r' rd_non h, fun φ' H' S' d v s r' rd h => q _ _ _ _ _ s r' rd h, fun _ _ _ _ _ _ _ _ h => h.elim, fun _ _ _ _ _ _ _ _ h => h.elim,
        fun φ' H' S' ρ' σ' x cls d s r' _ xr h => ex _ _ _ _ _ _ s r' xr h⟩
end
end Dy
namespace Dy
open PySem PySem.Spec PyProof.Rows L2

/-! ### methods of built-in types -/
abbrev DM := D → List D → Store → QD → Prop
def LkM (K : PySem.W.Frag) (r' : DM) (r : V → List V → Hp → VK → Prop) : Prop := ∀ φ S H Q' Q d v ds vs, SR K φ S H → RD K φ H d v → RDs K φ H ds vs → EndV K φ H Q' Q → r' d ds S Q' → r v vs H Q
def dBM (r : DM) (to : DTE) (t : DTA) : DTE := fun ρ S Q E => to ρ S (fun o S1 => (∃ xs, lsOf S1 o = some xs) ∧ t ρ S1 (fun ds S2 => r o ds S2 Q) E) E
def dBM0 (r : DM) (to : DTE) : DTE := fun ρ S Q E => to ρ S (fun o S1 => (∃ xs, lsOf S1 o = some xs) ∧ r o [] S1 Q) E
section
variable {F : Fam} {W : WX} {o e : Expr} {es : List Expr} {to te : DTE} {t : DTA} {name : Str} {apos cpos : Pos} {id : String} {r : V → List V → Hp → VK → Prop} {r' : DM}
theorem de_bm (slot : Slot "list" name id) (hty : typeOf (.builtin id) = pure (.type "method_descriptor")) (hm : ∀ i, MtR (F.X i) id r) (lk : LkM F.K r' r) (ho : DE F W o to) (ha : DA F W (e :: es) t)
    (hbase : ∀ i, attributeBase o name (F.X i).env (eval o (F.X i).env) = eval o (F.X i).env := by intro _; rfl)
    (hfew : ∀ i, ((backTo cpos (starEach (e :: es) (F.X i).env)).all (fun x => !x.1) && (backToKw cpos (keywordEach [] (F.X i).env)).all (fun x => x.1.isSome)
      && decide ((e :: es).length + ([] : List Keyword).length + (if ([] : List Keyword).isEmpty then 0 else 1) < 30)) = true := by intro _; rfl)
    (hline : (apos.endLine == cpos.line) = true := by rfl) (hs : ∀ i, starEach (e :: es) (F.X i).env = (false, eval e (F.X i).env) :: starEach es (F.X i).env := by intro _; rfl) (hplain : ∀ i, (backTo cpos (starEach es (F.X i).env)).any (·.1) = false := by intro _; rfl) :
    DE F W (.Call (.Attribute o name apos) (e :: es) [] cpos) (dBM r' to t) := by
  obtain ⟨t1, p1, k1⟩ := ho
  obtain ⟨t2, p2, k2⟩ := ha
  refine ⟨tBM F.K "list" r t1 t2, fun i => F.hK i ▸ pe_bm PySem.F.plainAttrs_list slot hty (hm i) (p1 i) (p2 i) (hbase i) (hfew i) hline (hs i) (hplain i), fun σ ρ φ S H E Q' Q o q h => ?_⟩
  refine k1 σ ρ φ S H E _ _ o (fun φ1 H1 S1 d v s1 r1 rd h1 => ?_) h
  obtain ⟨⟨xs, ex⟩, h1⟩ := h1
  obtain ⟨a, vs, rfl, h2, _⟩ := ls_of r1 rd ex
  refine ⟨.inl ⟨rfl, vs, h2⟩, ?_⟩
  refine k2 σ ρ φ1 S1 H1 E _ _ (o.mono s1 r1) (fun φ2 H2 S2 ds ws s2 r2 rds h2 => ?_) h1
  exact lk φ2 S2 H2 _ _ d _ ds ws r2 (RD.mono s2 r1.muts _ _ rd) rds (q.mono (s1.trans s2)) h2
theorem de_bm0 (slot : Slot "list" name id) (hty : typeOf (.builtin id) = pure (.type "method_descriptor")) (hm : ∀ i, MtR (F.X i) id r) (lk : LkM F.K r' r) (ho : DE F W o to)
    (hbase : ∀ i, attributeBase o name (F.X i).env (eval o (F.X i).env) = eval o (F.X i).env := by intro _; rfl) (hline : (apos.endLine == cpos.line) = true := by rfl) :
    DE F W (.Call (.Attribute o name apos) [] [] cpos) (dBM0 r' to) := by
  obtain ⟨t1, p1, k1⟩ := ho
  refine ⟨tBM0 F.K "list" r t1, fun i => F.hK i ▸ pe_bm0 PySem.F.plainAttrs_list slot hty (hm i) (p1 i) (hbase i) hline, fun σ ρ φ S H E Q' Q o q h => ?_⟩
  refine k1 σ ρ φ S H E _ _ o (fun φ1 H1 S1 d v s1 r1 rd h1 => ?_) h
  obtain ⟨⟨xs, ex⟩, h1⟩ := h1
  obtain ⟨a, vs, rfl, h2, _⟩ := ls_of r1 rd ex
  exact ⟨.inl ⟨rfl, vs, h2⟩, lk φ1 S1 H1 _ _ d _ [] [] r1 rd .nil (q.mono s1) h1⟩
end
/-- xs.append(y) -/
def mApp : DM := fun o ds S Q => ∃ n xs y, o = .ref n ∧ ds = [y] ∧ S[n]? = some (.lst xs) ∧ xs.length < sizeLine ∧ Q .non (S.set n (.lst (xs ++ [y])))
def mPopAt : DM := fun o ds S Q => ∃ n xs i k y, o = .ref n ∧ ds = [.int i] ∧ S[n]? = some (.lst xs) ∧ -(2 ^ 63) ≤ i ∧ i < 2 ^ 63 ∧ seqIndex? i xs.length = some k ∧ xs[k]? = some y ∧ Q y (S.set n (.lst (xs.eraseIdx k)))
def mPop : DM := fun o ds S Q => ∃ n xs y, o = .ref n ∧ ds = [] ∧ S[n]? = some (.lst xs) ∧ xs[xs.length - 1]? = some y ∧ Q y (S.set n (.lst xs.dropLast))
def mExt : DM := fun o ds S Q => ∃ n xs e ys, o = .ref n ∧ ds = [e] ∧ S[n]? = some (.lst xs) ∧ lsM S e = some ys ∧ xs.length + ys.length ≤ sizeLine ∧ Q .non (S.set n (.lst (xs ++ ys)))
section
variable {K : PySem.W.Frag}
theorem lk_app : LkM K mApp rAppend := by
  rintro φ S H Q' Q d v ds vs r rd rds q ⟨n, xs, y, rfl, rfl, e, hz, h⟩
  obtain ⟨a, ws, rfl, ha, hl, rs⟩ := r.lst rd e
  obtain ⟨u, rfl, ry⟩ := rds1 rds
  have st := r.step_put (ho := .lst (ws ++ [u])) ha
  exact ⟨a, ws, u, rfl, rfl, hl, by rw [rs.length]; exact hz, q _ _ _ _ _ st (r.put (o := .lst (xs ++ [y])) ha ⟨_, upd_same, RDs.mono st r.muts _ _ (rs.append (.cons ry .nil))⟩) rd_non h⟩
theorem lk_popAt : LkM K mPopAt rPopAt := by
  rintro φ S H Q' Q d v ds vs r rd rds q ⟨n, xs, i, k, y, rfl, rfl, e, b1, b2, hk, hy, h⟩
  obtain ⟨a, ws, rfl, ha, hl, rs⟩ := r.lst rd e
  obtain ⟨u, rfl, ru⟩ := rds1 rds
  rw [RD] at ru
  subst ru
  obtain ⟨w, hw, rw'⟩ := rs.get hy
  have st := r.step_put (ho := .lst (ws.eraseIdx k)) ha
  exact ⟨a, ws, i, k, w, rfl, rfl, hl, b1, b2, by rw [rs.length]; exact hk, hw, q _ _ _ _ _ st (r.put (o := .lst (xs.eraseIdx k)) ha ⟨_, upd_same, RDs.mono st r.muts _ _ (rs.eraseIdx k)⟩) (RD.mono st r.muts _ _ rw') h⟩
theorem RDs.dropLast {φ : Al} {H : Hp} : ∀ {xs : List D} {vs : List V}, RDs K φ H xs vs → RDs K φ H xs.dropLast vs.dropLast
  | xs, vs, h => by
    rw [List.dropLast_eq_take, List.dropLast_eq_take, h.length]
    exact h.take _
theorem lk_pop : LkM K mPop rPop := by
  rintro φ S H Q' Q d v ds vs r rd rds q ⟨n, xs, y, rfl, rfl, e, hy, h⟩
  obtain ⟨a, ws, rfl, ha, hl, rs⟩ := r.lst rd e
  rw [RDs] at rds
  subst rds
  obtain ⟨w, hw, rw'⟩ := rs.get hy
  have st := r.step_put (ho := .lst ws.dropLast) ha
  exact ⟨a, ws, w, rfl, rfl, hl, by rw [rs.length]; exact hw, q _ _ _ _ _ st (r.put (o := .lst xs.dropLast) ha ⟨_, upd_same, RDs.mono st r.muts _ _ rs.dropLast⟩) (RD.mono st r.muts _ _ rw') h⟩
theorem lk_ext : LkM K mExt rExtend := by
  rintro φ S H Q' Q d v ds vs r rd rds q ⟨n, xs, y, ys, rfl, rfl, e, ey, hz, h⟩
  obtain ⟨a, ws, rfl, ha, hl, rs⟩ := r.lst rd e
  obtain ⟨u, rfl, ru⟩ := rds1 rds
  obtain ⟨b, zs, rfl, hb, rz⟩ := ls_m r ru ey
  have st := r.step_put (ho := .lst (ws ++ zs)) ha
  exact ⟨a, b, ws, zs, rfl, rfl, hl, hb, by rw [rs.length, rz.length]; exact hz, q _ _ _ _ _ st (r.put (o := .lst (xs ++ ys)) ha ⟨_, upd_same, RDs.mono st r.muts _ _ (rs.append rz)⟩) rd_non h⟩
end
section
variable {F : Fam} {W : WX} {o e : Expr} {es : List Expr} {to te : DTE} {t : DTA} {apos cpos : Pos}
theorem de_append (ho : DE F W o to) (ha : DA F W [e] t) (hbase : ∀ i, attributeBase o "append" (F.X i).env (eval o (F.X i).env) = eval o (F.X i).env := by intro _; rfl)
    (hfew : ∀ i, ((backTo cpos (starEach [e] (F.X i).env)).all (fun x => !x.1) && (backToKw cpos (keywordEach [] (F.X i).env)).all (fun x => x.1.isSome)
      && decide (([e] : List Expr).length + ([] : List Keyword).length + (if ([] : List Keyword).isEmpty then 0 else 1) < 30)) = true := by intro _; rfl)
    (hline : (apos.endLine == cpos.line) = true := by rfl) (hs : ∀ i, starEach [e] (F.X i).env = (false, eval e (F.X i).env) :: starEach [] (F.X i).env := by intro _; rfl) (hplain : ∀ i, (backTo cpos (starEach [] (F.X i).env)).any (·.1) = false := by intro _; rfl) :
    DE F W (.Call (.Attribute o "append" apos) [e] [] cpos) (dBM mApp to t) := de_bm PySem.F.slot_list_append PySem.F.type_list_append (fun _ => mt_append) lk_app ho ha hbase hfew hline hs hplain
theorem de_extend (ho : DE F W o to) (ha : DA F W [e] t) (hbase : ∀ i, attributeBase o "extend" (F.X i).env (eval o (F.X i).env) = eval o (F.X i).env := by intro _; rfl)
    (hfew : ∀ i, ((backTo cpos (starEach [e] (F.X i).env)).all (fun x => !x.1) && (backToKw cpos (keywordEach [] (F.X i).env)).all (fun x => x.1.isSome)
      && decide (([e] : List Expr).length + ([] : List Keyword).length + (if ([] : List Keyword).isEmpty then 0 else 1) < 30)) = true := by intro _; rfl)
    (hline : (apos.endLine == cpos.line) = true := by rfl) (hs : ∀ i, starEach [e] (F.X i).env = (false, eval e (F.X i).env) :: starEach [] (F.X i).env := by intro _; rfl) (hplain : ∀ i, (backTo cpos (starEach [] (F.X i).env)).any (·.1) = false := by intro _; rfl) :
    DE F W (.Call (.Attribute o "extend" apos) [e] [] cpos) (dBM mExt to t) := de_bm PySem.F.slot_list_extend PySem.F.type_list_extend (fun _ => mt_extend) lk_ext ho ha hbase hfew hline hs hplain
theorem de_popAt (ho : DE F W o to) (ha : DA F W [e] t) (hbase : ∀ i, attributeBase o "pop" (F.X i).env (eval o (F.X i).env) = eval o (F.X i).env := by intro _; rfl)
    (hfew : ∀ i, ((backTo cpos (starEach [e] (F.X i).env)).all (fun x => !x.1) && (backToKw cpos (keywordEach [] (F.X i).env)).all (fun x => x.1.isSome)
      && decide (([e] : List Expr).length + ([] : List Keyword).length + (if ([] : List Keyword).isEmpty then 0 else 1) < 30)) = true := by intro _; rfl)
    (hline : (apos.endLine == cpos.line) = true := by rfl) (hs : ∀ i, starEach [e] (F.X i).env = (false, eval e (F.X i).env) :: starEach [] (F.X i).env := by intro _; rfl) (hplain : ∀ i, (backTo cpos (starEach [] (F.X i).env)).any (·.1) = false := by intro _; rfl) :
    DE F W (.Call (.Attribute o "pop" apos) [e] [] cpos) (dBM mPopAt to t) := de_bm PySem.F.slot_list_pop PySem.F.type_list_pop (fun _ => mt_popAt) lk_popAt ho ha hbase hfew hline hs hplain
theorem de_pop (ho : DE F W o to) (hbase : ∀ i, attributeBase o "pop" (F.X i).env (eval o (F.X i).env) = eval o (F.X i).env := by intro _; rfl) (hline : (apos.endLine == cpos.line) = true := by rfl) :
    DE F W (.Call (.Attribute o "pop" apos) [] [] cpos) (dBM0 mPop to) := de_bm0 PySem.F.slot_list_pop PySem.F.type_list_pop (fun _ => mt_pop) lk_pop ho hbase hline
end

/-! ### isinstance -/
def tagOf (S : Store) : D → Option String
  | .non => some "NoneType"
  | .bl _ => some "bool"
  | .int _ => some "int"
  | .str _ => some "str"
  | .tup _ => some "tuple"
  | .lst _ => some "list"
  | .frz _ => some "list"
  | .dic _ _ => some "dict"
  | .ref n => match S[n]? with
    | some (.lst _) => some "list"
    | some (.dK _) => some "dict"
    | _ => none
  | _ => none
def isiT (T tag : String) : Bool := tag == T || (T == "int" && tag == "bool")
def tags : List String := ["NoneType", "bool", "int", "str", "tuple", "list", "dict"]
theorem kit_tags : ∀ a ∈ tags, ∀ b ∈ tags, b ≠ "NoneType" → kitB a b = some (isiT b a) := by decide +kernel
theorem tag_ty {K : PySem.W.Frag} {φ : Al} {H : Hp} {S : Store} {d : D} {v : V} {tag : String} (r : SR K φ S H) (rd : RD K φ H d v) (h : tagOf S d = some tag) : TyX K H v (.type tag) ∧ tag ∈ tags := by
  cases d with
  | non => rw [RD] at rd; subst rd; cases h; exact ⟨.base .non, by decide⟩
  | bl b => rw [RD] at rd; subst rd; cases h; exact ⟨.base (.bl b), by decide⟩
  | int b => rw [RD] at rd; subst rd; cases h; exact ⟨.base (.int b), by decide⟩
  | str b => rw [RD] at rd; subst rd; cases h; exact ⟨.base (.str b), by decide⟩
  | ty n => cases h
  | cls n => cases h
  | exo a d ks xs => cases h
  | tup xs =>
    obtain ⟨a, vs, rfl, h1, _⟩ := rd_tup rd
    cases h
    refine ⟨?_, by decide⟩
    rcases h1 with (h1 | ⟨o, h1⟩) | ⟨o, its, n, h1, h2, _⟩
    · exact .base (.tup h1)
    · exact .fTuple h1
    · exact .kTuple h1 h2
  | lst xs =>
    rw [RD] at rd
    obtain ⟨a, vs, rfl, h1, _⟩ := rd
    cases h
    exact ⟨.base (.lst h1.1), by decide⟩
  | frz xs =>
    rw [RD] at rd
    obtain ⟨a, vs, rfl, h1, _⟩ := rd
    cases h
    refine ⟨?_, by decide⟩
    rcases h1 with ⟨o, h1⟩ | (h1 | ⟨o, h1⟩) | ⟨o, its, n, h1, h2, _⟩
    · exact .base (.frz h1)
    · cases h1
    · cases h1
    · exact .kList h1 h2
  | dic ks xs =>
    rw [RD] at rd
    obtain ⟨a, vs, rfl, h1, _⟩ := rd
    cases h
    exact ⟨.base (.dK h1.1), by decide⟩
  | ref n =>
    simp only [tagOf] at h
    obtain ⟨a, rfl, ha⟩ := rd_ref rd
    split at h
    · rename_i xs e
      cases h
      obtain ⟨vs, h1, _⟩ := r.at_ n a _ ha e
      exact ⟨.base (.lst h1), by decide⟩
    · rename_i xs e
      cases h
      obtain ⟨vs, h1, _⟩ := r.at_ n a _ ha e
      exact ⟨.base (.dK h1), by decide⟩
    · cases h
def cIsi (T : String) : DR := fun ds S Q => ∃ d tag, ds = [d, .ty T] ∧ tagOf S d = some tag ∧ Q (.bl (isiT T tag)) S
theorem lk_isi {K : PySem.W.Frag} {T : String} (hT : T ∈ tags) (hN : T ≠ "NoneType") : LkC K (cIsi T) (rIsi K) := by
  rintro φ S H Q' Q ds vs r rd q ⟨d, tag, rfl, e, h⟩
  obtain ⟨v, w, rfl, h1, h2⟩ := rds2 rd
  rw [RD] at h2
  subst h2
  obtain ⟨ty, ht⟩ := tag_ty r h1 e
  exact ⟨v, .ty T, _, _, _, rfl, .ty T, ty, kit_ty (kit_tags tag ht T hT hN), q φ H S _ _ .refl r rd_bl h⟩
end Dy
namespace Dy
open PySem PySem.Spec PyProof.Rows L2

/-! ### by values: an object made, a method called, where what is raised is wished for at the slots -/
section
variable {X : Cx} {CX : CXT} {k : Nat} {C f : Addr} {fd : FuncData} {ps : List Str} {sp : Sp} {E : L2.St → XK} {x m : Str} {p apos pos : Pos} {o e : Expr} {es : List Expr} {t : TA} {ta : TE}
def tMakeS (C : Addr) (sp : Sp) (E : L2.St → XK) (t : TA) : TE := fun σ H Q => t σ H fun vs H1 => ∀ x dx, H1 x = none → H1 dx = none → dx ≠ x →
  sp (.ref x :: vs) (upd (upd H1 dx (.own x)) x (.ins C dx [])) (fun v H2 => v = .non ∧ Q (.ref x) H2) (E σ)
theorem runMakeS {pins : List (Addr × Obj)} {σ : L2.St} {H : Hp} {s : Shared} {Q : VK} {us : List Value} {vs : List V} (M : Mk X.K C f) (G : FnOk X.prog X.w X.K X.mg X.base CX k f fd ps sp) (hr : Room (k + 1) X.A) (hb : Binds X.K fd ps [])
    (hx : PassesAt CX X σ (E σ)) (I : Inv X pins σ H s) (r : Vals vs us) (h : ∀ x dx, H x = none → H dx = none → dx ≠ x → sp (.ref x :: vs) (upd (upd H dx (.own x)) x (.ins C dx [])) (fun v H2 => v = .non ∧ Q (.ref x) H2) (E σ)) :
    wpAny (model X.prog X.w) X.A (call (.ref C) us) (EP X pins σ Q) X.xe s := by
  have n1 := I.hok.fresh (Nat.le_succ s.heap.objs.size)
  have n0 := I.hok.fresh (Nat.le_refl s.heap.objs.size)
  have want := h _ _ n1 n0 (Nat.ne_of_lt (Nat.lt_succ_self _))
  have J := Inv.made (C := C) I
  have rr : Vals (V.ref (s.heap.objs.size + 1) :: vs) (Value.ref (s.heap.objs.size + 1) :: us) := .cons rfl r
  have ln : (Value.ref (s.heap.objs.size + 1) :: us).length = ps.length := rr.length.symm.trans (G.len _ _ _ _ want)
  have bb := hb _ (Value.ref (s.heap.objs.size + 1) :: us) J.kIn (by rw [List.append_nil]; exact ln)
  rw [List.append_nil] at bb
  have run := G.run _ X.stack _ _ ⟨Value.ref (s.heap.objs.size + 1) :: us, []⟩ _ _ _ (E σ) (hr.make C us []) (J.env0.make C us []) bb rr want
  refine wpAny_call (make_map (f := f) I.kIn M.makes M.init (beq_iff_eq.mp M.fn) (codeAny_mono run fun z s' hz => ?_))
  match z, hz with
  | .error er, hz => exact hx pins _ _ er s' J hz
  | .ok (.ret u), hz =>
    obtain ⟨v, H', J', rv, ev, qq⟩ := J.after hz
    subst ev
    exact ⟨rv, ⟨V.ref (s.heap.objs.size + 1), H', J', rfl, qq⟩⟩
theorem pe_makeS' (M : Mk X.K C f) (G : FnOk X.prog X.w X.K X.mg X.base CX k f fd ps sp) (hr : Room (k + 1) X.A) (hg : Gl X x) (hm : X.mg x = some (.ref C)) (hb : Binds X.K fd ps []) (hx : ∀ σ, PassesAt CX X σ (E σ)) (ha : PA X (e :: es) t)
    (hdb : (x == ("__debug__" : Str)) = false) (he : starEach (e :: es) X.env = (false, eval e X.env) :: starEach es X.env) (hpl : (backTo pos (starEach es X.env)).any (·.1) = false) : PE X (.Call (.Name x p) (e :: es) [] pos) (tMakeS C sp E t) :=
  ⟨fun pins s σ H Q I h => wpAny_Call_Name_kw (ld_glob I hg hm (PySem.W.callWith_K (h₀ := X.base) I.ok.mod.kin M.kp (thn (ha.run pos pins s σ H _ I h) fun us s1 ⟨vs, H1, I1, r, q⟩ => ⟨I1.kIn, runMakeS M G hr hb (hx σ) I1 r q⟩) he hpl) hdb)⟩
theorem pe_makeS0' (M : Mk X.K C f) (G : FnOk X.prog X.w X.K X.mg X.base CX k f fd ps sp) (hr : Room (k + 1) X.A) (hg : Gl X x) (hm : X.mg x = some (.ref C)) (hb : Binds X.K fd ps []) (hx : ∀ σ, PassesAt CX X σ (E σ))
    (hdb : (x == ("__debug__" : Str)) = false) : PE X (.Call (.Name x p) [] [] pos) (tMakeS C sp E tNil) :=
  ⟨fun pins s σ H Q I h => wpAny_Call_Name_kw (ld_glob I hg hm (PySem.W.callWith_K0 I.kIn M.kp (runMakeS (us := []) M G hr hb (hx σ) I .nil h)) hdb)⟩
def tMethSS (C : Addr) (m : Str) (sp : Sp) (E : L2.St → XK) (ta : TE) (t : TA) : TE := fun σ H Q => ta σ H fun x H1 => ∃ a dx fs, x = .ref a ∧ H1 a = some (.ins C dx fs) ∧ fs.lookup m = none ∧ t σ H1 fun vs H2 => sp (x :: vs) H2 Q (E σ)
theorem pe_methSS' {pl : Sem Bool} (he : PE X o ta) (c : Cls X.K C) (hm : Meth X.K C m f) (G : FnOk X.prog X.w X.K X.mg X.base CX k f fd ps sp) (hr : Room k X.A) (hb : Binds X.K fd ps []) (hx : ∀ σ, PassesAt CX X σ (E σ)) (ha : PA X (e :: es) t)
    (hst : starEach (e :: es) X.env = (false, eval e X.env) :: starEach es X.env) (hpl : (backTo pos (starEach es X.env)).any (·.1) = false)
    (ht : eval (.Call (.Attribute o m apos) (e :: es) [] pos) X.env = (do
      let ov ← eval o X.env
      standAt apos.atName
      let (f, first) ← holding [ov] (getMethod ov m pl)
      callWith pos f first (backTo pos (starEach (e :: es) X.env)) (backToKw pos (keywordEach [] X.env)))) : PE X (.Call (.Attribute o m apos) (e :: es) [] pos) (tMethSS C m sp E ta t) := by
  refine ⟨fun pins s σ H Q I h => PySem.W.methodCall_KW (pl := pl) (thn (he.run pins s σ H _ I h) fun u s1 ⟨x, H1, I1, rx, a, dx, fs, ex, ea, l, q⟩ => ?_) ht⟩
  subst ex
  cases (show u = Value.ref a from rx)
  refine getmeth_ok I1 ea c hm l (PySem.W.callWith_K (first := [.ref a]) (h₀ := X.base) I.ok.mod.kin hm.kp (thn (ha.run pos pins s1 σ H1 _ I1 q) fun us s2 ⟨vs, H2, I2, r, q2⟩ => ⟨I2.kIn, ?_⟩) hst hpl)
  exact run_fnS (us := .ref a :: us) (vs := .ref a :: vs) G hr hb (hx σ) I2 (.cons rfl r) q2
theorem pe_methSS0' {pl : Sem Bool} (he : PE X o ta) (c : Cls X.K C) (hm : Meth X.K C m f) (G : FnOk X.prog X.w X.K X.mg X.base CX k f fd ps sp) (hr : Room k X.A) (hb : Binds X.K fd ps []) (hx : ∀ σ, PassesAt CX X σ (E σ))
    (ht : eval (.Call (.Attribute o m apos) [] [] pos) X.env = (do
      let ov ← eval o X.env
      standAt apos.atName
      let (f, first) ← holding [ov] (getMethod ov m pl)
      callWith pos f first (backTo pos (starEach [] X.env)) (backToKw pos (keywordEach [] X.env)))) : PE X (.Call (.Attribute o m apos) [] [] pos) (tMethSS C m sp E ta tNil) := by
  refine ⟨fun pins s σ H Q I h => PySem.W.methodCall_KW (pl := pl) (thn (he.run pins s σ H _ I h) fun u s1 ⟨x, H1, I1, rx, a, dx, fs, ex, ea, l, q⟩ => ?_) ht⟩
  subst ex
  cases (show u = Value.ref a from rx)
  refine getmeth_ok I1 ea c hm l ?_
  exact PySem.W.callWith_K0 (first := [.ref a]) I1.kIn hm.kp (run_fnS (us := [.ref a]) (vs := [.ref a]) G hr hb (hx σ) I1 (.cons rfl .nil) q)
theorem pe_callS0' (G : FnOk X.prog X.w X.K X.mg X.base CX k f fd ps sp) (hr : Room k X.A) (hg : Gl X x) (hm : X.mg x = some (.ref f)) (hk : PySem.W.keepIn X.K (.ref f) = true) (hb : Binds X.K fd ps []) (hx : ∀ σ, PassesAt CX X σ (E σ))
    (hdb : (x == ("__debug__" : Str)) = false) : PE X (.Call (.Name x p) [] [] pos) (tCallS sp E tNil) :=
  ⟨fun pins s σ H Q I h => wpAny_Call_Name_kw (ld_glob I hg hm (PySem.W.callWith_K0 I.kIn hk (run_fnS (us := []) G hr hb (hx σ) I .nil h)) hdb)⟩
/-- X(), X an own exception class without own __init__ -/
theorem pmk_own0' {bmB : List Value} {B newId initId : String} (EF : ExcBaseFacts B newId initId bmB) (q : PySem.W.excIn X.K C bmB newId = true) (gC : X.mg x = some (.ref C)) (kC : PySem.W.keepIn X.K (.ref C) = true) (r : Raises X (.ref C)) (hg : Gl X x)
    (hdb : (x == ("__debug__" : Str)) = false) : PMk X (.Call (.Name x p) [] [] pos) (fun _ H Q => Q (.ref C) none H) := by
  intro pins s σ H Q I h
  refine wpAny_Call_Name_kw (ld_glob I hg gC (PySem.W.callWith_K0 I.kIn kC ?_) hdb)
  show wpAny _ _ (call (.ref C) []) _ _ _
  obtain ⟨bm, N, nm, qn, bs, hdct, sn, sub, ab, col, dd, k0, k1, k2, k3, k5, mN, hC, hN, hni, T⟩ := exc_obj I.kIn q
  exact wpAny_call_exc_subT EF T hC hN hni (fun h' e hm => mk_of I hm r h (I.hok.gone hm.new)) (Nat.zero_le _)
end

/-! ### fields -/
def putD (f : Str) (v : D) : List (Str × D) → List (Str × D)
  | [] => [(f, v)]
  | (g, x) :: r => if g = f then (g, v) :: r else (g, x) :: putD f v r
section
variable {K : PySem.W.Frag} {φ : Al} {H : Hp}
theorem RK.lookup {f : Str} : ∀ {fs : List (Str × D)} {ws : List (Str × V)}, RK K φ H fs ws → (∀ d, fs.lookup f = some d → ∃ v, ws.lookup f = some v ∧ RD K φ H d v) ∧ (fs.lookup f = none → ws.lookup f = none)
  | [], ws, h => by
    have : ws = [] := by have := h.1; simpa using this.symm
    subst this
    exact ⟨fun d e => by simp at e, fun _ => rfl⟩
  | (g, x) :: fs, [], h => by have := h.1; simp at this
  | (g, x) :: fs, (g2, v) :: ws, h => by
    obtain ⟨h1, h2⟩ := h
    simp only [List.map_cons, List.cons.injEq] at h1
    obtain ⟨rfl, h1⟩ := h1
    rw [List.map_cons, List.map_cons, RDs] at h2
    obtain ⟨v', r, e, r1, r2⟩ := h2
    cases e
    have ih := RK.lookup (f := f) (fs := fs) (ws := ws) ⟨h1, r2⟩
    by_cases e : f = g
    · subst e
      have l1 : ((f, x) :: fs).lookup f = some x := by simp [List.lookup]
      have l2 : ((f, v) :: ws).lookup f = some v := by simp [List.lookup]
      rw [l1, l2]
      exact ⟨fun d e => by cases e; exact ⟨v, rfl, r1⟩, fun e => by cases e⟩
    · have e' : (f == g) = false := by simpa using e
      have l1 : ((g, x) :: fs).lookup f = fs.lookup f := by simp [List.lookup, e']
      have l2 : ((g, v) :: ws).lookup f = ws.lookup f := by simp [List.lookup, e']
      rw [l1, l2]
      exact ih
theorem RK.put {f : Str} {d : D} {v : V} (rd : RD K φ H d v) : ∀ {fs : List (Str × D)} {ws : List (Str × V)}, RK K φ H fs ws → RK K φ H (putD f d fs) (putF f v ws)
  | [], ws, h => by
    have : ws = [] := by have := h.1; simpa using this.symm
    subst this
    exact ⟨rfl, .cons rd .nil⟩
  | (g, x) :: fs, [], h => by have := h.1; simp at this
  | (g, x) :: fs, (g2, u) :: ws, h => by
    obtain ⟨h1, h2⟩ := h
    simp only [List.map_cons, List.cons.injEq] at h1
    obtain ⟨rfl, h1⟩ := h1
    rw [List.map_cons, List.map_cons, RDs] at h2
    obtain ⟨v', r, e, r1, r2⟩ := h2
    cases e
    unfold putD putF
    by_cases e : g = f
    · rw [if_pos e, if_pos e]
      exact ⟨by simp [h1], .cons rd r2⟩
    · rw [if_neg e, if_neg e]
      obtain ⟨i1, i2⟩ := RK.put (f := f) rd (fs := fs) (ws := ws) ⟨h1, r2⟩
      exact ⟨by simp [i1], .cons r1 i2⟩
theorem RK.len {κ : Type} {fs : List (κ × D)} {ws : List (κ × V)} (h : RK K φ H fs ws) : ws.length = fs.length := by
  have := congrArg List.length h.1
  simpa using this.symm
end
section
variable {F : Fam} {W : WX} {o e : Expr} {es : List Expr} {to te : DTE} {t : DTA} {apos pos pos' : Pos} {f m x : Str} {C : Addr} {k : Nat} {fi : Addr} {fd : FuncData} {ps : List Str} {sp : DSp} {p : Pos}
/-- o.f, o an object of the store, of a class that P tells -/
def dFld (P : Addr → Prop) (f : Str) (to : DTE) : DTE := fun ρ S Q E => to ρ S (fun d S1 => ∃ n C fs v, d = .ref n ∧ S1[n]? = some (.ins C fs) ∧ P C ∧ fs.lookup f = some v ∧ Q v S1) E
theorem de_fld {P : Addr → Prop} (hP : ∀ C, P C → Cls F.K C ∧ NoAttr F.K C f) (ho : DE F W o to) (hb : ∀ i, attributeBase o f (F.X i).env (eval o (F.X i).env) = eval o (F.X i).env := by intro _; rfl) : DE F W (.Attribute o f pos) (dFld P f to) := by
  obtain ⟨t1, p1, k1⟩ := ho
  refine ⟨tFld F.K t1 f, fun i => F.hK i ▸ pe_fld (p1 i) (hb i), fun σ ρ φ S H E Q' Q o q h => ?_⟩
  refine k1 σ ρ φ S H E _ _ o (fun φ1 H1 S1 d v s1 r1 rd h1 => ?_) h
  obtain ⟨n, C, fs, u, rfl, e1, hC, e2, h1⟩ := h1
  obtain ⟨a, rfl, ha⟩ := rd_ref rd
  obtain ⟨dx, ws, hi, rk⟩ := r1.at_ n a _ ha e1
  obtain ⟨v, e3, rv⟩ := rk.lookup.1 u e2
  exact ⟨a, C, dx, ws, v, rfl, hi, (hP C hC).1, (hP C hC).2, e3, q φ1 H1 S1 _ _ s1 r1 rv h1⟩
/-- o.f = e -/
def dSetF (P : Addr → Prop) (f : Str) (to te : DTE) : DTS := fun D ρ S => te ρ S (fun d S1 => to ρ S1 (fun o S2 => ∃ n C fs, o = .ref n ∧ S2[n]? = some (.ins C fs) ∧ P C ∧ fs.length < 1000 ∧ D.nx ρ (S2.set n (.ins C (putD f d fs)))) (fun x S1 => D.ex x ρ S1)) (fun x S1 => D.ex x ρ S1)
theorem ds_fld {P : Addr → Prop} (hP : ∀ C, P C → Cls F.K C ∧ NoAttr F.K C f) (ho : DE F W o to) (he : DE F W e te) (hs : ∀ i, swapsWith e (some (.Attribute o f pos')) pos.line (F.X i).env = pure false := by intro _; rfl) :
    DS F W (.Assign [.Attribute o f pos'] e pos) (dSetF P f to te) := by
  obtain ⟨t1, p1, k1⟩ := ho
  obtain ⟨t2, p2, k2⟩ := he
  refine ⟨sFld F.K t1 t2 f, fun i => F.hK i ▸ ps_fld (p1 i) (p2 i) (hs i), fun σ ρ φ S H D' D r sl l h => ?_⟩
  have o0 := l.ok r sl
  refine k2 σ ρ φ S H _ _ _ o0 (fun φ1 H1 S1 d v s1 r1 rd h1 => ?_) h
  refine k1 σ ρ φ1 S1 H1 _ _ _ (o0.mono s1 r1) (fun φ2 H2 S2 ob ov s2 r2 ro h2 => ?_) h1
  obtain ⟨n, C, fs, rfl, e1, hC, hl, q⟩ := h2
  obtain ⟨a, rfl, ha⟩ := rd_ref ro
  obtain ⟨dx, ws, hi, rk⟩ := r2.at_ n a _ ha e1
  have rd2 := RD.mono s2 r1.muts _ _ rd
  have st := r2.step_put (ho := .ins C dx (putF f v ws)) ha
  refine ⟨a, C, dx, ws, rfl, hi, (hP C hC).1, (hP C hC).2, by rw [rk.len]; exact hl, ?_⟩
  exact l.nx _ _ _ _ _ ((s1.trans s2).trans st) (r2.put (o := .ins C (putD f d fs)) ha ⟨dx, _, upd_same, (rk.put rd2).mono st r2.muts⟩) (sl.mono ((s1.trans s2).trans st) r.muts) q
/-- o.f op= e -/
def dAugF (P : Addr → Prop) (f : Str) (to te : DTE) (r : D2) : DTS := fun D ρ S => to ρ S (fun o S1 => ∃ n C fs v, o = .ref n ∧ S1[n]? = some (.ins C fs) ∧ P C ∧ fs.lookup f = some v ∧ te ρ S1 (fun d S2 => r v d S2 fun z S3 => ∃ fs', S3[n]? = some (.ins C fs') ∧ fs'.length < 1000 ∧
  D.nx ρ (S3.set n (.ins C (putD f z fs')))) (fun x S1 => D.ex x ρ S1)) (fun x S1 => D.ex x ρ S1)
theorem ds_augF {P : Addr → Prop} {op : Operator} {r : R2} {r' : D2} (hP : ∀ C, P C → Cls F.K C ∧ NoAttr F.K C f) (hop : ∀ i, InOp (F.X i) op r) (lk : Lk F.K r' r) (ho : DE F W o to) (he : DE F W e te) : DS F W (.AugAssign (.Attribute o f pos') op e pos) (dAugF P f to te r') := by
  obtain ⟨t1, p1, k1⟩ := ho
  obtain ⟨t2, p2, k2⟩ := he
  refine ⟨sFldAug F.K t1 t2 r f, fun i => F.hK i ▸ ps_fldaug (p1 i) (p2 i) (hop i), fun σ ρ φ S H D' D r sl l h => ?_⟩
  have o0 := l.ok r sl
  refine k1 σ ρ φ S H _ _ _ o0 (fun φ1 H1 S1 ob ov s1 r1 ro h1 => ?_) h
  obtain ⟨n, C, fs, v, rfl, e1, hC, e2, h1⟩ := h1
  obtain ⟨a, rfl, ha⟩ := rd_ref ro
  obtain ⟨dx, ws, hi, rk⟩ := r1.at_ n a _ ha e1
  obtain ⟨u, e3, ru⟩ := rk.lookup.1 v e2
  refine ⟨a, C, dx, ws, u, rfl, hi, (hP C hC).1, (hP C hC).2, e3, ?_⟩
  refine k2 σ ρ φ1 S1 H1 _ _ _ (o0.mono s1 r1) (fun φ2 H2 S2 d w s2 r2 rd h2 => ?_) h1
  refine lk φ2 S2 H2 _ _ v d u w r2 (RD.mono s2 r1.muts _ _ ru) rd (fun φ3 H3 S3 z y s3 r3 rz h3 => ?_) h2
  obtain ⟨fs', e4, hl, q⟩ := h3
  have ha3 := (s2.trans s3).at ha
  obtain ⟨dx', ws', hi', rk'⟩ := r3.at_ n a _ ha3 e4
  have st := r3.step_put (ho := .ins C dx' (putF f y ws')) ha3
  refine ⟨dx', ws', hi', by rw [rk'.len]; exact hl, ?_⟩
  exact l.nx _ _ _ _ _ (((s1.trans s2).trans s3).trans st) (r3.put (o := .ins C (putD f z fs')) ha3 ⟨dx', _, upd_same, (rk'.put rz).mono st r3.muts⟩) (sl.mono (((s1.trans s2).trans s3).trans st) r.muts) q

/-! ### an object made, a method -/
def dMake (C : Addr) (sp : DSp) (t : DTA) : DTE := fun ρ S Q E => t ρ S (fun ds S1 => sp (.ref S1.length :: ds) (S1 ++ [.ins C []]) (fun d S2 => d = .non ∧ Q (.ref S1.length) S2) E) E
theorem make_link {K : PySem.W.Frag} {σ : L2.St} {ρ : Rho} {φ : Al} {S : Store} {H : Hp} {E : XQ} {Q' : QD} {Q : VK} {ds : List D} {vs : List V} (o : Ok K W σ ρ φ S H E) (q : EndV K φ H Q' Q) (rd : RDs K φ H ds vs) (h : sp (.ref S.length :: ds) (S ++ [.ins C []]) (fun d S2 => d = .non ∧ Q' (.ref S.length) S2) E) :
    ∀ x dx, H x = none → H dx = none → dx ≠ x → liftSp K sp (.ref x :: vs) (upd (upd H dx (.own x)) x (.ins C dx [])) (fun v H2 => v = .non ∧ Q (.ref x) H2) (WE W σ) := by
  intro x dx hx hdx ne
  have hx2 : upd H dx (.own x) x = none := by rw [upd_ne (Ne.symm ne)]; exact hx
  have s1 : Step φ φ H (upd H dx (.own x)) := step_new hdx
  have r1 : SR K φ S (upd H dx (.own x)) := o.sr.new hdx
  have s2 := step_push r1 (ho := .ins C dx []) hx2
  have r2 : SR K (φ.push x) (S ++ [.ins C []]) (upd (upd H dx (.own x)) x (.ins C dx [])) := r1.push (o := .ins C []) hx2 ⟨dx, [], upd_same, rfl, .nil⟩
  have s12 := s1.trans s2
  have rx : RD K (φ.push x) (upd (upd H dx (.own x)) x (.ins C dx [])) (.ref S.length) (.ref x) := by rw [RD]; exact ⟨x, rfl, by show (φ.l ++ [x])[S.length]? = _; rw [o.sr.len]; simp⟩
  refine ⟨φ.push x, S ++ [.ins C []], _, _, E, r2, .cons rx (RDs.mono s12 o.sr.muts _ _ rd), h, fun φ' H' S' d v s r rd' hh => ?_, (o.mono s12 r2).ex⟩
  obtain ⟨rfl, hh⟩ := hh
  rw [RD] at rd'
  exact ⟨rd', q _ _ _ _ _ (s12.trans s) r (RD.mono s r2.muts _ _ rx) hh⟩
theorem de_make (M : ∀ i, Mk (F.X i).K C fi) (G : ∀ i, FnOk (F.X i).prog (F.X i).w (F.X i).K (F.X i).mg (F.X i).base (L2.CX (F.X i).prog (F.X i).w) k fi fd ps (liftSp F.K sp)) (hr : ∀ i, Room (k + 1) (F.X i).A) (hg : ∀ i, Gl (F.X i) x) (hm : ∀ i, (F.X i).mg x = some (.ref C))
    (hb : ∀ i, Binds (F.X i).K fd ps []) (tk : ∀ i, Takes (F.X i) W) (ha : DA F W (e :: es) t) (hdb : (x == ("__debug__" : Str)) = false := by decide)
    (he : ∀ i, starEach (e :: es) (F.X i).env = (false, eval e (F.X i).env) :: starEach es (F.X i).env := by intro _; rfl) (hpl : ∀ i, (backTo pos (starEach es (F.X i).env)).any (·.1) = false := by intro _; rfl) :
    DE F W (.Call (.Name x p) (e :: es) [] pos) (dMake C sp t) := by
  obtain ⟨t1, p1, k1⟩ := ha
  refine ⟨_, fun i => pe_makeS' (M i) (G i) (hr i) (hg i) (hm i) (hb i) (fun σ => passAt (tk i) σ) (p1 i) hdb (he i) (hpl i), fun σ ρ φ S H E Q' Q o q h => ?_⟩
  exact k1 σ ρ φ S H E _ _ o (fun φ1 H1 S1 ds vs s1 r1 rd h1 => make_link (o.mono s1 r1) (q.mono s1) rd h1) h
theorem de_make0 (M : ∀ i, Mk (F.X i).K C fi) (G : ∀ i, FnOk (F.X i).prog (F.X i).w (F.X i).K (F.X i).mg (F.X i).base (L2.CX (F.X i).prog (F.X i).w) k fi fd ps (liftSp F.K sp)) (hr : ∀ i, Room (k + 1) (F.X i).A) (hg : ∀ i, Gl (F.X i) x) (hm : ∀ i, (F.X i).mg x = some (.ref C))
    (hb : ∀ i, Binds (F.X i).K fd ps []) (tk : ∀ i, Takes (F.X i) W) (hdb : (x == ("__debug__" : Str)) = false := by decide) : DE F W (.Call (.Name x p) [] [] pos) (dMake C sp dNil) :=
  ⟨_, fun i => pe_makeS0' (M i) (G i) (hr i) (hg i) (hm i) (hb i) (fun σ => passAt (tk i) σ) hdb, fun σ ρ φ S H E Q' Q o q h => make_link o q .nil h⟩
theorem de_call0 {f : Addr} (G : ∀ i, FnOk (F.X i).prog (F.X i).w (F.X i).K (F.X i).mg (F.X i).base (L2.CX (F.X i).prog (F.X i).w) k f fd ps (liftSp F.K sp)) (hr : ∀ i, Room k (F.X i).A) (hg : ∀ i, Gl (F.X i) x) (hm : ∀ i, (F.X i).mg x = some (.ref f))
    (hk : ∀ i, PySem.W.keepIn (F.X i).K (.ref f) = true) (hb : ∀ i, Binds (F.X i).K fd ps []) (tk : ∀ i, Takes (F.X i) W) (hdb : (x == ("__debug__" : Str)) = false := by decide) : DE F W (.Call (.Name x p) [] [] pos) (dCall sp dNil) :=
  ⟨_, fun i => pe_callS0' (G i) (hr i) (hg i) (hm i) (hk i) (hb i) (fun σ => passAt (tk i) σ) hdb, fun σ ρ φ S H E Q' Q o q h => call_link o q .nil h⟩
def dMeth (C : Addr) (m : Str) (sp : DSp) (to : DTE) (t : DTA) : DTE := fun ρ S Q E => to ρ S (fun o S1 => ∃ n fs, o = .ref n ∧ S1[n]? = some (.ins C fs) ∧ fs.lookup m = none ∧ t ρ S1 (fun ds S2 => sp (o :: ds) S2 Q E) E) E
theorem de_meth (c : Cls F.K C) (hm : Meth F.K C m fi) (G : ∀ i, FnOk (F.X i).prog (F.X i).w (F.X i).K (F.X i).mg (F.X i).base (L2.CX (F.X i).prog (F.X i).w) k fi fd ps (liftSp F.K sp)) (hr : ∀ i, Room k (F.X i).A) (hb : ∀ i, Binds (F.X i).K fd ps [])
    (tk : ∀ i, Takes (F.X i) W) (ho : DE F W o to) (ha : DA F W (e :: es) t)
    (hst : ∀ i, starEach (e :: es) (F.X i).env = (false, eval e (F.X i).env) :: starEach es (F.X i).env := by intro _; rfl) (hpl : ∀ i, (backTo pos (starEach es (F.X i).env)).any (·.1) = false := by intro _; rfl)
    (ht : ∀ i, eval (.Call (.Attribute o m apos) (e :: es) [] pos) (F.X i).env = (do
      let ov ← eval o (F.X i).env
      standAt apos.atName
      let (f, first) ← holding [ov] (getMethod ov m (do return (← importBound o (F.X i).env).getD true))
      callWith pos f first (backTo pos (starEach (e :: es) (F.X i).env)) (backToKw pos (keywordEach [] (F.X i).env))) := by intro _; rfl) : DE F W (.Call (.Attribute o m apos) (e :: es) [] pos) (dMeth C m sp to t) := by
  obtain ⟨t1, p1, k1⟩ := ho
  obtain ⟨t2, p2, k2⟩ := ha
  refine ⟨tMethSS C m (liftSp F.K sp) (WE W) t1 t2, fun i => pe_methSS' (p1 i) ((F.hK i).symm ▸ c) ((F.hK i).symm ▸ hm) (G i) (hr i) (hb i) (fun σ => passAt (tk i) σ) (p2 i) (hst i) (hpl i) (ht i), fun σ ρ φ S H E Q' Q o q h => ?_⟩
  refine k1 σ ρ φ S H E _ _ o (fun φ1 H1 S1 d v s1 r1 rd h1 => ?_) h
  obtain ⟨n, fs, rfl, e1, e2, h1⟩ := h1
  obtain ⟨a, rfl, ha⟩ := rd_ref rd
  obtain ⟨dx, ws, hi, rk⟩ := r1.at_ n a _ ha e1
  refine ⟨a, dx, ws, rfl, hi, rk.lookup.2 e2, ?_⟩
  refine k2 σ ρ φ1 S1 H1 E _ _ (o.mono s1 r1) (fun φ2 H2 S2 ds vs s2 r2 rds h2 => ?_) h1
  exact call_link (o.mono (s1.trans s2) r2) (q.mono (s1.trans s2)) (.cons (RD.mono s2 r1.muts _ _ rd) rds) h2
theorem de_meth0 (c : Cls F.K C) (hm : Meth F.K C m fi) (G : ∀ i, FnOk (F.X i).prog (F.X i).w (F.X i).K (F.X i).mg (F.X i).base (L2.CX (F.X i).prog (F.X i).w) k fi fd ps (liftSp F.K sp)) (hr : ∀ i, Room k (F.X i).A) (hb : ∀ i, Binds (F.X i).K fd ps [])
    (tk : ∀ i, Takes (F.X i) W) (ho : DE F W o to)
    (ht : ∀ i, eval (.Call (.Attribute o m apos) [] [] pos) (F.X i).env = (do
      let ov ← eval o (F.X i).env
      standAt apos.atName
      let (f, first) ← holding [ov] (getMethod ov m (do return (← importBound o (F.X i).env).getD true))
      callWith pos f first (backTo pos (starEach [] (F.X i).env)) (backToKw pos (keywordEach [] (F.X i).env))) := by intro _; rfl) : DE F W (.Call (.Attribute o m apos) [] [] pos) (dMeth C m sp to dNil) := by
  obtain ⟨t1, p1, k1⟩ := ho
  refine ⟨tMethSS C m (liftSp F.K sp) (WE W) t1 tNil, fun i => pe_methSS0' (p1 i) ((F.hK i).symm ▸ c) ((F.hK i).symm ▸ hm) (G i) (hr i) (hb i) (fun σ => passAt (tk i) σ) (ht i), fun σ ρ φ S H E Q' Q o q h => ?_⟩
  refine k1 σ ρ φ S H E _ _ o (fun φ1 H1 S1 d v s1 r1 rd h1 => ?_) h
  obtain ⟨n, fs, rfl, e1, e2, h1⟩ := h1
  obtain ⟨a, rfl, ha⟩ := rd_ref rd
  obtain ⟨dx, ws, hi, rk⟩ := r1.at_ n a _ ha e1
  exact ⟨a, dx, ws, rfl, hi, rk.lookup.2 e2, call_link (o.mono s1 r1) (q.mono s1) (.cons rd .nil) h1⟩
end
end Dy
namespace Dy
open PySem PySem.Spec PyProof.Rows L2

/-! ### error classes -/
abbrev veL : List Value := [.type "ValueError", .type "Exception", .type "BaseException", .type "object"]
/-- an own error class at C -/
structure ErrC (K : PySem.W.Frag) (C : Addr) : Prop where
  kp : PySem.W.keepIn K (.ref C) = true
  sub : PySem.W.subIn K (.ref C) (.type "BaseException") = some true
  ty : PySem.W.typeIn K (.ref C) = some (.type "type")
/-- .. without an __init__ of its own -/
structure ErrN (K : PySem.W.Frag) (C : Addr) : Prop extends ErrC K C where
  ex : PySem.W.excIn K C veL "ValueError.__new__" = true
/-- .. that keeps its one argument as f; its __init__ at fI -/
structure ErrF (K : PySem.W.Frag) (C : Addr) (f : Str) (fI : Addr) : Prop extends ErrC K C where
  cls : ∃ nm q N bs bm sn sub ab col dd k0 k1 k2 k3 k5, K.lookup C = some (excClassObj nm q C N bs bm true sn sub ab col dd k0 k1 k2 k3 k5 "ValueError.__new__") ∧ PySem.HandSPX.refsVE bm = true
  sa : PySem.W.findIn K (.ref C) "__setattr__" = some (some (.builtin "object.__setattr__"))
  nof : PySem.W.findIn K (.ref C) f = some none
  init : PySem.W.findIn K (.ref C) "__init__" = some (some (.ref fI))
  tI : PySem.W.typeIn K (.ref fI) = some (.type "function")
theorem ErrF.oex {K : PySem.W.Frag} {C fI : Addr} {f : Str} (e : ErrF K C f fI) : OexC K C := ⟨e.cls, e.sa, e.sub, e.ty, e.kp⟩
theorem ErrC.raises {X : Cx} {C : Addr} (e : ErrC X.K C) : Raises X (.ref C) := raises_own e.sub e.ty
/-- the promise of such an __init__ -/
def spEI (C : Addr) (f : Str) : Sp := fun vs H Q _ => ∃ a v, vs = [.ref a, v] ∧ H a = some (exo a C none) ∧ ∀ dx, H dx = none → dx ≠ a → Q .non (upd (upd H dx (exd dx [(f, v)])) a (exo a C (some dx)))
section
variable {P : Program} {w : World} {K : PySem.W.Frag} {mg : Str → Option Value} {base : Heap}
theorem err_init {qual f : Str} {st : Stmt} {C fI : Addr} {fd : FuncData} {p1 p2 p3 p4 : Pos} (F : Fun K "__init__" qual st fI fd) (S : FnScope ["self", f] ["self", f] (defScope st))
    (hb : defBody st = [.Assign [.Attribute (.Name "self" p1) f p2] (.Name f p3) p4]) (T : ErrF K C f fI) (h1 : (f == ("__debug__" : Str)) = false := by decide) (h2 : (f == ("__classdict__" : Str)) = false := by decide) : FnOk P w K mg base (L2.CX P w) 1 fI fd ["self", f] (spEI C f) := by
  refine F.okX S (fun vs H Q E h => ?_) (fun cdv A outer s H vs Q E hr h => ?_)
  · obtain ⟨a, v, rfl, _⟩ := h
    rfl
  · obtain ⟨a, v, rfl, ha, q⟩ := h
    rw [hb]
    have v1 : Vis (defScope st) "self" := by
      rcases S.par "self" (by simp) with z | z
      · exact .inl z
      · exact .inr (.inl z)
    have v2 : Vis (defScope st) f := by
      rcases S.par f (by simp) with z | z
      · exact .inl z
      · exact .inr (.inl z)
    refine ⟨_, pss_one (ps_ost (pe_var (i := 0) rfl v1) (pe_var (i := 1) rfl v2 h1 h2)), ?_⟩
    exact ⟨v, rfl, _, rfl, a, C, rfl, T.oex, T.nof, .inl ⟨ha, fun dx hdx ne => q dx hdx ne⟩⟩
end

/-! ### raise -/
section
variable {F : Fam} {W : WX} {e : Expr} {te : DTE} {x f : Str} {C fI : Addr} {p pos pos2 : Pos} {fd : FuncData} {k : Nat}
def dRaise0 (C : Addr) : DTS := fun D ρ S => D.ex ⟨C, none⟩ ρ S
theorem ds_raise0 (hc : ∀ i, (F.X i).calm = true) (T : ErrN F.K C) (tk : ∀ i, Takes (F.X i) W) (hm : ∀ i, (F.X i).mg x = some (.ref C)) (hg : ∀ i, Gl (F.X i) x := by intro _; rfl) (hdb : (x == ("__debug__" : Str)) = false := by decide) :
    DS F W (.Raise (some (.Call (.Name x p) [] [] pos)) none pos2) (dRaise0 C) := by
  refine ⟨fun _ σ H => W (.ref C) none σ H, fun i => ?_, fun σ ρ φ S H D' D r sl l h => l.ex _ _ _ _ _ ⟨C, none⟩ _ _ .refl r sl ⟨rfl, rfl⟩ h⟩
  have T' : ErrN (F.X i).K C := by rw [F.hK]; exact T
  exact ps_raise (hc i) (tk i) (pmk_own0' PySem.F.excBase_ValueError T'.ex (hm i) T'.kp T'.raises (hg i) hdb)
def dRaiseF (C : Addr) (f : Str) (te : DTE) : DTS := fun D ρ S => te ρ S (fun d S1 => D.ex ⟨C, some [(f, d)]⟩ ρ S1) (fun x S1 => D.ex x ρ S1)
theorem ds_raiseF (hc : ∀ i, (F.X i).calm = true) (T : ErrF F.K C f fI) (tk : ∀ i, Takes (F.X i) W) (hm : ∀ i, (F.X i).mg x = some (.ref C)) (G : ∀ i, FnOk (F.X i).prog (F.X i).w (F.X i).K (F.X i).mg (F.X i).base (L2.CX (F.X i).prog (F.X i).w) k fI fd ["self", f] (spEI C f)) (hr : ∀ i, Room (k + 1) (F.X i).A) (hb : ∀ i, Binds (F.X i).K fd ["self", f] [])
    (he : DE F W e te) (hg : ∀ i, Gl (F.X i) x := by intro _; rfl) (hdb : (x == ("__debug__" : Str)) = false := by decide)
    (hs : ∀ i, starEach [e] (F.X i).env = (false, eval e (F.X i).env) :: starEach [] (F.X i).env := by intro _; rfl) (hpl : ∀ i, (backTo pos (starEach [] (F.X i).env)).any (·.1) = false := by intro _; rfl) :
    DS F W (.Raise (some (.Call (.Name x p) [e] [] pos)) none pos2) (dRaiseF C f te) := by
  obtain ⟨t1, p1, k1⟩ := he
  refine ⟨fun _ σ H => tMkO C (spEI C f) [] (tCons t1 tNil) σ H fun cls d H' => W cls d σ H', fun i => ?_, fun σ ρ φ S H D' D r sl l h => ?_⟩
  · have T' : OexC (F.X i).K C := by rw [F.hK]; exact T.oex
    exact ps_raise (hc i) (tk i) (pmk_oex T' (by rw [F.hK]; exact T.init) (by rw [F.hK]; exact T.tI) (G i) (hr i) (hb i) .nil passL (hg i) (hm i) (pa_cons (p1 i) pa_nil (hs i)) hdb (hs i) (hpl i))
  · refine k1 σ ρ φ S H _ _ _ (l.ok r sl) (fun φ1 H1 S1 d v s1 r1 rd h1 => ?_) h
    refine ⟨by show 1 ≤ 1000; decide, fun a ha => ⟨a, v, rfl, upd_same, fun dx hdx ne => ⟨rfl, dx, [(f, v)], upd_same, ?_, ?_, ?_⟩⟩⟩
    · rw [upd_ne ne, upd_same]
    · rw [upd_ne ne] at hdx; exact hdx
    · have hdx' : H1 dx = none := by rw [upd_ne ne] at hdx; exact hdx
      have e : upd (del (upd (upd (upd H1 a (L2.exo a C none)) dx (exd dx [(f, v)])) a (L2.exo a C (some dx))) a) dx (.xd [(f, v)]) = upd H1 dx (.xd [(f, v)]) := by
        funext b
        by_cases q : b = dx
        · subst q; rw [upd_same, upd_same]
        · rw [upd_ne q, upd_ne q]
          by_cases q2 : b = a
          · subst q2; rw [del_same, ha]
          · rw [del_ne q2, upd_ne q2, upd_ne q, upd_ne q2]
      rw [e]
      have st : Step φ1 φ1 H1 (upd H1 dx (.xd [(f, v)])) := step_new hdx'
      exact l.ex _ _ _ _ _ ⟨C, some [(f, d)]⟩ _ _ (s1.trans st) (r1.new hdx') ((sl.mono s1 r.muts).mono st r1.muts) ⟨rfl, dx, [(f, v)], rfl, upd_same, rfl, .cons (RD.mono st r1.muts _ _ rd) .nil⟩ h1
end

/-! ### try .. except X as n, except X -/
/-- the caught error as a value -/
def exV (a : Addr) (d : Option Addr) (x : Exc) : D := match x.fs, d with
  | some fs, some dd => .exo a dd (fs.map (·.1)) (fs.map (·.2))
  | _, _ => .cls a
theorem zip_map {κ : Type} : ∀ ws : List (κ × V), (ws.map (·.1)).zip (ws.map (·.2)) = ws
  | [] => rfl
  | w :: ws => by simp [zip_map ws]
theorem exV_rd {K : PySem.W.Frag} {φ : Al} {H : Hp} {x : Exc} {cls : Value} {d : Option Addr} (h : ExR K φ H x cls d) (a : Addr) : RD K φ H (exV a d x) (.ref a) := by
  obtain ⟨C, fs⟩ := x
  obtain ⟨_, h⟩ := h
  cases fs with
  | none => unfold exV; rw [RD]
  | some fs =>
    obtain ⟨dd, ws, rfl, h1, h2, h3⟩ := h
    show RD K φ H (.exo a dd (fs.map (·.1)) (fs.map (·.2))) (.ref a)
    rw [RD]
    refine ⟨ws.map (·.2), rfl, ?_, ?_, h3⟩
    · have h2' : fs.map (·.1) = ws.map (·.1) := h2
      rw [h2', zip_map]; exact h1
    · have := congrArg List.length h2
      simpa using this
section
variable {F : Fam} {W : WX} {x n : Str} {c : Value} {i : Nat} {body suite : List Stmt} {b0 : Stmt} {np pos pos' : Pos} {tb : DTS} {ts : Addr → Exc → Option Addr → DTS}
/-- the contexts of a try's body, of an except suite -/
def Fam.tr (F : Fam) (W' : WX) : Fam := ⟨Σ' (i : F.ι) (pn : List (Addr × Obj)) (xe : Value → Shared → Prop), Takes ((F.X i).tr pn xe) W' ∧ PassesOwn (model (F.X i).prog (F.X i).w) (F.X i).A (F.X i).env xe, fun j => (F.X j.1).tr j.2.1 j.2.2.1, F.K, fun j => F.hK j.1⟩
def Fam.su (F : Fam) (a : Addr) (cls : Value) (d : Option Addr) : Fam := ⟨Σ' (i : F.ι) (oe : Obj) (pn : List (Addr × Obj)), Zc cls d oe ∧ ∃ vs, oe.data = .fields vs, fun j => (F.X j.1).suite a ((a, j.2.1) :: j.2.2.1), F.K, fun j => F.hK j.1⟩
/-- em: of which classes the clause takes the errors -/
theorem ExR.some {K : PySem.W.Frag} {φ : Al} {H : Hp} {x : Exc} {cls : Value} {d : Option Addr} (h : ExR K φ H x cls d) : d.isSome = x.fs.isSome := by
  obtain ⟨C, fs⟩ := x
  obtain ⟨_, h⟩ := h
  cases fs with
  | none => have h : d = none := h; subst h; rfl
  | some fs => obtain ⟨dd, ws, rfl, _⟩ := h; rfl
def dTryAs (em : Addr → Option Bool) (i : Nat) (tb : DTS) (ts : Addr → Exc → Option Addr → DTS) : DTS := fun D ρ S =>
  tb { D with ex := fun x ρ1 S1 => ∃ b, em x.C = some b ∧ (b = true → ∀ a d, d.isSome = x.fs.isSome → ts a x d { D with nx := fun ρ2 S2 => D.nx (ρ2.set i none) S2, bk := fun ρ2 S2 => D.bk (ρ2.set i none) S2, ct := fun ρ2 S2 => D.ct (ρ2.set i none) S2, ex := fun _ _ _ => False } (ρ1.set i (some (exV a d x))) S1) ∧ (b = false → D.ex x ρ1 S1) } ρ S
def dTryO (em : Addr → Option Bool) (tb : DTS) (ts : Addr → Exc → Option Addr → DTS) : DTS := fun D ρ S =>
  tb { D with ex := fun x ρ1 S1 => ∃ b, em x.C = some b ∧ (b = true → ∀ a d, d.isSome = x.fs.isSome → ts a x d { D with ex := fun _ _ _ => False } ρ1 S1) ∧ (b = false → D.ex x ρ1 S1) } ρ S
theorem ds_tryAs (i : Nat) {em : Addr → Option Bool} (hem : ∀ C b, em C = some b → PySem.W.exmOne F.K (.ref C) c = some b) (hs : ∀ j, (F.X j).stack = (F.X j).env :: (F.X j).outer) (hf : ∀ j, (F.X j).env.frame = some (F.X j).env.locals) (hN : ∀ j, (F.X j).N.Nodup)
    (hc : ∀ j, Names (F.X j) x c) (tk : ∀ j, Takes (F.X j) W) (hb : ∀ W', DSs (F.tr W') W' body tb) (hsu : ∀ a x d, DSs (F.su a (.ref x.C) d) W0 (b0 :: suite) (ts a x d))
    (hi : ∀ j, (F.X j).N[i]? = some n := by intro _; rfl) (hln : ∀ j, (F.X j).env.kindOf n = some .local := by intro _; rfl) :
    DS F W (.Try body [.ExceptHandler (some (.Name x np)) (some n) (b0 :: suite) pos'] [] [] pos) (dTryAs em i tb ts) := by
  have hb' : ∀ W', ∃ t : TS, (∀ j, PSs ((F.tr W').X j) body t) ∧ ∀ σ ρ φ S H D' D, SR F.K φ S H → Sl F.K φ H ρ σ → Lnk F.K W' φ H D' D → tb D' ρ S → t D σ H := hb
  -- the suite's reading by values: for every error that it may be
  let tsV : Addr → Value → Option Addr → TS := fun a cls d D σ H => ∃ y : Exc, cls = .ref y.C ∧ (Classical.choose (hsu a y d)) D σ H
  have hsV : ∀ (j : F.ι) (a : Addr) (oe : Obj) (cls : Value) (d : Option Addr) (pn : List (Addr × Obj)), Zc cls d oe → (∃ vs, oe.data = .fields vs) → PSs ((F.X j).suite a ((a, oe) :: pn)) (b0 :: suite) (tsV a cls d) := by
    intro j a oe cls d pn z fv
    refine ⟨fun pins s σ H D I h => ?_⟩
    obtain ⟨y, rfl, h⟩ := h
    exact ((Classical.choose_spec (hsu a y d)).1 ⟨j, oe, pn, z, fv⟩).run pins s σ H D I h
  refine ⟨fun D σ H => (Classical.choose (hb' (wAs F.K c i tsV W D))) D σ H, fun j => ?_, fun σ ρ φ S H D' D r sl l h => ?_⟩
  · have := ps_try_as (i := i) (tb := fun W' => Classical.choose (hb' W')) (ts := tsV) (pos := pos) (pos' := pos') (np := np) (hs j) (hf j) (hN j) (hi j) (hln j) (hc j) (tk j) (fun W' pn xe tk' pa => (Classical.choose_spec (hb' W')).1 ⟨j, pn, xe, tk', pa⟩) (hsV j)
    rw [F.hK j] at this
    exact this
  · refine (Classical.choose_spec (hb' (wAs F.K c i tsV W D))).2 σ ρ φ S H { D' with ex := fun x ρ1 S1 => ∃ b, em x.C = some b ∧ (b = true → ∀ a d, d.isSome = x.fs.isSome → ts a x d { D' with nx := fun ρ2 S2 => D'.nx (ρ2.set i none) S2, bk := fun ρ2 S2 => D'.bk (ρ2.set i none) S2, ct := fun ρ2 S2 => D'.ct (ρ2.set i none) S2, ex := fun _ _ _ => False } (ρ1.set i (some (exV a d x))) S1) ∧ (b = false → D'.ex x ρ1 S1) } D r sl ⟨l.nx, l.rt, l.bk, l.ct, ?_⟩ h
    intro φ1 H1 S1 ρ1 σ1 y cls d s1 r1 sl1 xr hh
    obtain ⟨b, eb, h1, h2⟩ := hh
    have ec : cls = .ref y.C := xr.1
    subst ec
    refine ⟨b, hem _ _ eb, fun e a ha => ⟨y, rfl, ?_⟩, fun e => l.ex _ _ _ _ _ _ _ _ s1 r1 sl1 xr (h2 e)⟩
    refine (Classical.choose_spec (hsu a y d)).2 _ _ φ1 S1 H1 _ _ r1 (sl1.set (exV_rd xr a)) ?_ (h1 e a d xr.some)
    have l1 := l.mono s1
    exact ⟨fun _ _ _ _ _ s r sl q => l1.nx _ _ _ _ _ s r sl.unset q, l1.rt, fun _ _ _ _ _ s r sl q => l1.bk _ _ _ _ _ s r sl.unset q, fun _ _ _ _ _ s r sl q => l1.ct _ _ _ _ _ s r sl.unset q, fun _ _ _ _ _ _ _ _ _ _ _ _ z => z.elim⟩
theorem ds_tryO {em : Addr → Option Bool} (hem : ∀ C b, em C = some b → PySem.W.exmOne F.K (.ref C) c = some b) (hs : ∀ j, (F.X j).stack = (F.X j).env :: (F.X j).outer) (hf : ∀ j, (F.X j).env.frame = some (F.X j).env.locals)
    (hc : ∀ j, Names (F.X j) x c) (tk : ∀ j, Takes (F.X j) W) (hb : ∀ W', DSs (F.tr W') W' body tb) (hsu : ∀ a x d, DSs (F.su a (.ref x.C) d) W0 (b0 :: suite) (ts a x d)) :
    DS F W (.Try body [.ExceptHandler (some (.Name x np)) none (b0 :: suite) pos'] [] [] pos) (dTryO em tb ts) := by
  have hb' : ∀ W', ∃ t : TS, (∀ j, PSs ((F.tr W').X j) body t) ∧ ∀ σ ρ φ S H D' D, SR F.K φ S H → Sl F.K φ H ρ σ → Lnk F.K W' φ H D' D → tb D' ρ S → t D σ H := hb
  let tsV : Addr → Value → Option Addr → TS := fun a cls d D σ H => ∃ y : Exc, cls = .ref y.C ∧ (Classical.choose (hsu a y d)) D σ H
  have hsV : ∀ (j : F.ι) (a : Addr) (oe : Obj) (cls : Value) (d : Option Addr) (pn : List (Addr × Obj)), Zc cls d oe → (∃ vs, oe.data = .fields vs) → PSs ((F.X j).suite a ((a, oe) :: pn)) (b0 :: suite) (tsV a cls d) := by
    intro j a oe cls d pn z fv
    refine ⟨fun pins s σ H D I h => ?_⟩
    obtain ⟨y, rfl, h⟩ := h
    exact ((Classical.choose_spec (hsu a y d)).1 ⟨j, oe, pn, z, fv⟩).run pins s σ H D I h
  refine ⟨fun D σ H => (Classical.choose (hb' (wOnly F.K c tsV W D))) D σ H, fun j => ?_, fun σ ρ φ S H D' D r sl l h => ?_⟩
  · have := ps_try_only (tb := fun W' => Classical.choose (hb' W')) (ts := tsV) (pos := pos) (pos' := pos') (np := np) (hs j) (hf j) (hc j) (tk j) (fun W' pn xe tk' pa => (Classical.choose_spec (hb' W')).1 ⟨j, pn, xe, tk', pa⟩) (hsV j)
    rw [F.hK j] at this
    exact this
  · refine (Classical.choose_spec (hb' (wOnly F.K c tsV W D))).2 σ ρ φ S H { D' with ex := fun x ρ1 S1 => ∃ b, em x.C = some b ∧ (b = true → ∀ a d, d.isSome = x.fs.isSome → ts a x d { D' with ex := fun _ _ _ => False } ρ1 S1) ∧ (b = false → D'.ex x ρ1 S1) } D r sl ⟨l.nx, l.rt, l.bk, l.ct, ?_⟩ h
    intro φ1 H1 S1 ρ1 σ1 y cls d s1 r1 sl1 xr hh
    obtain ⟨b, eb, h1, h2⟩ := hh
    have ec : cls = .ref y.C := xr.1
    subst ec
    refine ⟨b, hem _ _ eb, fun e a ha => ⟨y, rfl, ?_⟩, fun e => l.ex _ _ _ _ _ _ _ _ s1 r1 sl1 xr (h2 e)⟩
    refine (Classical.choose_spec (hsu a y d)).2 _ _ φ1 S1 H1 _ _ r1 sl1 ?_ (h1 e a d xr.some)
    have l1 := l.mono s1
    exact ⟨l1.nx, l1.rt, l1.bk, l1.ct, fun _ _ _ _ _ _ _ _ _ _ _ _ z => z.elim⟩
end

/-! ### in an except suite: e.f, isinstance(e, C) -/
section
variable {F : Fam} {W : WX} {a : Addr} {C : Addr} {d : Option Addr} {e : Expr} {te : DTE} {f : Str} {pos : Pos}
def dXf (f : Str) (te : DTE) : DTE := fun ρ S Q E => te ρ S (fun v S1 => ∃ a d ks xs u, v = .exo a d ks xs ∧ (ks.zip xs).lookup f = some u ∧ Q u S1) E
theorem zip_lookup {K : PySem.W.Frag} {φ : Al} {H : Hp} {f : Str} {u : D} : ∀ {ks : List Str} {xs : List D} {vs : List V}, RDs K φ H xs vs → (ks.zip xs).lookup f = some u → ∃ v, (ks.zip vs).lookup f = some v ∧ RD K φ H u v
  | [], xs, vs, _, h => by simp at h
  | k :: ks, [], vs, _, h => by simp at h
  | k :: ks, x :: xs, vs, r, h => by
    rw [RDs] at r
    obtain ⟨v, vs', rfl, r1, r2⟩ := r
    rw [List.zip_cons_cons] at h ⊢
    by_cases e : f = k
    · subst e
      have l1 : ((f, x) :: ks.zip xs).lookup f = some x := by simp [List.lookup]
      have l2 : ((f, v) :: ks.zip vs').lookup f = some v := by simp [List.lookup]
      rw [l1] at h
      cases h
      exact ⟨v, l2, r1⟩
    · have e' : (f == k) = false := by simpa using e
      have l1 : ((k, x) :: ks.zip xs).lookup f = (ks.zip xs).lookup f := by simp [List.lookup, e']
      have l2 : ((k, v) :: ks.zip vs').lookup f = (ks.zip vs').lookup f := by simp [List.lookup, e']
      rw [l1] at h
      rw [l2]
      exact zip_lookup r2 h
/-- the suite's own error is what e is worth; d tells where its dict is -/
theorem de_xf {dd : Addr} (T : XfC F.K C) (hno : PySem.W.findIn F.K (.ref C) f = some none) (he : DE (F.su a (.ref C) (some dd)) W e te) (hb : ∀ i, attributeBase e f ((F.su a (.ref C) (some dd)).X i).env (eval e ((F.su a (.ref C) (some dd)).X i).env) = eval e ((F.su a (.ref C) (some dd)).X i).env := by intro _; rfl) :
    DE (F.su a (.ref C) (some dd)) W (.Attribute e f pos) (fun ρ S Q E => te ρ S (fun v S1 => ∃ ks xs u, v = .exo a dd ks xs ∧ (ks.zip xs).lookup f = some u ∧ Q u S1) E) := by
  obtain ⟨t1, p1, k1⟩ := he
  refine ⟨tXf a (.ref C) (some dd) C f t1, fun j => ?_, fun σ ρ φ S H E Q' Q o q h => ?_⟩
  · obtain ⟨i, oe, pn, z, fv⟩ := j
    have T' : XfC (F.X i).K C := by rw [F.hK]; exact T
    exact pe_xf T' (by rw [F.hK]; exact hno) z fv (p1 ⟨i, oe, pn, z, fv⟩) (hb ⟨i, oe, pn, z, fv⟩)
  · refine k1 σ ρ φ S H E _ _ o (fun φ1 H1 S1 v u s1 r1 rd h1 => ?_) h
    obtain ⟨ks, xs, y, rfl, el, h1⟩ := h1
    rw [RD] at rd
    obtain ⟨vs, rfl, e1, hl, rs⟩ := rd
    obtain ⟨w, e2, rw'⟩ := zip_lookup rs el
    exact ⟨rfl, rfl, dd, _, w, rfl, e1, e2, q φ1 H1 S1 _ _ s1 r1 rw' h1⟩
/-- what a class must say so that isinstance asks its errors rightly -/
structure ExcI (K : PySem.W.Frag) (C : Addr) : Prop where
  cl : (PySem.W.clsIn K C).isSome = true
  ga : PySem.W.findIn K (.ref C) "__getattribute__" = some (some (.builtin "BaseException.__getattribute__"))
  gg : PySem.W.findIn K (.ref C) "__getattr__" = some none
  sub : PySem.W.subIn K (.ref C) (.type "BaseException") = some true
  ca : PySem.W.findIn K (.ref C) "__class__" = some (some (.builtin "object.__class__"))
  cn : PySem.W.specialIn K (.builtin "object.__class__") "__get__" = some (some (.builtin "getset_descriptor.__get__"))
  ck : PySem.W.takesIn K (.builtin "object.__class__") = some true
  cm : PySem.W.mroIn K C (.type "object") = some true
/-- isinstance(e, c): the error at a, its dict -/
def rIsX (K : PySem.W.Frag) (C a : Addr) (d : Option Addr) : List V → Hp → VK → Prop := fun xs H Q => ∃ (c : V) (cv : Value) (b : Bool), xs = [.ref a, c] ∧ ClsV c cv ∧ PySem.W.kitOne K (.ref C) cv = some b ∧ (∀ dd, d = some dd → ∃ fs, H dd = some (.xd fs)) ∧ Q (.bl b) H
theorem call_isX {X : Cx} {oe : Obj} {pn : List (Addr × Obj)} (T : ExcI X.K C) (hz : Zc (.ref C) d oe) (hf : ∃ vs, oe.data = .fields vs) : CallR (X.suite a ((a, oe) :: pn)) (.builtin "isinstance") (rIsX X.K C a d) := by
  intro pins s σ H xs us Q I r h
  obtain ⟨c, cv, b, rfl, hcv, e, hd, q⟩ := h
  obtain ⟨u1, u2, rfl, r1, r2⟩ := vals2 r
  cases (show u1 = Value.ref a from r1)
  have ec := hcv.eq r2
  subst ec
  obtain ⟨hget, _⟩ := I.pin (a, oe) (List.mem_append.mpr (.inl List.mem_cons_self))
  obtain ⟨vs, hv⟩ := hf
  obtain ⟨oc, od, oda, osl⟩ := oe
  obtain ⟨h1, h2⟩ := hz
  dsimp only at h1 h2 hv
  subst h1 h2 hv
  have done : ∀ tk, EP (X.suite a ((a, ⟨.ref C, od, .fields vs, osl⟩) :: pn)) pins σ Q (.bool b) { s with toks := tk } := fun tk => ⟨.bl b, H, I.tok tk, rfl, q⟩
  have nb : Value.ref a ≠ .builtin "__main__.__loader__#opaque" := fun z => nomatch z
  cases od with
  | none => exact PySem.W.kia_one (PySem.W.kitx_exc (ox := ⟨.ref C, none, .fields vs, osl⟩) (od := none) T.cl T.ga T.gg T.sub T.ca T.cn T.ck T.cm) I.kIn ⟨hget, rfl, rfl, trivial⟩ e nb done
  | some dd =>
    obtain ⟨fs, hx⟩ := hd dd rfl
    obtain ⟨mA, hns, _⟩ : ObjOk _ _ H s.heap dd (.xd fs) := I.hok dd _ hx
    obtain ⟨od, ho, _⟩ := lookIn_ns hns
    exact PySem.W.kia_one (PySem.W.kitx_exc (ox := ⟨.ref C, some dd, .fields vs, osl⟩) (od := some od) T.cl T.ga T.gg T.sub T.ca T.cn T.ck T.cm) I.kIn ⟨hget, rfl, rfl, ho⟩ e nb done
/-- kt: which classes C is under -/
def cIsX (kt : D → Option Bool) : DR := fun ds S Q => ∃ v c b, ds = [v, c] ∧ ((∃ a, v = .cls a) ∨ ∃ a d ks xs, v = .exo a d ks xs) ∧ kt c = some b ∧ Q (.bl b) S
end
end Dy
namespace Dy
open PySem PySem.Spec PyProof.Rows L2

/-! ### a tree as plain data -/
mutual
def pyD : D → Option PyData
  | .non => some .none
  | .bl b => some (.bool b)
  | .int i => some (.int i)
  | .str x => some (.str x)
  | .tup xs => (pyDs xs).map .tuple
  | .lst xs => (pyDs xs).map .list
  | .frz xs => (pyDs xs).map .list
  | _ => none
def pyDs : List D → Option (List PyData)
  | [] => some []
  | x :: xs => (pyD x).bind fun d => (pyDs xs).map fun ds => d :: ds
end
def pyS (S : Store) : D → Option PyData
  | .ref n => match S[n]? with
    | some (.lst xs) => (pyDs xs).map .list
    | _ => none
  | d => pyD d
section
variable {K : PySem.W.Frag} {φ : Al} {H : Hp} {S : Store}
mutual
theorem dp_of : ∀ (d : D) (v : V) (p : PyData), RD K φ H d v → pyD d = some p → Dp K H v p ∧ p.plain = true
  | .non, v, p, h, e => by rw [RD] at h; rw [pyD] at e; cases e; subst h; exact ⟨.non, rfl⟩
  | .bl b, v, p, h, e => by rw [RD] at h; rw [pyD] at e; cases e; subst h; exact ⟨.bl b, rfl⟩
  | .int b, v, p, h, e => by rw [RD] at h; rw [pyD] at e; cases e; subst h; exact ⟨.int b, rfl⟩
  | .str b, v, p, h, e => by rw [RD] at h; rw [pyD] at e; cases e; subst h; exact ⟨.str b, rfl⟩
  | .tup xs, v, p, h, e => by
    rw [RD] at h
    rw [pyD] at e
    obtain ⟨a, vs, rfl, h1, h2⟩ := h
    cases q : pyDs xs with
    | none => rw [q] at e; cases e
    | some ps =>
      rw [q] at e; cases e
      obtain ⟨i1, i2⟩ := dps_of xs vs ps h2 q
      exact ⟨.tup h1 i1, by rw [PyData.plain]; exact i2⟩
  | .lst xs, v, p, h, e => by
    rw [RD] at h
    rw [pyD] at e
    obtain ⟨a, vs, rfl, h1, h2⟩ := h
    cases q : pyDs xs with
    | none => rw [q] at e; cases e
    | some ps =>
      rw [q] at e; cases e
      obtain ⟨i1, i2⟩ := dps_of xs vs ps h2 q
      exact ⟨.lst h1.sq i1, by rw [PyData.plain]; exact i2⟩
  | .frz xs, v, p, h, e => by
    rw [RD] at h
    rw [pyD] at e
    obtain ⟨a, vs, rfl, h1, h2⟩ := h
    cases q : pyDs xs with
    | none => rw [q] at e; cases e
    | some ps =>
      rw [q] at e; cases e
      obtain ⟨i1, i2⟩ := dps_of xs vs ps h2 q
      exact ⟨.lst h1.sq i1, by rw [PyData.plain]; exact i2⟩
  | .ty n, v, p, h, e => by rw [pyD] at e <;> first | cases e | exact fun _ => nofun | nofun
  | .dic ks xs, v, p, h, e => by rw [pyD] at e <;> first | cases e | exact fun _ => nofun | nofun
  | .ref n, v, p, h, e => by rw [pyD] at e <;> first | cases e | exact fun _ => nofun | nofun
  | .cls n, v, p, h, e => by rw [pyD] at e <;> first | cases e | exact fun _ => nofun | nofun
  | .exo _ _ _ _, v, p, h, e => by rw [pyD] at e <;> first | cases e | exact fun _ => nofun | nofun
theorem dps_of : ∀ (xs : List D) (vs : List V) (ps : List PyData), RDs K φ H xs vs → pyDs xs = some ps → DpAll K H vs ps ∧ PyData.plainAll ps = true
  | [], vs, ps, h, e => by rw [RDs] at h; rw [pyDs] at e; cases e; subst h; exact ⟨.nil, rfl⟩
  | x :: xs, vs, ps, h, e => by
    rw [RDs] at h
    rw [pyDs] at e
    obtain ⟨v, r, rfl, h1, h2⟩ := h
    cases q : pyD x with
    | none => rw [q] at e; cases e
    | some d =>
      rw [q] at e
      cases q2 : pyDs xs with
      | none => rw [q2] at e; cases e
      | some ds =>
        rw [q2] at e; cases e
        obtain ⟨i1, i2⟩ := dp_of x v d h1 q
        obtain ⟨j1, j2⟩ := dps_of xs r ds h2 q2
        exact ⟨.cons i1 j1, by rw [PyData.plainAll, i2, j2]; rfl⟩
end
theorem dpS_of (r : SR K φ S H) {d : D} {v : V} {p : PyData} (h : RD K φ H d v) (e : pyS S d = some p) : Dp K H v p ∧ p.plain = true := by
  cases d with
  | ref n =>
    simp only [pyS] at e
    split at e
    · rename_i xs q
      obtain ⟨a, vs, rfl, _, h1, h2⟩ := r.lst h q
      cases q2 : pyDs xs with
      | none => rw [q2] at e; cases e
      | some ds =>
        rw [q2] at e; cases e
        obtain ⟨j1, j2⟩ := dps_of xs vs ds h2 q2
        exact ⟨.lst (SqL.of h1) j1, by rw [PyData.plain]; exact j2⟩
    · cases e
  | _ => exact dp_of _ v p h e
end
def eqR (op : CmpOp) (neg : Bool) : Prop := (op = .Eq ∧ neg = false) ∨ (op = .NotEq ∧ neg = true)
def rEqP (K : PySem.W.Frag) (neg : Bool) : R2 := fun x y H Q => ∃ d e, Dp K H x d ∧ Dp K H y e ∧ d.plain = true ∧ e.plain = true ∧ min d.depth e.depth ≤ 60 ∧ Q (.bl (neg ^^ PyData.eqv d e)) H
theorem ep_bl {X : Cx} {pins : List (Addr × Obj)} {σ : L2.St} {s : Shared} {Q : VK} {b c : Bool} (I : Inv X pins σ H s) (q : Q (.bl b) H) (e : b = c) : EP X pins σ Q (.bool c) s := ⟨.bl c, H, I, rfl, e ▸ q⟩
theorem op_eqP {X : Cx} (hu : X.A.units + 64 < cLine) : OpR X (compareOp .Eq) (rEqP X.K false) := by
  rintro pins s σ H x y v u Q I rx ry ⟨d, e, dx, dy, p1, p2, hd, q⟩
  obtain ⟨as, ra⟩ := Dp.reads I d x v dx rx
  obtain ⟨bs, rb⟩ := Dp.reads I e y u dy ry
  exact SeqAt.eq_plain ra rb p1 p2 (by omega) (ep_bl I q (by simp))
theorem op_neP {X : Cx} (hu : X.A.units + 64 < cLine) : OpR X (compareOp .NotEq) (rEqP X.K true) := by
  rintro pins s σ H x y v u Q I rx ry ⟨d, e, dx, dy, p1, p2, hd, q⟩
  obtain ⟨as, ra⟩ := Dp.reads I d x v dx rx
  obtain ⟨bs, rb⟩ := Dp.reads I e y u dy ry
  exact SeqAt.ne_plain ra rb p1 p2 (by omega) (ep_bl I q (by simp))
/-- == -/
def dEqN (neg : Bool) : D2 := fun x y S Q => match x, y with
  | .int i, .int j => Q (.bl (neg ^^ decide (i = j))) S
  | .str i, .str j => Q (.bl (neg ^^ decide (i = j))) S
  | .bl i, .bl j => Q (.bl (neg ^^ decide (i = j))) S
  | .non, .non => Q (.bl (neg ^^ true)) S
  | x, y => ∃ d e, pyS S x = some d ∧ pyS S y = some e ∧ min d.depth e.depth ≤ 60 ∧ Q (.bl (neg ^^ PyData.eqv d e)) S
theorem lk_eqN {K : PySem.W.Frag} (neg : Bool) : Lk K (dEqN neg) (rEqP K neg) := by
  intro φ S H Q' Q x y v1 v2 r r1 r2 q h
  have gen : ∀ d e : PyData, pyS S x = some d → pyS S y = some e → min d.depth e.depth ≤ 60 → Q' (.bl (neg ^^ PyData.eqv d e)) S → rEqP K neg v1 v2 H Q := fun d e e1 e2 hd h => by
    obtain ⟨i1, i2⟩ := dpS_of r r1 e1
    obtain ⟨j1, j2⟩ := dpS_of r r2 e2
    exact ⟨d, e, i1, j1, i2, j2, hd, q φ H S _ _ .refl r rd_bl h⟩
  unfold dEqN at h
  split at h
  · rename_i i j
    refine gen (.int i) (.int j) rfl rfl (by simp [PyData.depth]) ?_
    have : PyData.eqv (.int i) (.int j) = decide (i = j) := by rw [PyData.eqv]; exact PySem.W.beq_decide i j
    rw [this]; exact h
  · rename_i i j
    refine gen (.str i) (.str j) rfl rfl (by simp [PyData.depth]) ?_
    have : PyData.eqv (.str i) (.str j) = decide (i = j) := by rw [PyData.eqv]; exact PySem.W.beq_decide i j
    rw [this]; exact h
  · rename_i i j
    refine gen (.bool i) (.bool j) rfl rfl (by simp [PyData.depth]) ?_
    have : PyData.eqv (.bool i) (.bool j) = decide (i = j) := by rw [PyData.eqv]; exact PySem.W.beq_decide i j
    rw [this]; exact h
  · exact gen .none .none rfl rfl (by simp [PyData.depth]) h
  · obtain ⟨d, e, e1, e2, hd, h⟩ := h
    exact gen d e e1 e2 hd h
theorem lk_eq {K : PySem.W.Frag} : Lk K (dEqN false) (rEqP K false) := lk_eqN false
theorem lk_ne {K : PySem.W.Frag} : Lk K (dEqN true) (rEqP K true) := lk_eqN true
section
variable {F : Fam} {k : Nat}
theorem oq_eq (hr : ∀ i, Room k (F.X i).A) (i : F.ι) : OpR (F.X i) (compareOp .Eq) (rEqP F.K false) := F.hK i ▸ op_eqP (hr i).units
theorem oq_ne (hr : ∀ i, Room k (F.X i).A) (i : F.ι) : OpR (F.X i) (compareOp .NotEq) (rEqP F.K true) := F.hK i ▸ op_neP (hr i).units
end
/-- x in a list, a tuple -/
def rInP (K : PySem.W.Frag) (neg : Bool) : R2 := fun x y H Q => ∃ d ds, (Dp K H y (.list ds) ∨ Dp K H y (.tuple ds)) ∧ Dp K H x d ∧ PyData.plainAll ds = true ∧ d.plain = true ∧ min (PyData.depthAll ds) d.depth ≤ 60 ∧ Q (.bl (neg ^^ ds.any fun z => PyData.eqv z d)) H
theorem op_inP {X : Cx} (hu : X.A.units + 64 < cLine) : OpR X (compareOp .In) (rInP X.K false) := by
  rintro pins s σ H x y v u Q I rx ry ⟨d, ds, dy, dx, p1, p2, hd, q⟩
  obtain ⟨as, ra⟩ := Dp.reads I d x v dx rx
  rcases dy with dy | dy
  · obtain ⟨bs, rb⟩ := Dp.reads I _ y u dy ry
    exact SeqAt.in_list_data rb ra p1 p2 (by omega) (ep_bl I q (by simp))
  · obtain ⟨bs, rb⟩ := Dp.reads I _ y u dy ry
    exact SeqAt.in_tuple_data rb ra p1 p2 (by omega) (ep_bl I q (by simp))
theorem op_ninP {X : Cx} (hu : X.A.units + 64 < cLine) : OpR X (compareOp .NotIn) (rInP X.K true) := by
  rintro pins s σ H x y v u Q I rx ry ⟨d, ds, dy, dx, p1, p2, hd, q⟩
  obtain ⟨as, ra⟩ := Dp.reads I d x v dx rx
  rcases dy with dy | dy
  · obtain ⟨bs, rb⟩ := Dp.reads I _ y u dy ry
    exact SeqAt.notIn_list_data rb ra p1 p2 (by omega) (ep_bl I q (by simp))
  · obtain ⟨bs, rb⟩ := Dp.reads I _ y u dy ry
    exact SeqAt.notIn_tuple_data rb ra p1 p2 (by omega) (ep_bl I q (by simp))
def dInN (neg : Bool) : D2 := fun x y S Q => ∃ d ys ds, pyS S x = some d ∧ sqOf S y = some ys ∧ pyDs ys = some ds ∧ min (PyData.depthAll ds) d.depth ≤ 60 ∧ Q (.bl (neg ^^ ds.any fun z => PyData.eqv z d)) S
theorem lk_inN {K : PySem.W.Frag} (neg : Bool) : Lk K (dInN neg) (rInP K neg) := by
  rintro φ S H Q' Q x y v1 v2 r r1 r2 q ⟨d, ys, ds, e1, e2, e3, hd, h⟩
  obtain ⟨i1, i2⟩ := dpS_of r r1 e1
  obtain ⟨a, vs, rfl, h1, h2⟩ := sq_of r r2 e2
  obtain ⟨j1, j2⟩ := dps_of ys vs ds h2 e3
  refine ⟨d, ds, ?_, i1, j2, i2, hd, q φ H S _ _ .refl r rd_bl h⟩
  rcases h1 with h1 | h1
  · exact .inl (.lst h1 j1)
  · exact .inr (.tup h1 j1)
theorem lk_in {K : PySem.W.Frag} : Lk K (dInN false) (rInP K false) := lk_inN false
theorem lk_nin {K : PySem.W.Frag} : Lk K (dInN true) (rInP K true) := lk_inN true
section
variable {F : Fam} {k : Nat}
theorem oq_in (hr : ∀ i, Room k (F.X i).A) (i : F.ι) : OpR (F.X i) (compareOp .In) (rInP F.K false) := F.hK i ▸ op_inP (hr i).units
theorem oq_nin (hr : ∀ i, Room k (F.X i).A) (i : F.ι) : OpR (F.X i) (compareOp .NotIn) (rInP F.K true) := F.hK i ▸ op_ninP (hr i).units
end
theorem lk_isB {K : PySem.W.Frag} : Lk K (fun x y S Q => ∃ a b : Bool, x = .bl a ∧ y = .bl b ∧ Q (.bl (decide (a = b))) S) rIsB := by
  rintro φ S H Q' Q x y v1 v2 r r1 r2 q ⟨a, b, rfl, rfl, h⟩
  rw [RD] at r1 r2
  exact ⟨a, b, r1, r2, q φ H S _ _ .refl r rd_bl h⟩
theorem lk_notB {K : PySem.W.Frag} : Lk K (fun x y S Q => ∃ a b : Bool, x = .bl a ∧ y = .bl b ∧ Q (.bl (!decide (a = b))) S) rNotB := by
  rintro φ S H Q' Q x y v1 v2 r r1 r2 q ⟨a, b, rfl, rfl, h⟩
  rw [RD] at r1 r2
  exact ⟨a, b, r1, r2, q φ H S _ _ .refl r rd_bl h⟩

/-! ### built-ins by their names -/
theorem bt_int : bootBuiltins "int" = some (.type "int") := by decide +kernel
theorem bt_bool : bootBuiltins "bool" = some (.type "bool") := by decide +kernel
theorem bt_str : bootBuiltins "str" = some (.type "str") := by decide +kernel
theorem bt_tuple : bootBuiltins "tuple" = some (.type "tuple") := by decide +kernel
theorem bt_list : bootBuiltins "list" = some (.type "list") := by decide +kernel
theorem bt_dict : bootBuiltins "dict" = some (.type "dict") := by decide +kernel
theorem bt_abs : bootBuiltins "abs" = some (.builtin "abs") := by decide +kernel
theorem bt_len : bootBuiltins "len" = some (.builtin "len") := by decide +kernel
theorem bt_sum : bootBuiltins "sum" = some (.builtin "sum") := by decide +kernel
theorem bt_all : bootBuiltins "all" = some (.builtin "all") := by decide +kernel
theorem bt_any : bootBuiltins "any" = some (.builtin "any") := by decide +kernel
theorem bt_isinstance : bootBuiltins "isinstance" = some (.builtin "isinstance") := by decide +kernel
theorem bt_ValueError : bootBuiltins "ValueError" = some (.type "ValueError") := by decide +kernel
section
variable {F : Fam} {W : WX} {e e2 : Expr} {t : DTA} {p pos : Pos} {k : Nat}
abbrev St1 (F : Fam) (e : Expr) (es : List Expr) : Prop := ∀ i, starEach (e :: es) (F.X i).env = (false, eval e (F.X i).env) :: starEach es (F.X i).env
abbrev Pl1 (F : Fam) (pos : Pos) (es : List Expr) : Prop := ∀ i, (backTo pos (starEach es (F.X i).env)).any (·.1) = false
theorem dc_int (hm : ∀ i, (F.X i).mg "int" = none) (ha : DA F W [e] t) (hg : ∀ i, Gl (F.X i) "int" := by intro _; rfl) (he : St1 F e [] := by intro _; rfl) (hp : Pl1 F pos [] := by intro _; rfl) : DE F W (.Call (.Name "int" p) [e] [] pos) (dCB cInt t) := de_callTy (fun _ => call_int1) lk_int hg hm bt_int ha (he := he) (hpl := hp)
theorem dc_abs (hm : ∀ i, (F.X i).mg "abs" = none) (ha : DA F W [e] t) (hg : ∀ i, Gl (F.X i) "abs" := by intro _; rfl) (he : St1 F e [] := by intro _; rfl) (hp : Pl1 F pos [] := by intro _; rfl) : DE F W (.Call (.Name "abs" p) [e] [] pos) (dCB cAbs t) := de_callB (fun _ => call_abs) lk_abs hg hm bt_abs ha (he := he) (hpl := hp)
theorem dc_len (hm : ∀ i, (F.X i).mg "len" = none) (ha : DA F W [e] t) (hg : ∀ i, Gl (F.X i) "len" := by intro _; rfl) (he : St1 F e [] := by intro _; rfl) (hp : Pl1 F pos [] := by intro _; rfl) : DE F W (.Call (.Name "len" p) [e] [] pos) (dCB cLen t) := de_callB (fun i => F.hK i ▸ call_len_seq) lk_len hg hm bt_len ha (he := he) (hpl := hp)
theorem dc_sum (hc : ∀ i, (F.X i).calm = true) (hm : ∀ i, (F.X i).mg "sum" = none) (ha : DA F W [e] t) (hg : ∀ i, Gl (F.X i) "sum" := by intro _; rfl) (he : St1 F e [] := by intro _; rfl) (hp : Pl1 F pos [] := by intro _; rfl) : DE F W (.Call (.Name "sum" p) [e] [] pos) (dCB cSum t) := de_callB (fun i => F.hK i ▸ cr_sum (hc i)) lk_sum hg hm bt_sum ha (he := he) (hpl := hp)
theorem dc_all (hc : ∀ i, (F.X i).calm = true) (hm : ∀ i, (F.X i).mg "all" = none) (ha : DA F W [e] t) (hg : ∀ i, Gl (F.X i) "all" := by intro _; rfl) (he : St1 F e [] := by intro _; rfl) (hp : Pl1 F pos [] := by intro _; rfl) : DE F W (.Call (.Name "all" p) [e] [] pos) (dCB cAll t) := de_callB (fun i => F.hK i ▸ cr_all (hc i)) lk_all hg hm bt_all ha (he := he) (hpl := hp)
theorem dc_any (hc : ∀ i, (F.X i).calm = true) (hm : ∀ i, (F.X i).mg "any" = none) (ha : DA F W [e] t) (hg : ∀ i, Gl (F.X i) "any" := by intro _; rfl) (he : St1 F e [] := by intro _; rfl) (hp : Pl1 F pos [] := by intro _; rfl) : DE F W (.Call (.Name "any" p) [e] [] pos) (dCB cAny t) := de_callB (fun i => F.hK i ▸ cr_any (hc i)) lk_any hg hm bt_any ha (he := he) (hpl := hp)
theorem dc_tuple (hm : ∀ i, (F.X i).mg "tuple" = none) (ha : DA F W [e] t) (hg : ∀ i, Gl (F.X i) "tuple" := by intro _; rfl) (he : St1 F e [] := by intro _; rfl) (hp : Pl1 F pos [] := by intro _; rfl) : DE F W (.Call (.Name "tuple" p) [e] [] pos) (dCB cTuple t) := de_callTy (fun i => F.hK i ▸ call_tuple_of) lk_tuple hg hm bt_tuple ha (he := he) (hpl := hp)
theorem dc_list (hm : ∀ i, (F.X i).mg "list" = none) (ha : DA F W [e] t) (hg : ∀ i, Gl (F.X i) "list" := by intro _; rfl) (he : St1 F e [] := by intro _; rfl) (hp : Pl1 F pos [] := by intro _; rfl) : DE F W (.Call (.Name "list" p) [e] [] pos) (dCB cList t) := de_callTy (fun i => F.hK i ▸ call_list_of) lk_list hg hm bt_list ha (he := he) (hpl := hp)
theorem dc_listN (hm : ∀ i, (F.X i).mg "list" = none) (ha : DA F W [e] t) (hg : ∀ i, Gl (F.X i) "list" := by intro _; rfl) (he : St1 F e [] := by intro _; rfl) (hp : Pl1 F pos [] := by intro _; rfl) : DE F W (.Call (.Name "list" p) [e] [] pos) (dCB cListN t) := de_callTy (fun i => F.hK i ▸ call_list_of) lk_listN hg hm bt_list ha (he := he) (hpl := hp)
theorem dc_isi {T : String} (hT : T ∈ tags) (hN : T ≠ "NoneType") (hm : ∀ i, (F.X i).mg "isinstance" = none) (ha : DA F W [e, e2] t) (hg : ∀ i, Gl (F.X i) "isinstance" := by intro _; rfl) (he : St1 F e [e2] := by intro _; rfl) (hp : Pl1 F pos [e2] := by intro _; rfl) :
    DE F W (.Call (.Name "isinstance" p) [e, e2] [] pos) (dCB (cIsi T) t) := de_callB (fun i => F.hK i ▸ call_isi) (lk_isi hT hN) hg hm bt_isinstance ha (he := he) (hpl := hp)
end

/-! ### a def as its callers know it -/
def Cal (P : Program) (w : World) (K : PySem.W.Frag) (mg : Str → Option Value) (base : Heap) (x : Str) (k : Nat) (ps : List Str) (sp : DSp) : Prop :=
  ∃ f fd, FnOk P w K mg base (L2.CX P w) k f fd ps (liftSp K sp) ∧ mg x = some (.ref f) ∧ PySem.W.keepIn K (.ref f) = true ∧ Binds K fd ps []
section
variable {F : Fam} {W : WX} {e : Expr} {es : List Expr} {t : DTA} {p pos : Pos} {k k2 : Nat} {x : Str} {ps : List Str} {sp : DSp}
abbrev CalF (F : Fam) (x : Str) (k : Nat) (ps : List Str) (sp : DSp) : Prop := ∀ i, Cal (F.X i).prog (F.X i).w (F.X i).K (F.X i).mg (F.X i).base x k ps sp
theorem de_callC (c : CalF F x k ps sp) (hr : ∀ i, Room k2 (F.X i).A) (hk : k ≤ k2) (tk : ∀ i, Takes (F.X i) W) (ha : DA F W (e :: es) t) (hg : ∀ i, Gl (F.X i) x := by intro _; rfl) (hdb : (x == ("__debug__" : Str)) = false := by decide) (he : St1 F e es := by intro _; rfl) (hp : Pl1 F pos es := by intro _; rfl) :
    DE F W (.Call (.Name x p) (e :: es) [] pos) (dCall sp t) := by
  obtain ⟨t1, p1, k1⟩ := ha
  refine ⟨tCallS (liftSp F.K sp) (WE W) t1, fun i => ?_, fun σ ρ φ S H E Q' Q o q h => k1 σ ρ φ S H E _ _ o (fun φ1 H1 S1 ds vs s1 r1 rd h1 => call_link (o.mono s1 r1) (q.mono s1) rd h1) h⟩
  obtain ⟨f, fd, G, gm, kp, bd⟩ := c i
  rw [F.hK i] at G
  have G' : FnOk (F.X i).prog (F.X i).w (F.X i).K (F.X i).mg (F.X i).base (L2.CX (F.X i).prog (F.X i).w) k f fd ps (liftSp F.K sp) := by rw [F.hK i]; exact G
  exact pe_callS G' ((hr i).mono hk) (hg i) gm kp bd (fun σ => passAt (tk i) σ) (p1 i) hdb (he i) (hp i)
theorem de_callC0 (c : CalF F x k ps sp) (hr : ∀ i, Room k2 (F.X i).A) (hk : k ≤ k2) (tk : ∀ i, Takes (F.X i) W) (hg : ∀ i, Gl (F.X i) x := by intro _; rfl) (hdb : (x == ("__debug__" : Str)) = false := by decide) : DE F W (.Call (.Name x p) [] [] pos) (dCall sp dNil) := by
  refine ⟨tCallS (liftSp F.K sp) (WE W) tNil, fun i => ?_, fun σ ρ φ S H E Q' Q o q h => call_link o q .nil h⟩
  obtain ⟨f, fd, G, gm, kp, bd⟩ := c i
  rw [F.hK i] at G
  have G' : FnOk (F.X i).prog (F.X i).w (F.X i).K (F.X i).mg (F.X i).base (L2.CX (F.X i).prog (F.X i).w) k f fd ps (liftSp F.K sp) := by rw [F.hK i]; exact G
  exact pe_callS0' G' ((hr i).mono hk) (hg i) gm kp bd (fun σ => passAt (tk i) σ) hdb
end
end Dy
namespace Dy
open PySem PySem.Spec PyProof.Rows L2

/-! ### reading on, step by step -/
def dPut (d o i : D) (P : Store → Prop) (S : Store) : Prop := ∃ n xs k j, o = .ref n ∧ S[n]? = some (.lst xs) ∧ i = .int k ∧ ixN xs.length k = some j ∧ P (S.set n (.lst (xs.set j d)))
section
variable {ρ : Rho} {S : Store} {Q : QD} {E : XQ} {ta tb tc te to ti : DTE} {uA uB : DTT} {t tr : DTA} {r r' : D2} {d d2 x y : D} {i j n : Nat} {D' : DEnds} {u v : DTS} {QT : Bool → Store → Prop} {QA : List D → Store → Prop}
theorem c_op (h : ta ρ S (fun d1 S1 => tb ρ S1 (fun d2 S2 => r d1 d2 S2 Q) E) E) : dOp r ta tb ρ S Q E := h
theorem c_un {r : D → Store → QD → Prop} (h : ta ρ S (fun d S1 => r d S1 Q) E) : dUn r ta ρ S Q E := h
theorem c_var (e : ρ[i]? = some (some d)) (h : Q d S) : dVar i ρ S Q E := ⟨d, e, h⟩
theorem c_c (h : Q d S) : dC d ρ S Q E := h
theorem c_nil (h : QA [] S) : dNil ρ S QA E := h
theorem c_cons (h : te ρ S (fun d S1 => tr ρ S1 (fun ds S2 => QA (d :: ds) S2) E) E) : dCons te tr ρ S QA E := h
theorem c_tup (h : t ρ S (fun ds S1 => ds.length ≤ sizeLine ∧ Q (.tup ds) S1) E) : dTup t ρ S Q E := h
theorem c_lst (h : t ρ S (fun ds S1 => ds.length ≤ sizeLine ∧ Q (.lst ds) S1) E) : dLst t ρ S Q E := h
theorem c_new (h : t ρ S (fun ds S1 => ds.length ≤ sizeLine ∧ Q (.ref S1.length) (S1 ++ [.lst ds])) E) : dNew t ρ S Q E := h
theorem c_cb {r : DR} (h : t ρ S (fun ds S1 => r ds S1 Q) E) : dCB r t ρ S Q E := h
theorem c_call {sp : DSp} (h : t ρ S (fun ds S1 => sp ds S1 Q E) E) : dCall sp t ρ S Q E := h
theorem c_if (h : uA ρ S (fun c S1 => if c = true then ta ρ S1 Q E else tb ρ S1 Q E) E) : dIf uA ta tb ρ S Q E := h
theorem c_andV (h : ta ρ S (fun d S1 => ∃ c, d = .bl c ∧ if c = true then tb ρ S1 Q E else Q (.bl false) S1) E) : dAndV ta tb ρ S Q E := h
theorem c_orV (h : ta ρ S (fun d S1 => ∃ c, d = .bl c ∧ if c = true then Q (.bl true) S1 else tb ρ S1 Q E) E) : dOrV ta tb ρ S Q E := h
theorem c_notV (h : ta ρ S (fun d S1 => ∃ c, d = .bl c ∧ Q (.bl (!c)) S1) E) : dNotV ta ρ S Q E := h
theorem c_test (h : te ρ S (fun d S1 => ∃ k, d = .bl k ∧ QT k S1) E) : dTest te ρ S QT E := h
theorem c_and (h : uA ρ S (fun c S1 => if c = true then uB ρ S1 QT E else QT false S1) E) : dAnd uA uB ρ S QT E := h
theorem c_or (h : uA ρ S (fun c S1 => if c = true then QT true S1 else uB ρ S1 QT E) E) : dOr uA uB ρ S QT E := h
theorem c_not (h : uA ρ S (fun c S1 => QT (!c) S1) E) : dNot uA ρ S QT E := h
theorem c_yes (h : QT true S) : dYes ρ S QT E := h
theorem c_bl {P : Bool → Prop} {b : Bool} (h : P b) : ∃ k, D.bl b = .bl k ∧ P k := ⟨b, rfl, h⟩
theorem c_chain {r r' : D2} (h : ta ρ S (fun x S1 => tb ρ S1 (fun y S2 => r x y S2 fun z S3 => ∃ k, z = .bl k ∧ (if k = true then tc ρ S3 (fun w S4 => r' y w S4 Q) E else Q (.bl false) S3)) E) E) : dChain r r' ta tb tc ρ S Q E := h
theorem c_sl {r : D → Option Int → Option Int → Store → QD → Prop} {tl th : DTO} (h : te ρ S (fun x S1 => tl ρ S1 (fun l S2 => th ρ S2 (fun u S3 => r x l u S3 Q) E) E) E) : dSl r te tl th ρ S Q E := h
theorem c_nopart {QO : Option Int → Store → Prop} (h : QO none S) : dNoPart ρ S QO E := h
theorem c_part {QO : Option Int → Store → Prop} (h : te ρ S (fun d S1 => ∃ i, d = .int i ∧ QO (some i) S1) E) : dPart te ρ S QO E := h
theorem c_intE {P : Int → Prop} {i : Int} (h : P i) : ∃ k, D.int i = .int k ∧ P k := ⟨i, rfl, h⟩
/-! by values -/
theorem o_I0 {g : Int → Int → D} {i j : Int} (h : Q (g i j) S) : dI0 g (.int i) (.int j) S Q := ⟨i, j, rfl, rfl, h⟩
theorem o_I {C : Int → Int → Prop} {g : Int → Int → D} {i j : Int} (c : C i j) (h : Q (g i j) S) : dI C g (.int i) (.int j) S Q := ⟨i, j, rfl, rfl, c, h⟩
theorem o_addI {i j : Int} (h : Q (.int (i + j)) S) : dAdd (.int i) (.int j) S Q := h
theorem o_addT {xs ys : List D} (c : xs.length + ys.length ≤ sizeLine) (h : Q (.tup (xs ++ ys)) S) : dAdd (.tup xs) (.tup ys) S Q := ⟨c, h⟩
theorem o_addS {i j : Str} (c : i.length + j.length ≤ sizeLine) (h : Q (.str (i ++ j)) S) : dAdd (.str i) (.str j) S Q := ⟨c, h⟩
theorem o_ix {xs : List D} {i : Int} {v : D} (e : sqOf S x = some xs) (e2 : atI xs i = some v) (h : Q v S) : dIx x (.int i) S Q := ⟨xs, i, v, e, rfl, e2, h⟩
theorem o_cat {xs ys : List D} (e1 : lsM S x = some xs) (e2 : lsM S y = some ys) (c : xs.length + ys.length ≤ sizeLine) (h : Q (.lst (xs ++ ys)) S) : dCat x y S Q := ⟨xs, ys, e1, e2, c, h⟩
theorem o_catN {xs ys : List D} (e1 : lsM S x = some xs) (e2 : lsM S y = some ys) (c : xs.length + ys.length ≤ sizeLine) (h : Q (.ref S.length) (S ++ [.lst (xs ++ ys)])) : dCatN x y S Q := ⟨xs, ys, e1, e2, c, h⟩
theorem o_isN (h : Q (.bl (isN x)) S) : dIsN x .non S Q := ⟨rfl, h⟩
theorem o_notN (h : Q (.bl (!isN x)) S) : dNotN x .non S Q := ⟨rfl, h⟩
theorem o_eqI {neg : Bool} {i j : Int} (h : Q (.bl (neg ^^ decide (i = j))) S) : dEqN neg (.int i) (.int j) S Q := h
theorem o_eqS {neg : Bool} {i j : Str} (h : Q (.bl (neg ^^ decide (i = j))) S) : dEqN neg (.str i) (.str j) S Q := h
theorem o_eqB {neg : Bool} {i j : Bool} (h : Q (.bl (neg ^^ decide (i = j))) S) : dEqN neg (.bl i) (.bl j) S Q := h
theorem o_neg {i : Int} (h : Q (.int (-i)) S) : dNeg (.int i) S Q := ⟨i, rfl, h⟩
theorem o_slT {xs : List D} {lo hi : Option Int} (h : Q (.tup (cutD xs lo hi)) S) : dSlT (.tup xs) lo hi S Q := ⟨xs, rfl, h⟩
theorem o_slL {xs : List D} {lo hi : Option Int} (e : lsOf S x = some xs) (h : Q (.lst (cutD xs lo hi)) S) : dSlL x lo hi S Q := ⟨xs, e, h⟩
theorem o_int {i : Int} (h : Q (.int i) S) : cInt [.int i] S Q := .inl ⟨i, rfl, h⟩
theorem o_intB {b : Bool} (h : Q (.int (if b then 1 else 0)) S) : cInt [.bl b] S Q := .inr ⟨b, rfl, h⟩
theorem o_abs {i : Int} (h : Q (.int (if i < 0 then -i else i)) S) : cAbs [.int i] S Q := ⟨i, rfl, h⟩
theorem o_len {xs : List D} (e : sqOf S d = some xs) (h : Q (.int xs.length) S) : cLen [d] S Q := ⟨d, xs, rfl, e, h⟩
theorem o_list {xs : List D} (e : sqOf S d = some xs) (h : Q (.lst xs) S) : cList [d] S Q := ⟨d, xs, rfl, e, h⟩
theorem o_listN {xs : List D} (e : sqOf S d = some xs) (h : Q (.ref S.length) (S ++ [.lst xs])) : cListN [d] S Q := ⟨d, xs, rfl, e, h⟩
theorem o_tuple {xs : List D} (e : sqOf S d = some xs) (h : Q (.tup xs) S) : cTuple [d] S Q := ⟨d, xs, rfl, e, h⟩
theorem o_isi {T tag : String} (e : tagOf S d = some tag) (h : Q (.bl (isiT T tag)) S) : cIsi T [d, .ty T] S Q := ⟨d, tag, rfl, e, h⟩
theorem o_lsAnd {xs : List D} {B : Prop} (e : lsOf S d = some xs) (h : B) : (∃ xs, lsOf S d = some xs) ∧ B := ⟨⟨xs, e⟩, h⟩
/-! statements -/
variable {nx bk ct : Rho → Store → Prop} {rt : D → Store → Prop} {ex : Exc → Rho → Store → Prop}
theorem s_seq (h : u ⟨v ⟨nx, rt, bk, ct, ex⟩, rt, bk, ct, ex⟩ ρ S) : dSeq u v ⟨nx, rt, bk, ct, ex⟩ ρ S := h
theorem s_next (h : nx ρ S) : dNext ⟨nx, rt, bk, ct, ex⟩ ρ S := h
theorem s_asg (h : te ρ S (fun d S1 => nx (ρ.set i (some d)) S1) (fun x S1 => ex x ρ S1)) : dAsg te (eName i) ⟨nx, rt, bk, ct, ex⟩ ρ S := h
theorem s_asgG {g : DTG} (h : te ρ S (fun d S1 => g d ρ S1 nx) (fun x S1 => ex x ρ S1)) : dAsg te g ⟨nx, rt, bk, ct, ex⟩ ρ S := h
theorem s_drop (h : te ρ S (fun _ S1 => nx ρ S1) (fun x S1 => ex x ρ S1)) : dDrop te ⟨nx, rt, bk, ct, ex⟩ ρ S := h
theorem s_ret (h : te ρ S rt (fun x S1 => ex x ρ S1)) : dRet te ⟨nx, rt, bk, ct, ex⟩ ρ S := h
theorem s_retN (h : rt .non S) : dRetN ⟨nx, rt, bk, ct, ex⟩ ρ S := h
theorem s_ifs (h : uA ρ S (fun b S1 => if b = true then u ⟨nx, rt, bk, ct, ex⟩ ρ S1 else v ⟨nx, rt, bk, ct, ex⟩ ρ S1) (fun x S1 => ex x ρ S1)) : dIfS uA u v ⟨nx, rt, bk, ct, ex⟩ ρ S := h
theorem s_par (h : t ρ S (fun ds S1 => ∃ d c, ds = [d, c] ∧ nx ((ρ.set i (some d)).set j (some c)) S1) (fun x S1 => ex x ρ S1)) : dPar i j t ⟨nx, rt, bk, ct, ex⟩ ρ S := h
theorem s_two {P : D → D → Prop} {a b : D} (h : P a b) : ∃ d c, [a, b] = [d, c] ∧ P d c := ⟨a, b, rfl, h⟩
theorem s_aug (e : ρ[i]? = some (some x)) (h : te ρ S (fun d S1 => r x d S1 fun z S2 => nx (ρ.set i (some z)) S2) (fun x S1 => ex x ρ S1)) : dAug i te r ⟨nx, rt, bk, ct, ex⟩ ρ S := ⟨x, e, h⟩
theorem s_setL (h : te ρ S (fun d S1 => to ρ S1 (fun o S2 => ti ρ S2 (fun i S3 => dPut d o i (nx ρ) S3) (fun x S1 => ex x ρ S1)) (fun x S1 => ex x ρ S1)) (fun x S1 => ex x ρ S1)) : dSetL te to ti ⟨nx, rt, bk, ct, ex⟩ ρ S := h
theorem o_put {P : Store → Prop} {xs : List D} {k : Int} (e : S[n]? = some (.lst xs)) (e2 : ixN xs.length k = some j)
    (h : ∀ S', S'.length = S.length → S'[n]? = some (.lst (xs.set j d)) → (∀ m : Nat, m ≠ n → S'[m]? = S[m]?) → P S') : dPut d (.ref n) (.int k) P S := by
  refine ⟨n, xs, k, j, rfl, e, rfl, e2, h _ (by simp) ?_ fun m hm => List.getElem?_set_ne (Ne.symm hm)⟩
  exact List.getElem?_set_self (List.getElem?_eq_some_iff.mp e).1
theorem g_name {P : Rho → Store → Prop} (h : P (ρ.set i (some d)) S) : eName i d ρ S P := h
theorem g_tup {P : Rho → Store → Prop} {g : DTGs} {xs : List D} (e : xs.length = n) (h : g xs ρ S P) : eTup n g (.tup xs) ρ S P := ⟨xs, rfl, e, h⟩
theorem g_nil {P : Rho → Store → Prop} (h : P ρ S) : eNil [] ρ S P := ⟨rfl, h⟩
theorem g_cons {P : Rho → Store → Prop} {g : DTG} {gs : DTGs} {ds : List D} (h : g d ρ S fun ρ1 S1 => gs ds ρ1 S1 P) : eCons g gs (d :: ds) ρ S P := ⟨d, ds, rfl, h⟩
/-! methods of lists -/
theorem sq_ref {xs : List D} (e : S[n]? = some (.lst xs)) : sqOf S (.ref n) = some xs := by unfold sqOf lsOf; simp only [e]
theorem ls_ref {xs : List D} (e : S[n]? = some (.lst xs)) : lsOf S (.ref n) = some xs := by unfold lsOf; simp only [e]
theorem lm_ref {xs : List D} (e : S[n]? = some (.lst xs)) : lsM S (.ref n) = some xs := by unfold lsM; simp only [e]
theorem tg_ref {xs : List D} (e : S[n]? = some (.lst xs)) : tagOf S (.ref n) = some "list" := by unfold tagOf; simp only [e]
theorem o_popAt {xs : List D} {k : Int} {y : D} (e : S[n]? = some (.lst xs)) (b1 : -(2 ^ 63) ≤ k) (b2 : k < 2 ^ 63) (e2 : seqIndex? k xs.length = some j) (e3 : xs[j]? = some y)
    (h : ∀ S', S'.length = S.length → S'[n]? = some (.lst (xs.eraseIdx j)) → (∀ m : Nat, m ≠ n → S'[m]? = S[m]?) → Q y S') : mPopAt (.ref n) [.int k] S Q :=
  ⟨n, xs, k, j, y, rfl, rfl, e, b1, b2, e2, e3, h _ (by simp) (List.getElem?_set_self (List.getElem?_eq_some_iff.mp e).1) fun m hm => List.getElem?_set_ne (Ne.symm hm)⟩
theorem o_app {xs : List D} {y : D} (e : S[n]? = some (.lst xs)) (b : xs.length < sizeLine)
    (h : ∀ S', S'.length = S.length → S'[n]? = some (.lst (xs ++ [y])) → (∀ m : Nat, m ≠ n → S'[m]? = S[m]?) → Q .non S') : mApp (.ref n) [y] S Q :=
  ⟨n, xs, y, rfl, rfl, e, b, h _ (by simp) (List.getElem?_set_self (List.getElem?_eq_some_iff.mp e).1) fun m hm => List.getElem?_set_ne (Ne.symm hm)⟩
theorem s_bm {r : DM} (h : to ρ S (fun o S1 => (∃ xs, lsOf S1 o = some xs) ∧ t ρ S1 (fun ds S2 => r o ds S2 Q) E) E) : dBM r to t ρ S Q E := h
theorem s_bm0 {r : DM} (h : to ρ S (fun o S1 => (∃ xs, lsOf S1 o = some xs) ∧ r o [] S1 Q) E) : dBM0 r to ρ S Q E := h
theorem s_rng1 {R : List D → (Store → Prop) → Store → Prop} (h : t ρ S (fun ds S1 => ∃ j : Int, ds = [.int j] ∧ -(2 ^ 62) ≤ j ∧ j < 2 ^ 62 ∧ R (rngD 0 j.toNat) (fun _ => True) S1) E) : jRng1 t ρ S R E := h
theorem s_sq {R : List D → (Store → Prop) → Store → Prop} (h : te ρ S (fun d S1 => ∃ xs, sqOf S1 d = some xs ∧ R xs (fun S => sqOf S d = some xs) S1) E) : jSq te ρ S R E := h
/-- a list of the store is put anew: the store behind it is told by what it holds -/
theorem put_at {P : Store → Prop} {o : SO} {so : SO} (hn : S[n]? = some so) (h : ∀ S', S'.length = S.length → S'[n]? = some o → (∀ m : Nat, m ≠ n → S'[m]? = S[m]?) → P S') : P (S.set n o) := by
  refine h _ (by simp) ?_ fun m hm => List.getElem?_set_ne (Ne.symm hm)
  exact List.getElem?_set_self (List.getElem?_eq_some_iff.mp hn).1
end
theorem ifD {P : Prop} [Decidable P] {A B : Prop} (h1 : P → A) (h2 : ¬P → B) : if decide P = true then A else B := by
  by_cases h : P
  · rw [if_pos (decide_eq_true h)]; exact h1 h
  · rw [if_neg fun c => h (of_decide_eq_true c)]; exact h2 h
/-! comprehensions, loops -/
def dLcK (g : D → Rho → (Rho → Prop) → Prop) (tt : DTT) (te : DTE) (ρ : Rho) (Q : QD) (xs : List D) (live : Store → Prop) (S1 : Store) : Prop :=
  ∃ Pv : Nat → List D → Store → Prop, Pv 0 [] S1 ∧ (∀ k acc S, k ≤ xs.length → Pv k acc S → live S) ∧
  (∀ k x acc S, xs[k]? = some x → Pv k acc S → g x ρ fun ρ2 => tt ρ2 S (fun b S2 => if b = true then te ρ2 S2 (fun y S3 => acc.length < sizeLine ∧ Pv (k + 1) (acc ++ [y]) S3) noX else Pv (k + 1) acc S2) noX) ∧
  ∀ acc S, Pv xs.length acc S → Q (.lst acc) S
theorem c_lc {ρ : Rho} {S : Store} {Q : QD} {E : XQ} {ti : DTI} {g : D → Rho → (Rho → Prop) → Prop} {tt : DTT} {te : DTE} (h : ti ρ S (fun xs live S1 => dLcK g tt te ρ Q xs live S1) E) : dLc ti g tt te ρ S Q E := h
theorem c_lcN {ρ : Rho} {S : Store} {Q : QD} {E : XQ} {ti : DTI} {g : D → Rho → (Rho → Prop) → Prop} {tt : DTT} {te : DTE} (h : ti ρ S (fun xs live S1 => dLcK g tt te ρ (fun d S1 => ∃ xs, d = .lst xs ∧ Q (.ref S1.length) (S1 ++ [.lst xs])) xs live S1) E) : dLcN ti g tt te ρ S Q E := h
/-- items told by a function, a test told by a function -/
theorem o_lcG {ρ : Rho} {S : Store} {Q : QD} {tt : DTT} {te : DTE} {i : Nat} {xs : List D} {live : Store → Prop} (f : D → D) (p : D → Bool) (hl : live S) (hz : xs.length ≤ sizeLine)
    (ht : ∀ x ∈ xs, ∀ P : Bool → Store → Prop, P (p x) S → tt (ρ.set i (some x)) S P noX) (he : ∀ x ∈ xs, p x = true → ∀ P : QD, P (f x) S → te (ρ.set i (some x)) S P noX)
    (h : Q (.lst ((xs.filter p).map f)) S) : dLcK (c1 i) tt te ρ Q xs live S := by
  refine ⟨fun k acc S' => S' = S ∧ acc = ((xs.take k).filter p).map f, ⟨rfl, by simp⟩, fun k acc S' _ ⟨e, _⟩ => e ▸ hl, fun k x acc S' hx ⟨e, ea⟩ => ?_, fun acc S' ⟨e, ea⟩ => ?_⟩
  · subst e ea
    have m := List.mem_of_getElem? hx
    refine ht x m _ ?_
    have st : xs.take (k + 1) = xs.take k ++ [x] := by rw [List.take_succ, hx]; rfl
    cases e : p x with
    | false =>
      rw [if_neg Bool.false_ne_true]
      refine ⟨rfl, ?_⟩
      rw [st, List.filter_append]
      simp [e]
    | true =>
      rw [if_pos rfl]
      refine he x m e _ ⟨?_, rfl, ?_⟩
      · have h1 : k < xs.length := (List.getElem?_eq_some_iff.mp hx).1
        have h2 := List.length_filter_le p (xs.take k)
        rw [List.length_take] at h2
        rw [List.length_map]
        omega
      · rw [st, List.filter_append]
        simp [e]
  · subst e ea
    rw [List.take_length]
    exact h
/-- items told by a function -/
theorem o_lcM {ρ : Rho} {S : Store} {Q : QD} {te : DTE} {i : Nat} {xs : List D} {live : Store → Prop} (f : D → D) (hl : live S) (hz : xs.length ≤ sizeLine)
    (he : ∀ x ∈ xs, ∀ P : QD, P (f x) S → te (ρ.set i (some x)) S P noX) (h : Q (.lst (xs.map f)) S) : dLcK (c1 i) dYes te ρ Q xs live S := by
  refine o_lcG f (fun _ => true) hl hz (fun _ _ P h => h) (fun x m _ => he x m) ?_
  rw [List.filter_eq_self.mpr fun _ _ => rfl]
  exact h
/-- a loop behind its items -/
def dForK (g : DTG) (tb : DTS) (nx : Rho → Store → Prop) (rt : D → Store → Prop) (ex : Exc → Rho → Store → Prop) (ρ : Rho) (xs : List D) (live : Store → Prop) (S1 : Store) : Prop :=
  ∃ Pv : Nat → Rho → Store → Prop, Pv 0 ρ S1 ∧ (∀ i ρ S, i ≤ xs.length → Pv i ρ S → live S) ∧
  (∀ i x ρ S, xs[i]? = some x → Pv i ρ S → g x ρ S fun ρ2 S2 => tb ⟨Pv (i + 1), rt, nx, Pv (i + 1), ex⟩ ρ2 S2) ∧ ∀ ρ S, Pv xs.length ρ S → nx ρ S
theorem s_for {ρ : Rho} {S : Store} {nx bk ct : Rho → Store → Prop} {rt : D → Store → Prop} {ex : Exc → Rho → Store → Prop} {ti : DTI} {g : DTG} {tb : DTS} (h : ti ρ S (fun xs live S1 => dForK g tb nx rt ex ρ xs live S1) (fun x S1 => ex x ρ S1)) : dFor ti g tb ⟨nx, rt, bk, ct, ex⟩ ρ S := h
theorem sz_and {n : Nat} {P : Prop} (h : n ≤ 100000) (k : P) : n ≤ sizeLine ∧ P := ⟨Nat.le_trans h (by decide), k⟩
theorem ifB {c : Bool} {A B : Prop} (h1 : c = true → A) (h2 : c = false → B) : if c = true then A else B := by
  cases c with
  | false => rw [if_neg Bool.false_ne_true]; exact h2 rfl
  | true => rw [if_pos rfl]; exact h1 rfl
theorem ifYes {c : Bool} {A B : Prop} (e : c = true) (h : A) : if c = true then A else B := by rw [if_pos e]; exact h
theorem ifNo {c : Bool} {A B : Prop} (e : c = false) (h : B) : if c = true then A else B := by rw [e, if_neg Bool.false_ne_true]; exact h
theorem small {n : Nat} (h : n ≤ 100000) : n ≤ sizeLine := Nat.le_trans h (by decide)
theorem at0 {α : Type} (xs : List α) : atI xs 0 = xs[0]? := by
  unfold atI ixN
  cases xs <;> simp
theorem atN {α : Type} (xs : List α) (k : Nat) : atI xs (k : Int) = xs[k]? := by
  unfold atI ixN
  by_cases h : k < xs.length
  · simp [h]
  · simp [h]
theorem at1 {α : Type} (xs : List α) : atI xs 1 = xs[1]? := atN xs 1
theorem at2 {α : Type} (xs : List α) : atI xs 2 = xs[2]? := atN xs 2
theorem at3 {α : Type} (xs : List α) : atI xs 3 = xs[3]? := atN xs 3
theorem at4 {α : Type} (xs : List α) : atI xs 4 = xs[4]? := atN xs 4
theorem ixN_0 {n : Nat} (h : 0 < n) : ixN n 0 = some 0 := by unfold ixN; simp; omega
theorem ixN_N {n k : Nat} (h : k < n) : ixN n (k : Int) = some k := by unfold ixN; simp [h]
theorem at_mod {α β : Type} {f : α → β} {xs : List α} {t : Int} (h : xs ≠ []) : ∃ x, atI (xs.map f) (t % (xs.map f).length) = some (f x) := by
  have hp : (0 : Int) < (xs.map f).length := by
    have := List.length_pos_iff.mpr h
    simp; omega
  have h1 := Int.emod_nonneg t (by omega : ((xs.map f).length : Int) ≠ 0)
  have h2 := Int.emod_lt_of_pos t hp
  obtain ⟨k, hk⟩ := Int.eq_ofNat_of_zero_le h1
  rw [hk] at h2 ⊢
  have hkl : k < xs.length := by simp at h2; omega
  exact ⟨xs[k], by rw [atN, List.getElem?_map, List.getElem?_eq_getElem hkl]; rfl⟩
theorem small_fac {i j : Int} (h : CMul i j) : CMulA i j := .inl h
theorem cut_take {xs : List D} {v : Int} (h : 0 ≤ v) : cutD xs none (some v) = xs.take v.toNat := by
  unfold cutD HT.sIx
  simp only [List.drop_zero, Nat.sub_zero]
  rw [if_neg (by omega)]
  by_cases q : v.toNat ≤ xs.length
  · rw [Nat.min_eq_left q]
  · rw [Nat.min_eq_right (by omega), List.take_of_length_le (by omega), List.take_of_length_le (by omega)]
theorem cut_drop {xs : List D} {v : Int} (h : 0 ≤ v) : cutD xs (some v) none = xs.drop v.toNat := by
  unfold cutD HT.sIx
  simp only []
  rw [if_neg (by omega)]
  by_cases q : v.toNat ≤ xs.length
  · rw [Nat.min_eq_left q, List.take_of_length_le (by rw [List.length_drop]; omega)]
  · rw [Nat.min_eq_right (by omega), List.drop_of_length_le (by omega), List.drop_of_length_le (by omega)]; simp
theorem all_int : ∀ {l : List D}, (∀ x ∈ l, ∃ i, x = .int i) → ∃ is : List Int, l = is.map .int
  | [], _ => ⟨[], rfl⟩
  | x :: l, h => by
    obtain ⟨i, rfl⟩ := h x List.mem_cons_self
    obtain ⟨is, rfl⟩ := all_int fun y m => h y (List.mem_cons_of_mem _ m)
    exact ⟨i :: is, rfl⟩
theorem o_sqAnd {S : Store} {d : D} {xs : List D} {P : List D → Prop} (e : sqOf S d = some xs) (h : P xs) : ∃ xs, sqOf S d = some xs ∧ P xs := ⟨xs, e, h⟩
theorem o_lstE {P : List D → Prop} {xs : List D} (h : P xs) : ∃ ys, D.lst xs = .lst ys ∧ P ys := ⟨xs, rfl, h⟩
theorem o_sum {S : Store} {Q : QD} {ns : List Int} (h : Q (.int ns.sum) S) : cSum [.lst (ns.map .int)] S Q := ⟨_, ns, rfl, rfl, h⟩
end Dy
namespace Dy
open PySem PySem.Spec PyProof.Rows L2 PySem.SeqAt

theorem str_eq_dict (b : Str) (u : Tok) (l : Addr) (es : Array DictEntry) (n : Nat) (dd : Option Addr) (sl : Array (Option Value)) :
    Meets (Builtin.«str.__eq__» ⟨[.str b u, .ref l], []⟩) (fun _ R s => s.heap.get? l = some { cls := .type "dict", dict := dd, data := .dict es n, slots := sl } ∧ R (.ok (.ret .notImplemented)) s) :=
  .of_wp fun prog w A R s h => by obtain ⟨hp, g, d, tk, os⟩ := s; obtain ⟨hl, h⟩ := h; have f1 := F.sub_dict_str; wp_walk using wpAny_loadPart' hl; exact ⟨_, rfl, h⟩
theorem dict_eq_str (l : Addr) (es : Array DictEntry) (n : Nat) (dd : Option Addr) (sl : Array (Option Value)) (b : Str) (u : Tok) :
    Meets (Builtin.«dict.__eq__» ⟨[.ref l, .str b u], []⟩) (fun _ R s => s.heap.get? l = some { cls := .type "dict", dict := dd, data := .dict es n, slots := sl } ∧ R (.ok (.ret .notImplemented)) s) :=
  .of_wp fun prog w A R s h => by obtain ⟨hp, g, d, tk, os⟩ := s; obtain ⟨hl, h⟩ := h; have f1 := F.sub_str_dict; wp_walk using wpAny_loadPart' hl; exact ⟨_, rfl, h⟩
theorem eq_str_dict {A : Around} {s : Shared} {l : Addr} {o : Obj} {es : Array DictEntry} {n : Nat} (b : Str) (u : Tok) (ho : s.heap.get? l = some o) (hc : o.cls = .type "dict") (hd : o.data = .dict es n) (hu : A.units < cLine) : EqAt A s (.str b u) (.ref l) false := fun prog w E Q h => by
  unfold eqBool
  refine wpAny_holding ?_
  refine wpAny_ite_split (fun hab => absurd (eq_of_beq hab) nofun) (fun _ => ?_)
  obtain ⟨cls, dd, data, sl⟩ := o
  simp only at hc hd
  subst hc hd
  refine wpAny_bind ?_
  refine rc_eq_decline_or (k := false) (typeIs_str s b u) ⟨_, ho, rfl⟩ (by decide) F.sub_dict_str F.slot_str_eq F.slot_dict_eq_refl
    (fun _ hq => call_meets F.slot_str_eq (typeIs_str s b u) F.entry_str_eq (F.args_str_eq_2 _ _) (str_eq_dict b u l es n dd sl) ⟨ho, hq⟩)
    (fun _ hq => call_meets F.slot_dict_eq_refl ⟨_, ho, rfl⟩ F.entry_dict_eq (F.args_dict_eq_2 _ _) (dict_eq_str l es n dd sl b u) ⟨ho, hq⟩)
    (fun _ hq => wpAny_of_eq (rfl : isSame (.str b u) (.ref l) = pure false) hq) (.inr hu) (wpAny_truthy_bool h)
/-- a list, a tuple, a dict -/
def Cont (K : PySem.W.Frag) (H : Hp) (a : Addr) : Prop := (∃ kvs, H a = some (.dK kvs)) ∨ (∃ vs, SqT K H a vs) ∨ ∃ vs, SqL K H a vs
theorem eq_str_cont {X : Cx} {pins : List (Addr × Obj)} {s : Shared} {σ : L2.St} {H : Hp} {a : Addr} {A : Around} (I : L2.Inv X pins σ H s) (hc : Cont X.K H a) (hu : A.units < cLine) (x : Str) (t : Tok) : EqAt A s (.str x t) (.ref a) false := by
  rcases hc with ⟨kvs, ha⟩ | ⟨vs, hs⟩ | ⟨vs, hs⟩
  · obtain ⟨_, _, vs, _, o, es, ep, g1, g2, g3, _⟩ : ObjOk _ _ H s.heap a (.dK kvs) := I.hok a _ ha
    exact eq_str_dict x t g1 g2.1 g3 hu
  · obtain ⟨its, rv, ⟨o, ho, hc, n, hd⟩, _⟩ := I.tuple hs
    exact EqAt.str_tuple x t ⟨o, ho, hc, n, hd⟩ hu
  · obtain ⟨its, rv, ⟨o, n, ho, hc, _, hd⟩, _⟩ := I.list hs
    exact EqAt.str_list x t ⟨o, ho, hc, n, hd⟩ hu
def rInX (K : PySem.W.Frag) (neg : Bool) : R2 := fun x y H Q => rInP K neg x y H Q ∨ ∃ (a : Addr) (xs : List Str), x = .ref a ∧ Cont K H a ∧ (Dp K H y (.list (xs.map PyData.str)) ∨ Dp K H y (.tuple (xs.map PyData.str))) ∧ Q (.bl neg) H
theorem all_strs {h : Heap} : ∀ {vs : List Value} {xs : List Str} {as : List Addr}, ReadsAll h vs (xs.map PyData.str) as → ∀ y ∈ vs, ∃ x u, y = .str x u
  | [], _, _, _, y, m => nomatch m
  | v :: vs, [], _, r, _, _ => nomatch r
  | v :: vs, x :: xs, _, r, y, m => by
    cases r with
    | cons r1 r2 =>
      rcases List.mem_cons.mp m with rfl | m
      · cases r1 with
        | str x t => exact ⟨x, t, rfl⟩
      · exact all_strs r2 y m
theorem any_no {vs : Array Value} : (vs.any fun _ => false) = false := by
  simp
section
variable {X : Cx}
theorem in_dict {pins : List (Addr × Obj)} {s : Shared} {σ : L2.St} {H : Hp} {y : V} {a : Addr} {xs : List Str} {Q : VK} {u : Value} {f : Bool → Value → Value → Sem Value} (neg : Bool) (hu : X.A.units + 64 < cLine) (I : L2.Inv X pins σ H s) (ha : Cont X.K H a) (dy : Dp X.K H y (.list (xs.map PyData.str)) ∨ Dp X.K H y (.tuple (xs.map PyData.str))) (ry : RelV y u) (q : Q (.bl neg) H)
    (h1 : ∀ l (items : Array Value), u = .ref l → s.heap.IsList l items → (∀ z, z ∈ items → EqAt X.A.in1 s z (.ref a) false) → EP X pins σ Q (.bool (neg ^^ items.any fun _ => false)) s → wpAny (model X.prog X.w) X.A (f neg (.ref a) u) (EP X pins σ Q) X.xe s)
    (h2 : ∀ l (items : Array Value), u = .ref l → s.heap.IsTuple l items → (∀ z, z ∈ items → EqAt X.A.in1 s z (.ref a) false) → EP X pins σ Q (.bool (neg ^^ items.any fun _ => false)) s → wpAny (model X.prog X.w) X.A (f neg (.ref a) u) (EP X pins σ Q) X.xe s) :
    wpAny (model X.prog X.w) X.A (f neg (.ref a) u) (EP X pins σ Q) X.xe s := by
  have eq : ∀ z : Value, (∃ x t, z = .str x t) → EqAt X.A.in1 s z (.ref a) false := fun z ⟨x, t, e⟩ => e ▸ eq_str_cont I ha (by show X.A.units + 1 < cLine; omega) x t
  have fin : ∀ items : Array Value, EP X pins σ Q (.bool (neg ^^ items.any fun _ => false)) s := fun items => ⟨.bl neg, H, I, by rw [any_no]; cases neg <;> rfl, q⟩
  rcases dy with dy | dy
  · obtain ⟨bs, rb⟩ := Dp.reads I _ y u dy ry
    cases rb with
    | list g1 g2 g3 g4 => exact h1 _ _ rfl ⟨_, g1, g2, _, g3⟩ (fun z hz => eq z (all_strs g4 z (by simpa using hz))) (fin _)
  · obtain ⟨bs, rb⟩ := Dp.reads I _ y u dy ry
    cases rb with
    | tuple g1 g2 g3 g4 => exact h2 _ _ rfl ⟨_, g1, g2, _, g3⟩ (fun z hz => eq z (all_strs g4 z (by simpa using hz))) (fin _)
theorem op_inX (hu : X.A.units + 64 < cLine) : OpR X (compareOp .In) (rInX X.K false) := by
  rintro pins s σ H x y v u Q I rx ry (h | ⟨a, xs, rfl, ha, dy, q⟩)
  · exact op_inP hu pins s σ H x y v u Q I rx ry h
  · cases (show v = Value.ref a from rx)
    refine in_dict (f := fun neg => compareOp .In) false hu I ha dy ry q (fun l items e hl he h => ?_) (fun l items e hl he h => ?_)
    · subst e; exact in_listAt _ hl he (by simpa using h)
    · subst e; exact in_tupleAt _ hl he (by simpa using h)
theorem op_ninX (hu : X.A.units + 64 < cLine) : OpR X (compareOp .NotIn) (rInX X.K true) := by
  rintro pins s σ H x y v u Q I rx ry (h | ⟨a, xs, rfl, ha, dy, q⟩)
  · exact op_ninP hu pins s σ H x y v u Q I rx ry h
  · cases (show v = Value.ref a from rx)
    refine in_dict (f := fun neg => compareOp .NotIn) true hu I ha dy ry q (fun l items e hl he h => ?_) (fun l items e hl he h => ?_)
    · subst e; exact notIn_listAt _ hl he (by simpa using h)
    · subst e; exact notIn_tupleAt _ hl he (by simpa using h)
end
def isCont : D → Bool
  | .tup _ => true
  | .lst _ => true
  | .frz _ => true
  | .dic _ _ => true
  | _ => false
/-- x in ys: data without dicts; or a list, a tuple, a dict among strings -/
def dInX (neg : Bool) : D2 := fun x y S Q => dInN neg x y S Q ∨ ∃ xs : List Str, isCont x = true ∧ sqOf S y = some (xs.map .str) ∧ Q (.bl neg) S
theorem cont_of {K : PySem.W.Frag} {φ : Al} {H : Hp} {x : D} {v : V} (h : RD K φ H x v) (c : isCont x = true) : ∃ a, v = .ref a ∧ Cont K H a := by
  cases x with
  | tup xs => rw [RD] at h; obtain ⟨a, vs, rfl, h1, _⟩ := h; exact ⟨a, rfl, .inr (.inl ⟨_, h1⟩)⟩
  | lst xs => rw [RD] at h; obtain ⟨a, vs, rfl, h1, _⟩ := h; exact ⟨a, rfl, .inr (.inr ⟨_, h1.sq⟩)⟩
  | frz xs => rw [RD] at h; obtain ⟨a, vs, rfl, h1, _⟩ := h; exact ⟨a, rfl, .inr (.inr ⟨_, h1.sq⟩)⟩
  | dic ks xs => rw [RD] at h; obtain ⟨a, vs, rfl, h1, _⟩ := h; exact ⟨a, rfl, .inl ⟨_, h1.1⟩⟩
  | _ => cases c
theorem pyDs_strs : ∀ xs : List Str, pyDs (xs.map .str) = some (xs.map .str)
  | [] => by rw [List.map_nil, pyDs]; rfl
  | x :: xs => by rw [List.map_cons, pyDs, pyD, pyDs_strs xs]; rfl
theorem lk_inXN {K : PySem.W.Frag} (neg : Bool) : Lk K (dInX neg) (rInX K neg) := by
  rintro φ S H Q' Q x y v1 v2 r r1 r2 q (h | ⟨xs, c, e, h⟩)
  · exact .inl (lk_inN neg φ S H Q' Q x y v1 v2 r r1 r2 q h)
  · obtain ⟨a, rfl, hc⟩ := cont_of r1 c
    obtain ⟨b, ws, rfl, h3, h4⟩ := sq_of r r2 e
    obtain ⟨j1, _⟩ := dps_of _ ws _ h4 (pyDs_strs xs)
    refine .inr ⟨a, xs, rfl, hc, ?_, q φ H S _ _ .refl r rd_bl h⟩
    rcases h3 with h3 | h3
    · exact .inl (.lst h3 j1)
    · exact .inr (.tup h3 j1)
theorem lk_inX {K : PySem.W.Frag} : Lk K (dInX false) (rInX K false) := lk_inXN false
theorem lk_ninX {K : PySem.W.Frag} : Lk K (dInX true) (rInX K true) := lk_inXN true
section
variable {F : Fam} {k : Nat}
theorem oq_inX (hr : ∀ i, Room k (F.X i).A) (i : F.ι) : OpR (F.X i) (compareOp .In) (rInX F.K false) := F.hK i ▸ op_inX (hr i).units
theorem oq_ninX (hr : ∀ i, Room k (F.X i).A) (i : F.ι) : OpR (F.X i) (compareOp .NotIn) (rInX F.K true) := F.hK i ▸ op_ninX (hr i).units
end
def inS (xs : List Str) : D → Bool
  | .str s => xs.any fun x => decide (x = s)
  | _ => false
/-- a value that isinstance and == ask by its kind -/
def plainD : D → Bool
  | .non => true
  | .bl _ => true
  | .int _ => true
  | .str _ => true
  | d => isCont d
theorem any_eqv {xs : List Str} {p : PyData} {f : Str → Bool} (h : ∀ x, PyData.eqv (.str x) p = f x) : ((xs.map PyData.str).any fun z => PyData.eqv z p) = xs.any f := by
  rw [List.any_map]
  congr 1
  funext x
  exact h x
theorem o_inS {S : Store} {Q : QD} {neg : Bool} {d y : D} {xs : List Str} (e : sqOf S y = some (xs.map .str)) (c : plainD d = true) (h : Q (.bl (neg ^^ inS xs d)) S) : dInX neg d y S Q := by
  have sc : ∀ p : PyData, pyS S d = some p → p.depth = 0 → (∀ f : Str → Bool, (∀ x, PyData.eqv (.str x) p = f x) → Q (.bl (neg ^^ xs.any f)) S) → dInX neg d y S Q := fun p e1 hd hq =>
    .inl ⟨p, _, _, e1, e, pyDs_strs xs, by rw [hd]; omega, by rw [any_eqv fun _ => rfl]; exact hq _ fun _ => rfl⟩
  have ct : isCont d = true → inS xs d = false → dInX neg d y S Q := fun c e2 => .inr ⟨xs, c, e, by rw [e2] at h; simpa using h⟩
  have no : ∀ f : Str → Bool, (∀ x, f x = false) → xs.any f = false := fun f h => by
    have : f = fun _ => false := funext h
    rw [this]; simp
  cases d with
  | non => exact sc .none rfl (by rw [PyData.depth] <;> intros <;> contradiction) fun f hf => by rw [no f fun x => (hf x).symm.trans (by rw [PyData.eqv])]; exact h
  | bl b => exact sc (.bool b) rfl (by rw [PyData.depth] <;> intros <;> contradiction) fun f hf => by rw [no f fun x => (hf x).symm.trans (by rw [PyData.eqv])]; exact h
  | int b => exact sc (.int b) rfl (by rw [PyData.depth] <;> intros <;> contradiction) fun f hf => by rw [no f fun x => (hf x).symm.trans (by rw [PyData.eqv])]; exact h
  | str b =>
    refine sc (.str b) rfl (by rw [PyData.depth] <;> intros <;> contradiction) fun f hf => ?_
    have : f = fun x => decide (x = b) := funext fun x => (hf x).symm.trans (by rw [PyData.eqv]; exact PySem.W.beq_decide x b)
    rw [this]; exact h
  | tup _ => exact ct rfl rfl
  | lst _ => exact ct rfl rfl
  | frz _ => exact ct rfl rfl
  | dic _ _ => exact ct rfl rfl
  | ty _ => cases c
  | ref _ => cases c
  | cls _ => cases c
  | exo _ _ _ _ => cases c
def tagD : D → String
  | .non => "NoneType"
  | .bl _ => "bool"
  | .int _ => "int"
  | .str _ => "str"
  | .tup _ => "tuple"
  | .dic _ _ => "dict"
  | _ => "list"
theorem tag_plain {S : Store} {d : D} (c : plainD d = true) : tagOf S d = some (tagD d) := by
  cases d <;> first | rfl | cases c
theorem o_isiP {S : Store} {Q : QD} {T : String} {d : D} (c : plainD d = true) (h : Q (.bl (isiT T (tagD d))) S) : cIsi T [d, .ty T] S Q := ⟨d, _, rfl, tag_plain c, h⟩
theorem o_all {S : Store} {Q : QD} {g : D → Bool} {xs : List D} (h : Q (.bl (xs.all g)) S) : cAll [.lst (xs.map fun x => .bl (g x))] S Q := by
  refine ⟨_, xs.map g, rfl, by rw [List.map_map]; rfl, ?_⟩
  rw [List.all_map]
  exact h
theorem o_any {S : Store} {Q : QD} {g : D → Bool} {xs : List D} (h : Q (.bl (xs.any g)) S) : cAny [.lst (xs.map fun x => .bl (g x))] S Q := by
  refine ⟨_, xs.map g, rfl, by rw [List.map_map]; rfl, ?_⟩
  rw [List.any_map]
  exact h
/-- plain data, of tuples, lists that nobody changes, and empty dicts -/
inductive Dat : D → Prop
  | non : Dat .non
  | bl (b : Bool) : Dat (.bl b)
  | int (i : Int) : Dat (.int i)
  | str (s : Str) : Dat (.str s)
  | dic : Dat (.dic [] [])
  | tup {xs : List D} (h : ∀ x ∈ xs, Dat x) (z : xs.length ≤ 1000) : Dat (.tup xs)
  | lst {xs : List D} (h : ∀ x ∈ xs, Dat x) (z : xs.length ≤ 1000) : Dat (.lst xs)
theorem Dat.plain {d : D} (h : Dat d) : plainD d = true := by cases h <;> rfl
end Dy
namespace Dy
open PySem PySem.Spec PyProof.Rows L2

/-! ### constants of the module, classes, errors: as callers know them -/
def Kst (K : PySem.W.Frag) (mg : Str → Option Value) (x : Str) (d : D) : Prop := ∃ v u, mg x = some u ∧ RelV v u ∧ ∀ φ H, RD K φ H d v
section
variable {F : Fam} {W : WX} {e e2 : Expr} {es : List Expr} {te : DTE} {t : DTA} {p pos pos2 : Pos} {k k2 : Nat} {x f : Str} {ps : List Str} {sp : DSp} {C : Addr} {d : D}
theorem de_k {mg : Str → Option Value} (hmg : ∀ i, (F.X i).mg = mg) (h : Kst F.K mg x d) (hg : ∀ i, Gl (F.X i) x := by intro _; rfl) (hd : (x == ("__debug__" : Str)) = false := by decide) : DE F W (.Name x pos) (dC d) := by
  obtain ⟨v, u, h1, h2, h3⟩ := h
  exact ⟨tC v, fun i => pe_glob (hg i) (by rw [hmg i]; exact h1) h2 hd, fun σ ρ φ S H E Q' Q o q k => q φ H S _ _ .refl o.sr (h3 φ H) k⟩
/-- a class with an __init__ -/
def CalM (P : Program) (w : World) (K : PySem.W.Frag) (mg : Str → Option Value) (base : Heap) (x : Str) (C : Addr) (k : Nat) (ps : List Str) (sp : DSp) : Prop :=
  ∃ fi fd, L2.Mk K C fi ∧ FnOk P w K mg base (L2.CX P w) k fi fd ps (liftSp K sp) ∧ mg x = some (.ref C) ∧ Binds K fd ps []
abbrev CalMF (F : Fam) (x : Str) (C : Addr) (k : Nat) (ps : List Str) (sp : DSp) : Prop := ∀ i, CalM (F.X i).prog (F.X i).w (F.X i).K (F.X i).mg (F.X i).base x C k ps sp
theorem de_makeC (c : CalMF F x C k ps sp) (hr : ∀ i, Room k2 (F.X i).A) (hk : k + 1 ≤ k2) (tk : ∀ i, Takes (F.X i) W) (ha : DA F W (e :: es) t) (hg : ∀ i, Gl (F.X i) x := by intro _; rfl) (hdb : (x == ("__debug__" : Str)) = false := by decide)
    (he : ∀ i, starEach (e :: es) (F.X i).env = (false, eval e (F.X i).env) :: starEach es (F.X i).env := by intro _; rfl) (hpl : ∀ i, (backTo pos (starEach es (F.X i).env)).any (·.1) = false := by intro _; rfl) :
    DE F W (.Call (.Name x p) (e :: es) [] pos) (dMake C sp t) := by
  obtain ⟨t1, p1, k1⟩ := ha
  refine ⟨_, fun i => ?_, fun σ ρ φ S H E Q' Q o q h => k1 σ ρ φ S H E _ _ o (fun φ1 H1 S1 ds vs s1 r1 rd h1 => make_link (o.mono s1 r1) (q.mono s1) rd h1) h⟩
  obtain ⟨fi, fd, M, G, gm, bd⟩ := c i
  rw [F.hK i] at G
  have G' : FnOk (F.X i).prog (F.X i).w (F.X i).K (F.X i).mg (F.X i).base (L2.CX (F.X i).prog (F.X i).w) k fi fd ps (liftSp F.K sp) := by rw [F.hK i]; exact G
  exact pe_makeS' M G' ((hr i).mono hk) (hg i) gm bd (fun σ => passAt (tk i) σ) (p1 i) hdb (he i) (hpl i)
/-- an error class with one field -/
def CalE (P : Program) (w : World) (K : PySem.W.Frag) (mg : Str → Option Value) (base : Heap) (x : Str) (C : Addr) (f : Str) : Prop :=
  ∃ fI fd, ErrF K C f fI ∧ mg x = some (.ref C) ∧ FnOk P w K mg base (L2.CX P w) 1 fI fd ["self", f] (spEI C f) ∧ Binds K fd ["self", f] []
abbrev CalEF (F : Fam) (x : Str) (C : Addr) (f : Str) : Prop := ∀ i, CalE (F.X i).prog (F.X i).w (F.X i).K (F.X i).mg (F.X i).base x C f
theorem ds_raiseC (hc : ∀ i, (F.X i).calm = true) {P : Program} {w : World} {mg : Str → Option Value} {base : Heap} (c : CalE P w F.K mg base x C f) (hP : ∀ i, (F.X i).prog = P) (hw : ∀ i, (F.X i).w = w) (hmg : ∀ i, (F.X i).mg = mg) (hb : ∀ i, (F.X i).base = base) (tk : ∀ i, Takes (F.X i) W) (hr : ∀ i, Room k2 (F.X i).A) (hk : 2 ≤ k2)
    (he : DE F W e te) (hg : ∀ i, Gl (F.X i) x := by intro _; rfl) (hdb : (x == ("__debug__" : Str)) = false := by decide)
    (hs : ∀ i, starEach [e] (F.X i).env = (false, eval e (F.X i).env) :: starEach [] (F.X i).env := by intro _; rfl) (hpl : ∀ i, (backTo pos (starEach [] (F.X i).env)).any (·.1) = false := by intro _; rfl) :
    DS F W (.Raise (some (.Call (.Name x p) [e] [] pos)) none pos2) (dRaiseF C f te) := by
  obtain ⟨fI, fd, T, gm, G, bd⟩ := c
  exact ds_raiseF hc T tk (fun i => by rw [hmg i]; exact gm) (fun i => by rw [hP i, hw i, hmg i, hb i, F.hK i]; exact G) (fun i => (hr i).mono hk) (fun i => by rw [F.hK i]; exact bd) he hg hdb hs hpl
/-- statements that are never reached -/
theorem dss_no {sts : List Stmt} : DSs F W sts (fun _ _ _ => False) := ⟨fun _ _ _ => False, fun i => ⟨fun pins s σ H D I h => h.elim⟩, fun _ _ _ _ _ _ _ _ _ _ h => h.elim⟩
end
/-! ### isinstance(e, C) of a caught error with a field -/
def cIsE (a dd : Addr) (kt : D → Option Bool) : DR := fun ds S Q => ∃ ks xs c b, ds = [.exo a dd ks xs, c] ∧ kt c = some b ∧ Q (.bl b) S
/-- kt tells whether C is under a class -/
def KitOf (K : PySem.W.Frag) (C : Addr) (kt : D → Option Bool) : Prop := ∀ c b, kt c = some b → (∃ n, c = .ty n ∧ PySem.W.kitOne K (.ref C) (.type n) = some b) ∨ ∃ C2, c = .cls C2 ∧ PySem.W.kitOne K (.ref C) (.ref C2) = some b
theorem lk_isE {K : PySem.W.Frag} {C a dd : Addr} {kt : D → Option Bool} (h : KitOf K C kt) : LkC K (cIsE a dd kt) (rIsX K C a (some dd)) := by
  rintro φ S H Q' Q ds vs r rd q ⟨ks, xs, c, b, rfl, e, hq⟩
  obtain ⟨v, w, rfl, h1, h2⟩ := rds2 rd
  rw [RD] at h1
  obtain ⟨us, rfl, g1, g2, g3⟩ := h1
  have fin : Q (.bl b) H := q φ H S _ _ .refl r rd_bl hq
  have hx : ∀ d', some dd = some d' → ∃ fs, H d' = some (.xd fs) := fun d' e => by cases e; exact ⟨_, g1⟩
  rcases h c b e with ⟨n, rfl, hk⟩ | ⟨C2, rfl, hk⟩
  · rw [RD] at h2
    subst h2
    exact ⟨.ty n, .type n, b, rfl, .ty n, hk, hx, fin⟩
  · rw [RD] at h2
    subst h2
    exact ⟨.ref C2, .ref C2, b, rfl, .own C2, hk, hx, fin⟩
section
variable {F : Fam} {W : WX} {a C dd : Addr} {e e2 : Expr} {t : DTA} {p pos : Pos} {kt : D → Option Bool}
theorem dc_isE (T : ExcI F.K C) (h : KitOf F.K C kt) (hm : ∀ i, ((F.su a (.ref C) (some dd)).X i).mg "isinstance" = none) (ha : DA (F.su a (.ref C) (some dd)) W [e, e2] t) (hg : ∀ i, Gl ((F.su a (.ref C) (some dd)).X i) "isinstance" := by intro _; rfl)
    (he : St1 (F.su a (.ref C) (some dd)) e [e2] := by intro _; rfl) (hp : Pl1 (F.su a (.ref C) (some dd)) pos [e2] := by intro _; rfl) : DE (F.su a (.ref C) (some dd)) W (.Call (.Name "isinstance" p) [e, e2] [] pos) (dCB (cIsE a dd kt) t) := by
  refine de_callB (fun j => ?_) (lk_isE h) hg hm bt_isinstance ha (he := he) (hpl := hp)
  obtain ⟨i, oe, pn, z, fv⟩ := j
  have T' : ExcI (F.X i).K C := by rw [F.hK]; exact T
  have := call_isX (X := F.X i) (a := a) (pn := pn) T' z fv
  rw [F.hK] at this
  exact this
end
theorem o_isE {a dd : Addr} {kt : D → Option Bool} {ks : List Str} {xs : List D} {c : D} {b : Bool} {S : Store} {Q : QD} (e : kt c = some b) (h : Q (.bl b) S) : cIsE a dd kt [.exo a dd ks xs, c] S Q := ⟨ks, xs, c, b, rfl, e, h⟩
/-! ### {} -/
def oFld (P : Addr → Prop) (f : Str) (d : D) (S : Store) (Q : QD) : Prop := ∃ n C fs v, d = .ref n ∧ S[n]? = some (.ins C fs) ∧ P C ∧ fs.lookup f = some v ∧ Q v S
def oSetF (P : Addr → Prop) (f : Str) (d o : D) (R : Store → Prop) (S : Store) : Prop := ∃ n C fs, o = .ref n ∧ S[n]? = some (.ins C fs) ∧ P C ∧ fs.length < 1000 ∧ R (S.set n (.ins C (putD f d fs)))

def dDnil : DTE := fun _ S Q _ => Q (.dic [] []) S
theorem pe_dnil {X : Cx} {pos : Pos} : PE X (.Dict [] [] pos) (fun _ H Q => ∀ p, H p = none → Q (.ref p) (upd H p (.dK []))) :=
  ⟨fun pins s σ H Q I q => wpAny_Dict_empty
    ⟨.ref s.heap.objs.size, _, I.laid (a := s.heap.objs.size) (o := .dK []) (h' := s.heap.push { cls := .type "dict", data := .dict #[] }) (t' := s.toks) (fun _ _ g => Heap.get?_push_of_some _ g) (Nat.le_refl _) (dk_empty s.heap I.big), rfl,
      q _ (I.hok.fresh (Nat.le_refl _))⟩⟩
theorem de_dnil {F : Fam} {W : WX} {pos : Pos} : DE F W (.Dict [] [] pos) dDnil :=
  ⟨_, fun i => pe_dnil, fun σ ρ φ S H E Q' Q o q h p hp => q φ _ S _ _ (step_new hp) (o.sr.new hp) (by rw [RD]; exact ⟨p, [], rfl, ⟨upd_same, o.sr.out hp, o.sr.outb hp⟩, rfl, .nil⟩) h⟩
theorem c_dnil {ρ : Rho} {S : Store} {Q : QD} {E : XQ} (h : Q (.dic [] []) S) : dDnil ρ S Q E := h
theorem c_make {C : Addr} {sp : DSp} {t : DTA} {ρ : Rho} {S : Store} {Q : QD} {E : XQ} (h : t ρ S (fun ds S1 => sp (.ref S1.length :: ds) (S1 ++ [.ins C []]) (fun d S2 => d = .non ∧ Q (.ref S1.length) S2) E) E) : dMake C sp t ρ S Q E := h
theorem c_fld {P : Addr → Prop} {f : Str} {to : DTE} {ρ : Rho} {S : Store} {Q : QD} {E : XQ} (h : to ρ S (fun d S1 => oFld P f d S1 Q) E) : dFld P f to ρ S Q E := h
theorem o_fld {P : Addr → Prop} {f : Str} {n : Nat} {C : Addr} {fs : List (Str × D)} {v : D} {S : Store} {Q : QD} (e : S[n]? = some (.ins C fs)) (hP : P C) (hl : fs.lookup f = some v) (h : Q v S) : oFld P f (.ref n) S Q := ⟨n, C, fs, v, rfl, e, hP, hl, h⟩
theorem s_setF {P : Addr → Prop} {f : Str} {to te : DTE} {nx bk ct : Rho → Store → Prop} {rt : D → Store → Prop} {ex : Exc → Rho → Store → Prop} {ρ : Rho} {S : Store} (h : te ρ S (fun d S1 => to ρ S1 (fun o S2 => oSetF P f d o (nx ρ) S2) (fun x S1 => ex x ρ S1)) (fun x S1 => ex x ρ S1)) : dSetF P f to te ⟨nx, rt, bk, ct, ex⟩ ρ S := h
theorem o_setF {P : Addr → Prop} {f : Str} {d : D} {n : Nat} {C : Addr} {fs : List (Str × D)} {S : Store} {R : Store → Prop} (e : S[n]? = some (.ins C fs)) (hP : P C) (hz : fs.length < 1000)
    (h : ∀ S', S'.length = S.length → S'[n]? = some (.ins C (putD f d fs)) → (∀ m : Nat, m ≠ n → S'[m]? = S[m]?) → R S') : oSetF P f d (.ref n) R S :=
  ⟨n, C, fs, rfl, e, hP, hz, h _ (by simp) (List.getElem?_set_self (List.getElem?_eq_some_iff.mp e).1) fun m hm => List.getElem?_set_ne (Ne.symm hm)⟩
theorem s_raiseF {C : Addr} {f : Str} {te : DTE} {nx bk ct : Rho → Store → Prop} {rt : D → Store → Prop} {ex : Exc → Rho → Store → Prop} {ρ : Rho} {S : Store} (h : te ρ S (fun d S1 => ex ⟨C, some [(f, d)]⟩ ρ S1) (fun x S1 => ex x ρ S1)) : dRaiseF C f te ⟨nx, rt, bk, ct, ex⟩ ρ S := h
theorem s_tryAs {em : Addr → Option Bool} {i : Nat} {tb : DTS} {ts : Addr → Exc → Option Addr → DTS} {nx bk ct : Rho → Store → Prop} {rt : D → Store → Prop} {ex : Exc → Rho → Store → Prop} {ρ : Rho} {S : Store}
    (h : tb ⟨nx, rt, bk, ct, fun x ρ1 S1 => ∃ b, em x.C = some b ∧ (b = true → ∀ a d, d.isSome = x.fs.isSome → ts a x d ⟨fun ρ2 S2 => nx (ρ2.set i none) S2, rt, fun ρ2 S2 => bk (ρ2.set i none) S2, fun ρ2 S2 => ct (ρ2.set i none) S2, fun _ _ _ => False⟩ (ρ1.set i (some (exV a d x))) S1) ∧ (b = false → ex x ρ1 S1)⟩ ρ S) :
    dTryAs em i tb ts ⟨nx, rt, bk, ct, ex⟩ ρ S := h
def oXe (a dd : Addr) (f : Str) (v : D) (S1 : Store) (Q : QD) : Prop := ∃ ks xs u, v = .exo a dd ks xs ∧ (ks.zip xs).lookup f = some u ∧ Q u S1
def dXe (a dd : Addr) (f : Str) (te : DTE) : DTE := fun ρ S Q E => te ρ S (fun v S1 => oXe a dd f v S1 Q) E
theorem de_xe {F : Fam} {W : WX} {a C dd : Addr} {e : Expr} {te : DTE} {f : Str} {pos : Pos} (T : XfC F.K C) (hno : PySem.W.findIn F.K (.ref C) f = some none) (he : DE (F.su a (.ref C) (some dd)) W e te) (hb : ∀ i, attributeBase e f ((F.su a (.ref C) (some dd)).X i).env (eval e ((F.su a (.ref C) (some dd)).X i).env) = eval e ((F.su a (.ref C) (some dd)).X i).env := by intro _; rfl) :
    DE (F.su a (.ref C) (some dd)) W (.Attribute e f pos) (dXe a dd f te) := de_xf T hno he hb
def tsOnly (C : Addr) (t : Addr → Addr → DTS) (a : Addr) (x : Exc) : Option Addr → DTS
  | some dd => if x.C = C then t a dd else fun _ _ _ => False
  | none => fun _ _ _ => False
/-- a suite that takes errors of one class with fields alone -/
theorem su_only {F : Fam} {sts : List Stmt} {C : Addr} {t : Addr → Addr → DTS} (h : ∀ a dd, DSs (F.su a (.ref C) (some dd)) W0 sts (t a dd)) (a : Addr) (x : Exc) (d : Option Addr) : DSs (F.su a (.ref x.C) d) W0 sts (tsOnly C t a x d) := by
  cases d with
  | none => exact dss_no
  | some dd =>
    by_cases e : x.C = C
    · have := h a dd
      rw [← e] at this
      have e2 : tsOnly C t a x (some dd) = t a dd := if_pos e
      rw [e2]
      exact this
    · have e2 : tsOnly C t a x (some dd) = fun _ _ _ => False := if_neg e
      rw [e2]
      exact dss_no
def emOne (c C : Addr) : Option Bool := if C = c then some true else none
theorem em_one {K : PySem.W.Frag} {c : Addr} (h : PySem.W.exmOne K (.ref c) (.ref c) = some true) : ∀ C b, emOne c C = some b → PySem.W.exmOne K (.ref C) (.ref c) = some b := fun C b e => by
  unfold emOne at e
  by_cases q : C = c
  · rw [if_pos q] at e
    cases e
    rw [q]; exact h
  · rw [if_neg q] at e
    cases e
def ktOne (c : Addr) : D → Option Bool
  | .ty n => if n = "ValueError" then some true else none
  | .cls C => if C = c then some true else none
  | _ => none
theorem kit_one {K : PySem.W.Frag} {c C : Addr} (h1 : PySem.W.kitOne K (.ref C) (.type "ValueError") = some true) (h2 : PySem.W.kitOne K (.ref C) (.ref c) = some true) : KitOf K C (ktOne c) := fun x b e => by
  cases x with
  | ty n =>
    have e : (if n = "ValueError" then some true else none) = some b := e
    by_cases q : n = "ValueError"
    · rw [if_pos q] at e; cases e; exact .inl ⟨n, rfl, by rw [q]; exact h1⟩
    · rw [if_neg q] at e; cases e
  | cls D =>
    have e : (if D = c then some true else none) = some b := e
    by_cases q : D = c
    · rw [if_pos q] at e; cases e; exact .inr ⟨D, rfl, by rw [q]; exact h2⟩
    · rw [if_neg q] at e; cases e
  | _ => cases e
theorem tr_tk {F : Fam} {W : WX} (j : (F.tr W).ι) : Takes ((F.tr W).X j) W := j.2.2.2.1
theorem tr_hp {F : Fam} {W : WX} (j : (F.tr W).ι) : PassesOwn (model ((F.tr W).X j).prog ((F.tr W).X j).w) ((F.tr W).X j).A ((F.tr W).X j).env ((F.tr W).X j).xe := j.2.2.2.2
theorem s_only {C : Addr} {t : Addr → Addr → DTS} {a dd : Addr} {fs : Option (List (Str × D))} {D' : DEnds} {ρ : Rho} {S : Store} (h : t a dd D' ρ S) : tsOnly C t a ⟨C, fs⟩ (some dd) D' ρ S := by
  have e : tsOnly C t a ⟨C, fs⟩ (some dd) = t a dd := if_pos rfl
  rw [e]; exact h
theorem c_xe {a dd : Addr} {f : Str} {te : DTE} {ρ : Rho} {S : Store} {Q : QD} {E : XQ} (h : te ρ S (fun v S1 => oXe a dd f v S1 Q) E) : dXe a dd f te ρ S Q E := h
theorem o_xe {a dd : Addr} {f : Str} {ks : List Str} {xs : List D} {u : D} {S : Store} {Q : QD} (e : (ks.zip xs).lookup f = some u) (h : Q u S) : oXe a dd f (.exo a dd ks xs) S Q := ⟨ks, xs, u, rfl, e, h⟩
end Dy
namespace Dy
open PySem PySem.Spec PyProof.Rows L2
/-- data of tuples, at most n deep -/
def okD : Nat → D → Bool
  | _, .non => true
  | _, .bl _ => true
  | _, .int _ => true
  | _, .str _ => true
  | n + 1, .tup xs => xs.all (okD n)
  | _, _ => false
mutual
theorem py_ok : ∀ (n : Nat) (d : D), okD n d = true → ∃ p, pyD d = some p ∧ p.depth ≤ n ∧ p.plain = true
  | n, .non, _ => ⟨.none, by rw [pyD], by rw [PyData.depth] <;> first | omega | (intros; contradiction), rfl⟩
  | n, .bl b, _ => ⟨.bool b, by rw [pyD], by rw [PyData.depth] <;> first | omega | (intros; contradiction), rfl⟩
  | n, .int b, _ => ⟨.int b, by rw [pyD], by rw [PyData.depth] <;> first | omega | (intros; contradiction), rfl⟩
  | n, .str b, _ => ⟨.str b, by rw [pyD], by rw [PyData.depth] <;> first | omega | (intros; contradiction), rfl⟩
  | n + 1, .tup xs, h => by
    obtain ⟨ps, e, hd, hp⟩ := pys_ok n xs (by unfold okD at h; exact h)
    exact ⟨.tuple ps, by rw [pyD, e]; rfl, by rw [PyData.depth]; omega, by rw [PyData.plain]; exact hp⟩
  | 0, .tup _, h => by unfold okD at h; cases h
  | _, .lst _, h => by unfold okD at h; cases h
  | _, .frz _, h => by unfold okD at h; cases h
  | _, .dic _ _, h => by unfold okD at h; cases h
  | _, .ref _, h => by unfold okD at h; cases h
  | _, .ty _, h => by unfold okD at h; cases h
  | _, .cls _, h => by unfold okD at h; cases h
  | _, .exo _ _ _ _, h => by unfold okD at h; cases h
theorem pys_ok : ∀ (n : Nat) (xs : List D), xs.all (okD n) = true → ∃ ps, pyDs xs = some ps ∧ PyData.depthAll ps ≤ n ∧ PyData.plainAll ps = true
  | n, [], _ => ⟨[], by rw [pyDs], by rw [PyData.depthAll]; omega, by rw [PyData.plainAll]⟩
  | n, x :: xs, h => by
    rw [List.all_cons, Bool.and_eq_true] at h
    obtain ⟨p, e1, h1, h2⟩ := py_ok n x h.1
    obtain ⟨ps, e3, h3, h4⟩ := pys_ok n xs h.2
    exact ⟨p :: ps, by rw [pyDs, e1, e3]; rfl, by rw [PyData.depthAll]; omega, by rw [PyData.plainAll, h2, h4]; rfl⟩
end
/-- two tuples of like data are like -/
theorem o_eqT {S : Store} {Q : QD} {neg : Bool} {xs : List D} {n : Nat} (h : okD n (.tup xs) = true) (hn : n ≤ 60) (k : Q (.bl (neg ^^ true)) S) : dEqN neg (.tup xs) (.tup xs) S Q := by
  obtain ⟨p, e, hd, hp⟩ := py_ok n _ h
  show ∃ d e, pyS S (.tup xs) = some d ∧ pyS S (.tup xs) = some e ∧ min d.depth e.depth ≤ 60 ∧ Q (.bl (neg ^^ PyData.eqv d e)) S
  exact ⟨p, p, e, e, by omega, by rw [PySem.SeqAt.eqv_refl_plain p hp]; exact k⟩
/-- a comprehension whose items change the store: R holds of it, p of the items -/
theorem o_lcP {ρ : Rho} {S : Store} {Q : QD} {te : DTE} {i : Nat} {xs : List D} {live : Store → Prop} (R : Store → Prop) (p : D → Prop) (hl : ∀ S', R S' → live S') (h0 : R S) (hz : xs.length ≤ sizeLine)
    (he : ∀ x ∈ xs, ∀ S', R S' → ∀ P : QD, (∀ y S2, p y → R S2 → P y S2) → te (ρ.set i (some x)) S' P noX) (h : ∀ ys S', R S' → ys.length = xs.length → (∀ y ∈ ys, p y) → Q (.lst ys) S') : dLcK (c1 i) dYes te ρ Q xs live S := by
  refine ⟨fun k acc S' => R S' ∧ acc.length = k ∧ ∀ y ∈ acc, p y, ⟨h0, rfl, by simp⟩, fun k acc S' _ hh => hl S' hh.1, fun k x acc S' hx hh => ?_, fun acc S' hh => h acc S' hh.1 hh.2.1 hh.2.2⟩
  obtain ⟨hR, ha, hp⟩ := hh
  have m := List.mem_of_getElem? hx
  have hk : k < xs.length := (List.getElem?_eq_some_iff.mp hx).1
  show if true = true then te (ρ.set i (some x)) S' (fun y S3 => acc.length < sizeLine ∧ (R S3 ∧ (acc ++ [y]).length = k + 1 ∧ ∀ z ∈ acc ++ [y], p z)) noX else (R S' ∧ acc.length = k + 1 ∧ ∀ z ∈ acc, p z)
  rw [if_pos rfl]
  refine he x m S' hR _ fun y S2 py R2 => ⟨by omega, R2, by simp [ha], fun z mz => ?_⟩
  rcases List.mem_append.mp mz with mz | mz
  · exact hp z mz
  · rw [List.mem_singleton.mp mz]; exact py
theorem rng_len {lo : Int} {n : Nat} : (rngD lo n).length = n := by unfold rngD; simp
end Dy
namespace Dy
open PySem PySem.Spec PyProof.Rows L2
/-- the law's own promise -/
def spLaw : DSp := fun ds S Q E => ∃ ns : List Int, ds = [.frz (ns.map .int)] ∧ S = [] ∧ ∀ S', Q (.bl true) S'
theorem rds_ints {K : PySem.W.Frag} {φ : Al} {H : Hp} : ∀ ns : List Int, RDs K φ H (ns.map D.int) (ns.map V.int)
  | [] => by rw [List.map_nil, List.map_nil, RDs]
  | n :: ns => by rw [List.map_cons, List.map_cons, RDs]; exact ⟨_, _, rfl, by rw [RD], rds_ints ns⟩
theorem law_starts {K : PySem.W.Frag} {H : Hp} {a : Addr} {ns : List Int} (o : Only H) (h : SqL K H a (ns.map V.int)) : liftSp K spLaw [V.ref a] H (fun v _ => v = .bl true) fun _ _ _ => False := by
  have hf : FrF K H a (ns.map V.int) := by
    rcases h with (h | ⟨p, h⟩) | h
    · rcases o a with e | ⟨p, xs, e⟩
      · rw [e] at h; cases h
      · rw [e] at h; cases h
    · exact .inl ⟨p, h⟩
    · exact .inr (.inr h)
  refine ⟨⟨[], []⟩, [], [.frz (ns.map .int)], fun d _ => d = .bl true, fun _ _ => False, ⟨List.nodup_nil, rfl, fun n a o h => by simp at h, (fun a h => nomatch h), (fun a h => nomatch h)⟩, ?_, ⟨ns, rfl, rfl, fun _ => rfl⟩, ?_, ?_⟩
  · rw [RDs]
    exact ⟨_, _, rfl, by rw [RD]; exact ⟨a, _, rfl, hf, rds_ints ns⟩, by rw [RDs]⟩
  · intro φ' H' S' d v s r rd e
    cases e
    rw [RD] at rd
    exact rd
  · intro φ' H' S' x cls d s r xr z
    exact z.elim
theorem dy_walk {l : PySem.W.OpenLaw} {k : Nat} {q : Program} {loose : List Str} {XP : (Str → Option Value) → Heap → Prop} {YP : World → Heap → Prop} {d : DefRec} {K : Params → PySem.W.Frag} (hn : l.most = some 63) (hdf : d.params.defaults = []) (hr : Room k PySem.callerA)
    (hY : ∀ (w : World) (h : Heap), YP w h → (K w.params).In h)
    (F : ∀ (w : World) (mg : Str → Option Value) (fa : Addr) (h : Heap), (K w.params).In h → h.Ns mainGlobals mg → mg d.name = some (.ref fa) →
      ∃ fd : FuncData, (∀ (s : Shared) (u : Value), BindsTo s fd ⟨[u], []⟩ [("script", u)]) ∧ ∀ base : Heap, (K w.params).In base → base.Ns mainGlobals mg → FnOk l.prog w (K w.params) mg base (L2.CX l.prog w) k fa fd ["script"] (liftSp (K w.params) spLaw)) :
    PySem.W.WalkO q loose XP YP l.row.toRowW d [] (fun f vs => PySem.call f vs) :=
  L2.walk_of (n := 63) (x := "script") (CX := fun w => L2.CX l.prog w) (sp := fun w => liftSp (K w.params) spLaw) hn (by decide) hdf hr hY F (fun _ _ a ns hl o h => law_starts o h) fun _ _ _ _ _ z => by
    obtain ⟨_, _, _, _, _, _, _, _, _, _, _, _, z⟩ := z
    exact z
/-- an error of the class at S is what «except S» names -/
theorem exm_self {K : PySem.W.Frag} {S : Addr} (h1 : PySem.W.subIn K (.ref S) (.type "BaseException") = some true) (h2 : PySem.W.isClsIn K S = true) (h3 : PySem.W.typeIn K (.ref S) = some (.type "type")) (h4 : PySem.W.subIn K (.ref S) (.ref S) = some true) : PySem.W.exmOne K (.ref S) (.ref S) = some true := by
  have e1 : (PySem.W.subIn K (.ref S) (.type "BaseException") == some true) = true := by rw [h1]; rfl
  have e2 : ((PySem.W.clsIn K S).isSome && PySem.W.typeIn K (.ref S) == some (.type "type")) = true := by
    have h2' : (PySem.W.clsIn K S).isSome = true := h2
    rw [h2', h3]; rfl
  unfold PySem.W.exmOne
  rw [if_pos e1]
  unfold PySem.W.kitCls
  exact (if_pos e2).trans h4
theorem kit_ty_of {K : PySem.W.Frag} {C : Addr} (h : PySem.W.subIn K (.ref C) (.type "ValueError") = some true) : PySem.W.kitOne K (.ref C) (.type "ValueError") = some true := by
  unfold PySem.W.kitOne
  have q : (Value.ref C == Value.type "ValueError") = false := by rfl
  rw [q, if_neg Bool.false_ne_true]
  unfold PySem.W.kitCls
  exact (if_pos (by decide +kernel)).trans h
theorem kit_cls_of {K : PySem.W.Frag} {C D : Addr} (h2 : PySem.W.isClsIn K D = true) (h3 : PySem.W.typeIn K (.ref D) = some (.type "type")) (h : PySem.W.subIn K (.ref C) (.ref D) = some true) : PySem.W.kitOne K (.ref C) (.ref D) = some true := by
  unfold PySem.W.kitOne
  by_cases q : ((Value.ref C == Value.ref D) = true)
  · rw [if_pos q]
  · rw [if_neg q]
    unfold PySem.W.kitCls
    have e2 : ((PySem.W.clsIn K D).isSome && PySem.W.typeIn K (.ref D) == some (.type "type")) = true := by
      have h2' : (PySem.W.clsIn K D).isSome = true := h2
      rw [h2', h3]; rfl
    exact (if_pos e2).trans h
end Dy
/-! x.bit_length() -/
namespace Dy
open PySem PySem.Spec PyProof.Rows L2
def dBits (to : DTE) : DTE := fun ρ S Q E => to ρ S (fun d S1 => ∃ i, d = .int i ∧ Q (.int (Builtin.Int.intBits i : Nat)) S1) E
theorem de_bits {F : Fam} {W : WX} {o : Expr} {to : DTE} {apos pos : Pos} (ho : DE F W o to) (hbase : ∀ i, attributeBase o "bit_length" (F.X i).env (eval o (F.X i).env) = eval o (F.X i).env := by intro _; rfl) (hline : (apos.endLine == pos.line) = true := by rfl) : DE F W (.Call (.Attribute o "bit_length" apos) [] [] pos) (dBits to) := by
  obtain ⟨t1, p1, k1⟩ := ho
  refine ⟨_, fun i => pe_bits (p1 i) (hbase i) hline, fun σ ρ φ S H E Q' Q o q h => ?_⟩
  refine k1 σ ρ φ S H E _ _ o (fun φ1 H1 S1 d v s1 r1 rd h1 => ?_) h
  obtain ⟨i, rfl, h1⟩ := h1
  rw [RD] at rd; subst rd
  exact ⟨i, rfl, q φ1 H1 S1 _ _ s1 r1 rd_int h1⟩
theorem c_bits {to : DTE} {ρ : Rho} {S : Store} {Q : QD} {E : XQ} (h : to ρ S (fun d S1 => ∃ i, d = .int i ∧ Q (.int (Builtin.Int.intBits i : Nat)) S1) E) : dBits to ρ S Q E := h
theorem bits_le {m n : Nat} (h : m < 2 ^ n) : Builtin.Int.intBits (m : Int) ≤ n := PyProof.Rows.intBits_le (a := (m : Int)) (by simpa using h)
theorem bit_lt {m k : Nat} (h : m.testBit k = true) : k < Builtin.Int.intBits (m : Int) := by
  unfold Builtin.Int.intBits
  have h0 : m ≠ 0 := by
    rintro rfl
    simp at h
  rw [if_neg (by simpa using (show (m : Int) ≠ 0 by omega))]
  have e : ((m : Int)).natAbs = m := rfl
  rw [e]
  rcases Nat.lt_or_ge k (m.log2 + 1) with q | q
  · exact q
  · have l1 : m < 2 ^ (m.log2 + 1) := Nat.lt_log2_self
    have l2 : 2 ^ (m.log2 + 1) ≤ 2 ^ k := Nat.pow_le_pow_right (by decide) q
    have := Nat.testBit_lt_two_pow (Nat.lt_of_lt_of_le l1 l2)
    rw [this] at h
    cases h
end Dy
/-! dicts of ints and texts -/
namespace Dy
open PySem PySem.Spec PyProof.Rows L2
abbrev KVD := List (Key × D)
def valD (kvs : KVD) (k : Key) : Option D := (kvs.find? fun kv => decide (kv.1 = k)).map (·.2)
def dputK (kvs : KVD) (k : Key) (d : D) : KVD := if (kvs.any fun kv => decide (kv.1 = k)) = true then kvs.map (fun kv => if kv.1 = k then (kv.1, d) else kv) else kvs ++ [(k, d)]
def ddropK (kvs : KVD) (k : Key) : KVD := kvs.filter fun kv => decide (kv.1 ≠ k)
def dvOf (S : Store) : D → Option KVD
  | .dic ks xs => some (ks.zip xs)
  | .ref n => match S[n]? with
    | some (.dK kvs) => some kvs
    | _ => none
  | _ => none
def kyOf : D → Option Key
  | .int i => some (.inl i)
  | .str s => some (.inr s)
  | _ => none
def kyD : Key → D
  | .inl i => .int i
  | .inr s => .str s
section
variable {K : PySem.W.Frag} {φ : Al} {H : Hp} {S : Store}
theorem rk_nil {ws : List (Key × V)} (h : RK K φ H ([] : KVD) ws) : ws = [] := by
  have := h.1
  cases ws with
  | nil => rfl
  | cons w ws => cases this
theorem rk_cons {p : Key × D} {kvs : KVD} {ws : List (Key × V)} (h : RK K φ H (p :: kvs) ws) : ∃ v ws', ws = (p.1, v) :: ws' ∧ RD K φ H p.2 v ∧ RK K φ H kvs ws' := by
  obtain ⟨h1, h2⟩ := h
  cases ws with
  | nil => cases h1
  | cons w ws =>
    rw [List.map_cons, List.map_cons] at h1 h2
    rw [RDs] at h2
    obtain ⟨v, r, e, r1, r2⟩ := h2
    obtain ⟨e1, e2⟩ := List.cons.inj e
    obtain ⟨e3, e4⟩ := List.cons.inj h1
    refine ⟨w.2, ws, by rw [e3], by rw [e1]; exact r1, e4, ?_⟩
    rw [e2]; exact r2
theorem rk_mk_nil : RK K φ H ([] : KVD) ([] : List (Key × V)) := ⟨rfl, .nil⟩
theorem rk_mk {k : Key} {d : D} {v : V} {kvs : KVD} {ws : List (Key × V)} (h : RD K φ H d v) (r : RK K φ H kvs ws) : RK K φ H ((k, d) :: kvs) ((k, v) :: ws) := by
  refine ⟨?_, ?_⟩
  · rw [List.map_cons, List.map_cons, r.1]
  · rw [List.map_cons, List.map_cons]; exact .cons h r.2
theorem rk_len {kvs : KVD} {ws : List (Key × V)} (h : RK K φ H kvs ws) : ws.length = kvs.length := by
  have := congrArg List.length h.1
  simpa using this.symm
theorem rk_val {k : Key} : ∀ {kvs : KVD} {ws : List (Key × V)}, RK K φ H kvs ws → (∀ d, valD kvs k = some d → ∃ v, valV ws k = some v ∧ RD K φ H d v) ∧ (valD kvs k).isSome = (valV ws k).isSome
  | [], ws, h => by
    cases rk_nil h
    exact ⟨(fun d e => by cases e), rfl⟩
  | p :: kvs, ws, h => by
    obtain ⟨v, ws', rfl, r1, r2⟩ := rk_cons h
    by_cases e : p.1 = k
    · have e1 : valD (p :: kvs) k = some p.2 := by simp [valD, List.find?_cons, e]
      have e2 : valV ((p.1, v) :: ws') k = some v := valV_pos (p := (p.1, v)) e
      rw [e1, e2]
      exact ⟨(fun d q => by cases q; exact ⟨v, rfl, r1⟩), rfl⟩
    · have e1 : valD (p :: kvs) k = valD kvs k := by simp [valD, List.find?_cons, e]
      have e2 : valV ((p.1, v) :: ws') k = valV ws' k := valV_neg (p := (p.1, v)) e
      rw [e1, e2]
      exact rk_val r2
theorem rk_any {k : Key} {kvs : KVD} {ws : List (Key × V)} (h : RK K φ H kvs ws) : (kvs.any fun kv => decide (kv.1 = k)) = ws.any fun kv => decide (kv.1 = k) := by
  have e1 : (kvs.any fun kv => decide (kv.1 = k)) = (kvs.map (·.1)).any fun x => decide (x = k) := by rw [List.any_map]; rfl
  have e2 : (ws.any fun kv => decide (kv.1 = k)) = (ws.map (·.1)).any fun x => decide (x = k) := by rw [List.any_map]; rfl
  rw [e1, e2, h.1]
theorem rk_repl {k : Key} {d : D} {v : V} (hd : RD K φ H d v) : ∀ {kvs : KVD} {ws : List (Key × V)}, RK K φ H kvs ws → RK K φ H (kvs.map fun kv => if kv.1 = k then (kv.1, d) else kv) (ws.map fun kv => if kv.1 = k then (kv.1, v) else kv)
  | [], ws, h => by cases rk_nil h; exact rk_mk_nil
  | p :: kvs, ws, h => by
    obtain ⟨u, ws', rfl, r1, r2⟩ := rk_cons h
    rw [List.map_cons, List.map_cons]
    by_cases e : p.1 = k
    · rw [if_pos e, if_pos e]; exact rk_mk hd (rk_repl hd r2)
    · rw [if_neg e, if_neg e]; exact rk_mk r1 (rk_repl hd r2)
theorem rk_snoc {k : Key} {d : D} {v : V} (hd : RD K φ H d v) : ∀ {kvs : KVD} {ws : List (Key × V)}, RK K φ H kvs ws → RK K φ H (kvs ++ [(k, d)]) (ws ++ [(k, v)])
  | [], ws, h => by cases rk_nil h; exact rk_mk hd rk_mk_nil
  | p :: kvs, ws, h => by
    obtain ⟨u, ws', rfl, r1, r2⟩ := rk_cons h
    exact rk_mk r1 (rk_snoc hd r2)
theorem rk_put {k : Key} {d : D} {v : V} {kvs : KVD} {ws : List (Key × V)} (h : RK K φ H kvs ws) (hd : RD K φ H d v) : RK K φ H (dputK kvs k d) (L2.putK ws k v) := by
  unfold dputK L2.putK
  rw [rk_any h]
  by_cases e : (ws.any fun kv => decide (kv.1 = k)) = true
  · rw [if_pos e, if_pos e]; exact rk_repl hd h
  · rw [if_neg e, if_neg e]; exact rk_snoc hd h
theorem rk_drop {k : Key} : ∀ {kvs : KVD} {ws : List (Key × V)}, RK K φ H kvs ws → RK K φ H (ddropK kvs k) (L2.dropK ws k)
  | [], ws, h => by cases rk_nil h; exact rk_mk_nil
  | p :: kvs, ws, h => by
    obtain ⟨u, ws', rfl, r1, r2⟩ := rk_cons h
    have ih := rk_drop (k := k) r2
    unfold ddropK L2.dropK at ih ⊢
    by_cases e : p.1 = k
    · rw [List.filter_cons_of_neg (by simpa using e), List.filter_cons_of_neg (by simpa using e)]; exact ih
    · rw [List.filter_cons_of_pos (by simpa using e), List.filter_cons_of_pos (by simpa using e)]; exact rk_mk r1 ih
theorem rk_zip : ∀ {ks : List Key} {xs : List D} {vs : List V}, ks.length = vs.length → RDs K φ H xs vs → RK K φ H (ks.zip xs) (ks.zip vs)
  | [], xs, vs, e, h => rk_mk_nil
  | k :: ks, [], vs, e, h => by
    have := h.length
    cases vs with
    | nil => cases e
    | cons v vs => cases this
  | k :: ks, x :: xs, vs, e, h => by
    rw [RDs] at h
    obtain ⟨v, r, rfl, r1, r2⟩ := h
    exact rk_mk r1 (rk_zip (by simpa using e) r2)
theorem dv_of {d : D} {v : V} {kvs : KVD} (r : SR K φ S H) (rd : RD K φ H d v) (e : dvOf S d = some kvs) : ∃ a ws, v = .ref a ∧ H a = some (.dK ws) ∧ RK K φ H kvs ws := by
  cases d with
  | dic ks xs =>
    rw [RD] at rd
    obtain ⟨a, vs, rfl, h1, h2, h3⟩ := rd
    cases e
    exact ⟨a, _, rfl, h1.1, rk_zip h2 h3⟩
  | ref n =>
    obtain ⟨a, rfl, ha⟩ := rd_ref rd
    simp only [dvOf] at e
    split at e
    · rename_i q hq
      cases e
      obtain ⟨ws, h1, h2⟩ := r.at_ n a _ ha hq
      exact ⟨a, ws, rfl, h1, h2⟩
    · cases e
  | _ => cases e
theorem ky_rd {d : D} {v : V} {k : Key} (rd : RD K φ H d v) (e : kyOf d = some k) : v = kV k := by
  cases d with
  | int i => rw [RD] at rd; cases e; exact rd
  | str i => rw [RD] at rd; cases e; exact rd
  | _ => cases e
theorem rd_ky {k : Key} : RD K φ H (kyD k) (kV k) := by
  cases k <;> (unfold kyD; rw [RD]; rfl)
end
/-! ### d[k], k in d -/
def dDGet : D2 := fun x y S Q => ∃ kvs k v, dvOf S x = some kvs ∧ kyOf y = some k ∧ valD kvs k = some v ∧ Q v S
section
variable {F : Fam} {W : WX} {o i e value : Expr} {td ty tv : DTE} {pos pos' apos cpos : Pos} {k : Nat}
theorem de_dget (hr : ∀ i, Room k (F.X i).A) (ho : DE F W o td) (hi : DE F W i ty) (hs : NoSl i := by intro _ _; rfl) : DE F W (.Subscript o i pos) (dOp dDGet td ty) := by
  obtain ⟨t1, p1, k1⟩ := ho
  obtain ⟨t2, p2, k2⟩ := hi
  refine ⟨_, fun j => pe_dget (by have := (hr j).units; omega) (p1 j) (p2 j) hs, fun σ ρ φ S H E Q' Q o q h => ?_⟩
  refine k1 σ ρ φ S H E _ _ o (fun φ1 H1 S1 d1 v1 s1 r1 rd1 h1 => ?_) h
  refine k2 σ ρ φ1 S1 H1 E _ _ (o.mono s1 r1) (fun φ2 H2 S2 d2 v2 s2 r2 rd2 h2 => ?_) h1
  obtain ⟨kvs, ky, v, e1, e2, e3, h3⟩ := h2
  obtain ⟨a, ws, rfl, g1, g2⟩ := dv_of r2 (RD.mono s2 r1.muts _ _ rd1) e1
  cases ky_rd rd2 e2
  obtain ⟨u, g3, g4⟩ := (rk_val g2).1 _ e3
  exact ⟨a, u, rfl, g3 ▸ DGet.k g1, q φ2 H2 S2 _ _ (s1.trans s2) r2 g4 h3⟩
/-- k in d, k not in d -/
def rDIn (neg : Bool) : R2 := fun y x H Q => ∃ a o, x = .ref a ∧ DGet H a y o ∧ Q (.bl (neg ^^ o.isSome)) H
theorem op_dIn {X : Cx} (hu : X.A.units + 64 < cLine) : OpR X (compareOp .In) (rDIn false) := by
  rintro pins s σ H y x v u Q I ry rx ⟨a, o, rfl, g, q⟩
  cases (show u = Value.ref a from rx)
  exact d_in (by omega) I g ry fun s' I' => ⟨.bl o.isSome, H, I', rfl, by rw [Bool.false_xor] at q; exact q⟩
theorem op_dNotIn {X : Cx} (hu : X.A.units + 64 < cLine) : OpR X (compareOp .NotIn) (rDIn true) := by
  rintro pins s σ H y x v u Q I ry rx ⟨a, o, rfl, g, q⟩
  cases (show u = Value.ref a from rx)
  exact d_notIn (by omega) I g ry fun s' I' => ⟨.bl (!o.isSome), H, I', rfl, by rw [Bool.true_xor] at q; exact q⟩
def dDIn (neg : Bool) : D2 := fun y x S Q => ∃ kvs k, dvOf S x = some kvs ∧ kyOf y = some k ∧ Q (.bl (neg ^^ (valD kvs k).isSome)) S
theorem lk_dIn {K : PySem.W.Frag} (neg : Bool) : Lk K (dDIn neg) (rDIn neg) := by
  rintro φ S H Q' Q y x v1 v2 r r1 r2 q ⟨kvs, ky, e1, e2, h⟩
  obtain ⟨a, ws, rfl, g1, g2⟩ := dv_of r r2 e1
  cases ky_rd r1 e2
  exact ⟨a, _, rfl, DGet.k g1, by rw [← (rk_val g2).2]; exact q φ H S _ _ .refl r rd_bl h⟩
theorem oq_dIn (hr : ∀ i, Room k (F.X i).A) (i : F.ι) : OpR (F.X i) (compareOp .In) (rDIn false) := op_dIn (hr i).units
theorem oq_dNotIn (hr : ∀ i, Room k (F.X i).A) (i : F.ι) : OpR (F.X i) (compareOp .NotIn) (rDIn true) := op_dNotIn (hr i).units
/-! ### d[k] = v, d[k] op= v, del d[k] -/
def oDPut (d o i : D) (R : Store → Prop) (S : Store) : Prop := ∃ n kvs k, o = .ref n ∧ S[n]? = some (.dK kvs) ∧ kyOf i = some k ∧ kvs.length < 1000 ∧ R (S.set n (.dK (dputK kvs k d)))
def dSetD (te to ti : DTE) : DTS := fun D ρ S => te ρ S (fun d S1 => to ρ S1 (fun o S2 => ti ρ S2 (fun i S3 => oDPut d o i (D.nx ρ) S3) (fun x S1 => D.ex x ρ S1)) (fun x S1 => D.ex x ρ S1)) (fun x S1 => D.ex x ρ S1)
theorem dput_rd {K : PySem.W.Frag} {φ : Al} {H : Hp} {S : Store} {d o i : D} {v x y : V} {R : Store → Prop} (r : SR K φ S H) (rd : RD K φ H d v) (ro : RD K φ H o x) (ri : RD K φ H i y) (h : oDPut d o i R S) :
    ∃ a H' S', x = .ref a ∧ DPut H a y v H' ∧ Step φ φ H H' ∧ SR K φ S' H' ∧ R S' := by
  obtain ⟨n, kvs, ky, rfl, e1, e2, hz, h⟩ := h
  obtain ⟨a, rfl, ha⟩ := rd_ref ro
  obtain ⟨ws, g1, g2⟩ := r.at_ n a _ ha e1
  cases ky_rd ri e2
  have st : Step φ φ H (upd H a (.dK (L2.putK ws ky v))) := r.step_put ha
  refine ⟨a, _, _, rfl, DPut.k g1 (by rw [rk_len g2]; exact Nat.lt_of_lt_of_le hz (small (by decide))), st, r.put ha (o := .dK (dputK kvs ky d)) ?_, h⟩
  exact ⟨_, upd_same, rk_put (RK.mono st r.muts g2) (RD.mono st r.muts _ _ rd)⟩
theorem ds_dput (hr : ∀ i, Room k (F.X i).A) (hv : DE F W value tv) (ho : DE F W o td) (hi : DE F W i ty) (hs : ∀ j, swapsWith value (some (.Subscript o i pos')) pos.line (F.X j).env = pure false := by intro _; rfl) :
    DS F W (.Assign [.Subscript o i pos'] value pos) (dSetD tv td ty) := by
  obtain ⟨t1, p1, k1⟩ := ho
  obtain ⟨t2, p2, k2⟩ := hi
  obtain ⟨t3, p3, k3⟩ := hv
  refine ⟨_, fun j => ps_dput (by have := (hr j).units; omega) (p1 j) (p2 j) (p3 j) (hs j), fun σ ρ φ S H D' D r sl l h => ?_⟩
  refine k3 σ ρ φ S H _ _ _ (l.ok r sl) (fun φ1 H1 S1 d v s1 r1 rd h1 => ?_) h
  have l1 := l.mono s1
  have sl1 := sl.mono s1 r.muts
  refine k1 σ ρ φ1 S1 H1 _ _ _ (l1.ok r1 sl1) (fun φ2 H2 S2 x vx s2 r2 rx h2 => ?_) h1
  have l2 := l1.mono s2
  have sl2 := sl1.mono s2 r1.muts
  refine k2 σ ρ φ2 S2 H2 _ _ _ (l2.ok r2 sl2) (fun φ3 H3 S3 y vy s3 r3 ry h3 => ?_) h2
  obtain ⟨a, H', S', e, g, st, r', hR⟩ := dput_rd r3 (RD.mono (s2.trans s3) r1.muts _ _ rd) (RD.mono s3 r2.muts _ _ rx) ry h3
  exact ⟨a, H', e, g, (l2.mono s3).nx φ3 H' S' ρ σ st r' ((sl2.mono s3 r2.muts).mono st r3.muts) hR⟩
end
end Dy
namespace Dy
open PySem PySem.Spec PyProof.Rows L2
/-! ### calls on dicts -/
section
variable {K : PySem.W.Frag}
def cLenD : DR := fun ds S Q => ∃ d kvs, ds = [d] ∧ dvOf S d = some kvs ∧ Q (.int kvs.length) S
def rLenD : List V → Hp → VK → Prop := fun xs H Q => ∃ a kvs, xs = [.ref a] ∧ H a = some (.dK kvs) ∧ Q (.int kvs.length) H
theorem cr_lenD {X : Cx} : CallR X (.builtin "len") rLenD := by
  rintro pins s σ H xs us Q I r ⟨a, kvs, rfl, e, q⟩
  obtain ⟨u, rfl, rx⟩ := vals1 r
  cases rx
  exact d_len I (.inl e) fun t s' I' => ⟨.int kvs.length, H, I', ⟨t, rfl⟩, q⟩
theorem lk_lenD : LkC K cLenD rLenD := by
  rintro φ S H Q' Q ds vs r rd q ⟨d, kvs, rfl, e, h⟩
  obtain ⟨v, rfl, h1⟩ := rds1 rd
  obtain ⟨a, ws, rfl, g1, g2⟩ := dv_of r h1 e
  exact ⟨a, ws, rfl, g1, by rw [rk_len g2]; exact q φ H S _ _ .refl r rd_int h⟩
def cListD : DR := fun ds S Q => ∃ d kvs, ds = [d] ∧ dvOf S d = some kvs ∧ Q (.lst (kvs.map fun kv => kyD kv.1)) S
theorem rds_keys {φ : Al} {H : Hp} : ∀ {kvs : KVD} {ws : List (Key × V)}, RK K φ H kvs ws → RDs K φ H (kvs.map fun kv => kyD kv.1) (ws.map fun kv => kV kv.1)
  | [], ws, h => by cases rk_nil h; exact .nil
  | p :: kvs, ws, h => by
    obtain ⟨v, ws', rfl, r1, r2⟩ := rk_cons h
    exact .cons rd_ky (rds_keys r2)
theorem lk_listD : LkC K cListD rListD := by
  rintro φ S H Q' Q ds vs r rd q ⟨d, kvs, rfl, e, h⟩
  obtain ⟨v, rfl, h1⟩ := rds1 rd
  obtain ⟨a, ws, rfl, g1, g2⟩ := dv_of r h1 e
  exact ⟨a, ws, rfl, g1, fun p hp => q.lst r hp (rds_keys g2) h⟩
/-- dict(d): a new one -/
def cDictD : DR := fun ds S Q => ∃ d kvs, ds = [d] ∧ dvOf S d = some kvs ∧ Q (.ref S.length) (S ++ [.dK kvs])
theorem EndV.newD {φ : Al} {H : Hp} {S : Store} {Q' : QD} {Q : VK} (q : EndV K φ H Q' Q) (r : SR K φ S H) {p : Addr} {kvs : KVD} {ws : List (Key × V)} (hp : H p = none) (rk : RK K φ H kvs ws) (h : Q' (.ref S.length) (S ++ [.dK kvs])) : Q (.ref p) (upd H p (.dK ws)) :=
  q (φ.push p) _ _ _ _ (step_push r hp) (r.push (o := .dK kvs) hp ⟨ws, upd_same, RK.mono (step_push r hp) r.muts rk⟩) (by rw [RD]; exact ⟨p, rfl, by rw [r.len]; simp⟩) h
theorem lk_dictD : LkC K cDictD (fun xs H Q => ∃ (a : Addr) (kvs : List (Key × V)), xs = [.ref a] ∧ Rd H a (.dK kvs) ∧ ∀ p, H p = none → Q (.ref p) (upd H p (.dK kvs))) := by
  rintro φ S H Q' Q ds vs r rd q ⟨d, kvs, rfl, e, h⟩
  obtain ⟨v, rfl, h1⟩ := rds1 rd
  obtain ⟨a, ws, rfl, g1, g2⟩ := dv_of r h1 e
  exact ⟨a, ws, rfl, .inl g1, fun p hp => q.newD r hp g2 h⟩
/-! ### sorted ints -/
theorem ints_vs {φ : Al} {H : Hp} : ∀ {ns : List Int} {vs : List V}, RDs K φ H (ns.map D.int) vs → vs = ns.map V.int
  | [], vs, h => by rw [List.map_nil, RDs] at h; exact h
  | n :: ns, vs, h => by
    rw [List.map_cons, RDs] at h
    obtain ⟨v, r, rfl, h1, h2⟩ := h
    rw [RD] at h1
    rw [h1, ints_vs h2]; rfl
theorem ints_ds {φ : Al} {H : Hp} : ∀ {ns : List Int}, RDs K φ H (ns.map D.int) (ns.map V.int)
  | [] => by rw [List.map_nil, List.map_nil, RDs]
  | n :: ns => by rw [List.map_cons, List.map_cons]; exact .cons (by rw [RD]) ints_ds
def cSortI : DR := fun ds S Q => ∃ (d : D) (ns : List Int), ds = [d] ∧ lsOf S d = some (ns.map .int) ∧ ∀ ns' : List Int, ns'.Perm ns → ns'.Pairwise (· ≤ ·) → Q (.lst (ns'.map .int)) S
theorem lk_sortI : LkC K cSortI (rSortedI K) := by
  rintro φ S H Q' Q ds vs r rd q ⟨d, ns, rfl, e, h⟩
  obtain ⟨v, rfl, h1⟩ := rds1 rd
  obtain ⟨a, ws, rfl, h2, h3⟩ := ls_of r h1 e
  cases ints_vs h3
  exact ⟨a, ns, rfl, h2, fun ns' p g1 g2 hp => q.lst r hp ints_ds (h ns' g1 g2)⟩
/-- sorted(d), the keys ints -/
def cSortD : DR := fun ds S Q => ∃ (d : D) (kvs : KVD) (ns : List Int), ds = [d] ∧ dvOf S d = some kvs ∧ kvs.map (·.1) = ns.map Sum.inl ∧ ns.length < 64 ∧ ∀ ns' : List Int, ns'.Perm ns → ns'.Pairwise (· ≤ ·) → Q (.lst (ns'.map .int)) S
theorem lk_sortD : LkC K cSortD (fun xs H Q => ∃ (a : Addr) (kvs : List (Key × V)) (ks : List Int), xs = [.ref a] ∧ Rd H a (.dK kvs) ∧ kvs.map (·.1) = ks.map Sum.inl ∧ ks.length < 64 ∧
    ∀ (ys : List Int) (p : Addr), ys.Perm ks → ys.Pairwise (· ≤ ·) → H p = none → Q (.ref p) (upd H p (.lst (ys.map V.int)))) := by
  rintro φ S H Q' Q ds vs r rd q ⟨d, kvs, ns, rfl, e, ek, hz, h⟩
  obtain ⟨v, rfl, h1⟩ := rds1 rd
  obtain ⟨a, ws, rfl, g1, g2⟩ := dv_of r h1 e
  exact ⟨a, ws, ns, rfl, .inl g1, by rw [← g2.1]; exact ek, hz, fun ns' p p1 p2 hp => q.lst r hp ints_ds (h ns' p1 p2)⟩
end
theorem bt_sorted : bootBuiltins "sorted" = some (.builtin "sorted") := by decide +kernel
section
variable {F : Fam} {W : WX} {e : Expr} {t : DTA} {p pos : Pos}
theorem dc_lenD (hm : ∀ i, (F.X i).mg "len" = none) (ha : DA F W [e] t) (hg : ∀ i, Gl (F.X i) "len" := by intro _; rfl) (he : St1 F e [] := by intro _; rfl) (hp : Pl1 F pos [] := by intro _; rfl) : DE F W (.Call (.Name "len" p) [e] [] pos) (dCB cLenD t) := de_callB (fun i => cr_lenD) lk_lenD hg hm bt_len ha (he := he) (hpl := hp)
theorem dc_listD (hc : ∀ i, (F.X i).calm = true) (hm : ∀ i, (F.X i).mg "list" = none) (ha : DA F W [e] t) (hg : ∀ i, Gl (F.X i) "list" := by intro _; rfl) (he : St1 F e [] := by intro _; rfl) (hp : Pl1 F pos [] := by intro _; rfl) : DE F W (.Call (.Name "list" p) [e] [] pos) (dCB cListD t) := de_callTy (fun i => call_list_dK (hc i)) lk_listD hg hm bt_list ha (he := he) (hpl := hp)
theorem dc_dictD (hm : ∀ i, (F.X i).mg "dict" = none) (ha : DA F W [e] t) (hg : ∀ i, Gl (F.X i) "dict" := by intro _; rfl) (he : St1 F e [] := by intro _; rfl) (hp : Pl1 F pos [] := by intro _; rfl) : DE F W (.Call (.Name "dict" p) [e] [] pos) (dCB cDictD t) := de_callTy (fun i => call_dictD) lk_dictD hg hm bt_dict ha (he := he) (hpl := hp)
theorem dc_sortI (hm : ∀ i, (F.X i).mg "sorted" = none) (ha : DA F W [e] t) (hg : ∀ i, Gl (F.X i) "sorted" := by intro _; rfl) (he : St1 F e [] := by intro _; rfl) (hp : Pl1 F pos [] := by intro _; rfl) : DE F W (.Call (.Name "sorted" p) [e] [] pos) (dCB cSortI t) := de_callB (fun i => F.hK i ▸ cr_sortedI) lk_sortI hg hm bt_sorted ha (he := he) (hpl := hp)
theorem dc_sortD (hc : ∀ i, (F.X i).calm = true) (hm : ∀ i, (F.X i).mg "sorted" = none) (ha : DA F W [e] t) (hg : ∀ i, Gl (F.X i) "sorted" := by intro _; rfl) (he : St1 F e [] := by intro _; rfl) (hp : Pl1 F pos [] := by intro _; rfl) : DE F W (.Call (.Name "sorted" p) [e] [] pos) (dCB cSortD t) := de_callB (fun i => call_sortedDI (hc i)) lk_sortD hg hm bt_sorted ha (he := he) (hpl := hp)
end
end Dy
namespace Dy
open PySem PySem.Spec PyProof.Rows L2
/-! ### {k: v, ..} -/
def dPairs : List (DTE × DTE) → Rho → Store → (List (D × D) → Store → Prop) → XQ → Prop
  | [], _, S, Q, _ => Q [] S
  | (tk, tv) :: r, ρ, S, Q, E => tk ρ S (fun x S1 => tv ρ S1 (fun y S2 => dPairs r ρ S2 (fun ps S3 => Q ((x, y) :: ps) S3) E) E) E
def RP (K : PySem.W.Frag) (φ : Al) (H : Hp) (ps : List (D × D)) (vs : List (V × V)) : Prop := RDs K φ H (ps.map (·.1)) (vs.map (·.1)) ∧ RDs K φ H (ps.map (·.2)) (vs.map (·.2))
def DPs (F : Fam) (W : WX) (pos : Pos) (keys : List (Option Expr)) (values : List Expr) (trs' : List (DTE × DTE)) : Prop :=
  ∃ trs, (∀ i, PPs (F.X i) pos keys values trs) ∧ ∀ σ ρ φ S H E Q' Q, Ok F.K W σ ρ φ S H E → (∀ φ1 H1 S1 ps vs, Step φ φ1 H H1 → SR F.K φ1 S1 H1 → RP F.K φ1 H1 ps vs → Q' ps S1 → Q vs H1) → dPairs trs' ρ S Q' E → tPairs trs σ H Q
section
variable {F : Fam} {W : WX} {pos : Pos} {k v : Expr} {ks : List (Option Expr)} {vs : List Expr} {tk tv : DTE} {trs : List (DTE × DTE)}
theorem dps_nil : DPs F W pos [] [] [] := ⟨[], fun _ => pps_nil, fun σ ρ φ S H E Q' Q o q h => q φ H S [] [] .refl o.sr ⟨.nil, .nil⟩ h⟩
theorem dps_cons (hk : DE F W k tk) (hv : DE F W v tv) (hr : DPs F W pos ks vs trs) : DPs F W pos (some k :: ks) (v :: vs) ((tk, tv) :: trs) := by
  obtain ⟨t1, p1, k1⟩ := hk
  obtain ⟨t2, p2, k2⟩ := hv
  obtain ⟨t3, p3, k3⟩ := hr
  refine ⟨(t1, t2) :: t3, fun i => pps_cons (p1 i) (p2 i) (p3 i), fun σ ρ φ S H E Q' Q o q h => ?_⟩
  refine k1 σ ρ φ S H E _ _ o (fun φ1 H1 S1 x u s1 r1 rx h1 => ?_) h
  refine k2 σ ρ φ1 S1 H1 E _ _ (o.mono s1 r1) (fun φ2 H2 S2 y w s2 r2 ry h2 => ?_) h1
  refine k3 σ ρ φ2 S2 H2 E _ _ (o.mono (s1.trans s2) r2) (fun φ3 H3 S3 ps ws s3 r3 rp h3 => ?_) h2
  exact q φ3 H3 S3 ((x, y) :: ps) ((u, w) :: ws) ((s1.trans s2).trans s3) r3 ⟨.cons (RD.mono (s2.trans s3) r1.muts _ _ rx) rp.1, .cons (RD.mono s3 r2.muts _ _ ry) rp.2⟩ h3
end
def dmergeK (more : KVD) : KVD := more.foldl (fun acc kv => dputK acc kv.1 kv.2) []
section
variable {K : PySem.W.Frag} {φ : Al} {H : Hp}
theorem rk_fold : ∀ {more acc : KVD} {ws as : List (Key × V)}, RK K φ H more ws → RK K φ H acc as → RK K φ H (more.foldl (fun acc kv => dputK acc kv.1 kv.2) acc) (ws.foldl (fun acc kv => L2.putK acc kv.1 kv.2) as)
  | [], acc, ws, as, h, g => by cases rk_nil h; exact g
  | p :: more, acc, ws, as, h, g => by
    obtain ⟨v, ws', rfl, r1, r2⟩ := rk_cons h
    exact rk_fold (acc := dputK acc p.1 p.2) (as := L2.putK as p.1 v) r2 (rk_put g r1)
theorem ky_inj {d : D} {k : Key} {v : V} (h : RD K φ H (kyD k) v) : v = kV k := by
  cases k <;> (unfold kyD at h; rw [RD] at h; exact h)
theorem rp_kvs : ∀ {kvs : KVD} {vs : List (V × V)}, RP K φ H (kvs.map fun kv => (kyD kv.1, kv.2)) vs → ∃ ws : List (Key × V), vs = ws.map (fun kv => (kV kv.1, kv.2)) ∧ RK K φ H kvs ws
  | [], vs, h => by
    obtain ⟨h1, _⟩ := h
    rw [List.map_nil, List.map_nil, RDs] at h1
    have : vs = [] := List.map_eq_nil_iff.mp h1
    exact ⟨[], this, rk_mk_nil⟩
  | p :: kvs, vs, h => by
    obtain ⟨h1, h2⟩ := h
    cases vs with
    | nil =>
      rw [List.map_cons, List.map_cons, RDs] at h1
      obtain ⟨_, _, e, _⟩ := h1
      cases e
    | cons u vs =>
      rw [List.map_cons, List.map_cons, List.map_cons, RDs] at h1 h2
      obtain ⟨v1, r1, e1, a1, b1⟩ := h1
      obtain ⟨v2, r2, e2, a2, b2⟩ := h2
      obtain ⟨e3, e4⟩ := List.cons.inj e1
      obtain ⟨e5, e6⟩ := List.cons.inj e2
      obtain ⟨ws, ew, rw'⟩ := rp_kvs (kvs := kvs) (vs := vs) ⟨by rw [e4]; exact b1, by rw [e6]; exact b2⟩
      refine ⟨(p.1, u.2) :: ws, ?_, rk_mk (by rw [e5]; exact a2) rw'⟩
      rw [List.map_cons, ← ew]
      congr 1
      exact Prod.ext (by rw [e3]; exact ky_inj (d := p.2) a1) rfl
theorem zip_kv {κ : Type} : ∀ {kvs : List (κ × D)} {ws : List (κ × V)}, kvs.map (·.1) = ws.map (·.1) → (kvs.map (·.1)).zip (ws.map (·.2)) = ws
  | kvs, ws, h => by rw [h, zip_map]
end
/-- the end of a display: at p a dict, of nobody's yet -/
theorem disp_core {F : Fam} {W : WX} {σ : L2.St} {ρ : Rho} {φ : Al} {S : Store} {H : Hp} {E : XQ} {p : Addr} (o : Ok F.K W σ ρ φ S H E) (hp : H p = none) :
    Step φ ⟨φ.l, p :: φ.b⟩ H (upd H p (.dK [])) ∧ SR F.K ⟨φ.l, p :: φ.b⟩ S (upd H p (.dK [])) := by
  have st0 : Step φ ⟨φ.l, p :: φ.b⟩ H (upd H p (.dK [])) := ⟨⟨[], by simp⟩, fun a m n _ => by
    rcases List.mem_cons.mp m with m | m
    · rw [m]; exact hp
    · exact absurd m n, fun a m => List.mem_cons_of_mem _ m, fun a ob e _ => by
    have : a ≠ p := fun z => by rw [z, hp] at e; cases e
    rw [upd_ne this]; exact e, fun a m n => absurd m n⟩
  refine ⟨st0, o.sr.nd, o.sr.len, fun n a ob ha ho => (o.sr.at_ n a ob ha ho).moved st0.w o.sr.muts (upd_ne fun z => o.sr.out hp (z ▸ List.mem_of_getElem? ha)), fun a m => ?_, fun a m => ?_⟩
  · rcases List.mem_cons.mp m with m | m
    · rw [m]; exact .inr ⟨[], upd_same⟩
    · have ne : a ≠ p := fun z => o.sr.outb hp (z ▸ m)
      rw [upd_ne ne]; exact o.sr.mb a m
  · rcases List.mem_cons.mp m with m | m
    · rw [m]; exact o.sr.out hp
    · exact o.sr.db a m
section
variable {F : Fam} {W : WX} {pos : Pos} {ks : List (Option Expr)} {vs : List Expr} {trs : List (DTE × DTE)}
def dDisp (trs : List (DTE × DTE)) : DTE := fun ρ S Q E => dPairs trs ρ S (fun ps S1 => ∃ kvs : KVD, ps = kvs.map (fun kv => (kyD kv.1, kv.2)) ∧ kvs.length ≤ 15 ∧ Q (.dic ((dmergeK kvs).map (·.1)) ((dmergeK kvs).map (·.2))) S1) E
def dDispN (trs : List (DTE × DTE)) : DTE := fun ρ S Q E => dPairs trs ρ S (fun ps S1 => ∃ kvs : KVD, ps = kvs.map (fun kv => (kyD kv.1, kv.2)) ∧ kvs.length ≤ 15 ∧ Q (.ref S1.length) (S1 ++ [.dK (dmergeK kvs)])) E
theorem de_disp (h : DPs F W pos ks vs trs) (hall : ks.all (·.isSome) = true := by rfl) (hl : ks.length = vs.length := by rfl) (h0 : ks ≠ [] := by decide) (h15 : ks.length ≤ 15 := by decide) : DE F W (.Dict ks vs pos) (dDisp trs) := by
  obtain ⟨t1, p1, k1⟩ := h
  refine ⟨_, fun i => pe_disp (p1 i) hall hl h0 h15, fun σ ρ φ S H E Q' Q o q h p hp => ?_⟩
  obtain ⟨st0, rb⟩ := disp_core o hp
  refine k1 σ ρ _ S _ E _ _ (o.mono st0 rb) (fun φ1 H1 S1 ps us s1 r1 rp h1 => ?_) h
  obtain ⟨kvs, rfl, hz, h1⟩ := h1
  obtain ⟨ws, rfl, rk⟩ := rp_kvs rp
  have m1 : p ∈ φ1.b := s1.sub p List.mem_cons_self
  have n1 : p ∉ φ1.l := r1.db p m1
  refine ⟨s1.keep p _ upd_same (o.sr.out hp), ws, rfl, by rw [rk_len rk]; exact hz, ?_⟩
  have sw : StepW φ1 ⟨φ1.l, φ.b⟩ H1 (upd H1 p (.dK (L2.mergeK [] ws))) := ⟨⟨[], by simp⟩, fun a m n _ => absurd (s1.sub a (List.mem_cons_of_mem _ m)) n, fun a ob e _ nb => by
    have : a ≠ p := fun z => nb (z ▸ m1)
    rw [upd_ne this]; exact e, fun a m n _ => absurd m n⟩
  have rm : RK F.K φ1 H1 (dmergeK kvs) (L2.mergeK [] ws) := rk_fold rk rk_mk_nil
  refine q ⟨φ1.l, φ.b⟩ _ S1 _ _ ⟨s1.pre, fun a m n _ => absurd m n, fun a m => m, fun a ob e n => ?_, fun a m n => ?_⟩ ⟨r1.nd, r1.len, fun n a ob ha ho => (r1.at_ n a ob ha ho).moved sw r1.muts (upd_ne fun z => n1 (z ▸ List.mem_of_getElem? ha)), fun a m => ?_, fun a m => r1.db a (s1.sub a (List.mem_cons_of_mem _ m))⟩ ?_ h1
  · have ne : a ≠ p := fun z => by rw [z, hp] at e; cases e
    rw [upd_ne ne]
    exact s1.keep a ob (by rw [upd_ne ne]; exact e) n
  · have e := s1.new a m n
    have ne : a ≠ p := fun z => by rw [z, upd_same] at e; cases e
    rw [upd_ne ne] at e; exact e
  · have ne : a ≠ p := fun z => o.sr.outb hp (z ▸ m)
    rw [upd_ne ne]
    exact r1.mb a (s1.sub a (List.mem_cons_of_mem _ m))
  · rw [RD]
    have rm2 := RK.monoW sw r1.muts rm
    refine ⟨p, (L2.mergeK [] ws).map (·.2), rfl, ⟨?_, n1, o.sr.outb hp⟩, ?_, rm2.2⟩
    · rw [upd_same]
      show some (HO.dK (L2.mergeK [] ws)) = some (HO.dK (((dmergeK kvs).map (·.1)).zip _))
      rw [rm2.1, zip_map]
    · have := congrArg List.length rm2.1
      simpa using this
theorem de_dispN (h : DPs F W pos ks vs trs) (hall : ks.all (·.isSome) = true := by rfl) (hl : ks.length = vs.length := by rfl) (h0 : ks ≠ [] := by decide) (h15 : ks.length ≤ 15 := by decide) : DE F W (.Dict ks vs pos) (dDispN trs) := by
  obtain ⟨t1, p1, k1⟩ := h
  refine ⟨_, fun i => pe_disp (p1 i) hall hl h0 h15, fun σ ρ φ S H E Q' Q o q h p hp => ?_⟩
  obtain ⟨st0, rb⟩ := disp_core o hp
  refine k1 σ ρ _ S _ E _ _ (o.mono st0 rb) (fun φ1 H1 S1 ps us s1 r1 rp h1 => ?_) h
  obtain ⟨kvs, rfl, hz, h1⟩ := h1
  obtain ⟨ws, rfl, rk⟩ := rp_kvs rp
  have m1 : p ∈ φ1.b := s1.sub p List.mem_cons_self
  have n1 : p ∉ φ1.l := r1.db p m1
  refine ⟨s1.keep p _ upd_same (o.sr.out hp), ws, rfl, by rw [rk_len rk]; exact hz, ?_⟩
  have sw : StepW φ1 ⟨φ1.l ++ [p], φ.b⟩ H1 (upd H1 p (.dK (L2.mergeK [] ws))) := ⟨⟨[p], rfl⟩, fun a m n _ => absurd (s1.sub a (List.mem_cons_of_mem _ m)) n, fun a ob e _ nb => by
    have : a ≠ p := fun z => nb (z ▸ m1)
    rw [upd_ne this]; exact e, fun a m n nb => by
    rcases List.mem_append.mp m with m | m
    · exact absurd m n
    · rw [List.mem_singleton.mp m] at nb; exact absurd m1 nb⟩
  have rm : RK F.K φ1 H1 (dmergeK kvs) (L2.mergeK [] ws) := rk_fold rk rk_mk_nil
  refine q ⟨φ1.l ++ [p], φ.b⟩ _ (S1 ++ [.dK (dmergeK kvs)]) (.ref S1.length) (.ref p) ⟨?_, fun a m n _ => absurd m n, fun a m => m, fun a ob e n => ?_, fun a m n => ?_⟩ ⟨?_, by simp [r1.len], fun n a u ha hu => ?_, fun a m => ?_, fun a m z => ?_⟩ ?_ h1
  · obtain ⟨ψ, e⟩ := s1.pre
    exact ⟨ψ ++ [p], by show φ1.l ++ [p] = _; rw [e]; simp⟩
  · have ne : a ≠ p := fun z => by rw [z, hp] at e; cases e
    rw [upd_ne ne]
    exact s1.keep a ob (by rw [upd_ne ne]; exact e) n
  · rcases List.mem_append.mp m with m | m
    · have e := s1.new a m n
      have ne : a ≠ p := fun z => by rw [z, upd_same] at e; cases e
      rw [upd_ne ne] at e; exact e
    · rw [List.mem_singleton.mp m]; exact hp
  · show (φ1.l ++ [p]).Nodup
    rw [List.nodup_append]
    refine ⟨r1.nd, by simp, fun a ha b hb => ?_⟩
    rw [List.mem_singleton.mp hb]
    exact fun z => n1 (z ▸ ha)
  · have ha' : (φ1.l ++ [p])[n]? = some a := ha
    by_cases hn : n < φ1.l.length
    · rw [List.getElem?_append_left hn] at ha'
      rw [List.getElem?_append_left (by rw [r1.len]; exact hn)] at hu
      exact (r1.at_ n a u ha' hu).moved sw r1.muts (upd_ne fun z => n1 (z ▸ List.mem_of_getElem? ha'))
    · have hn' : n = φ1.l.length := by
        have := (List.getElem?_eq_some_iff.mp ha').1
        simp at this; omega
      subst hn'
      rw [List.getElem?_append_right (Nat.le_refl _)] at ha'
      rw [List.getElem?_append_right (by rw [r1.len]; exact Nat.le_refl _), r1.len] at hu
      simp at ha' hu
      subst ha' hu
      exact ⟨_, upd_same, RK.monoW sw r1.muts rm⟩
  · have ne : a ≠ p := fun z => o.sr.outb hp (z ▸ m)
    rw [upd_ne ne]
    exact r1.mb a (s1.sub a (List.mem_cons_of_mem _ m))
  · rcases List.mem_append.mp z with z | z
    · exact r1.db a (s1.sub a (List.mem_cons_of_mem _ m)) z
    · rw [List.mem_singleton.mp z] at m
      exact o.sr.outb hp m
  · rw [RD]
    exact ⟨p, rfl, by show (φ1.l ++ [p])[S1.length]? = _; rw [r1.len]; simp⟩
end
end Dy
namespace Dy
open PySem PySem.Spec PyProof.Rows L2
/-! ### d[k] op= v, del d[k], d.pop(k) -/
section
variable {F : Fam} {W : WX} {o i e value : Expr} {to ti te : DTE} {pos tpos apos cpos : Pos} {k : Nat}
def oDAug (r : D2) (o i : D) (te : DTE) (R : Rho → Store → Prop) (E : XQ) (ρ : Rho) (S : Store) : Prop := ∃ kvs ky v, dvOf S o = some kvs ∧ kyOf i = some ky ∧ valD kvs ky = some v ∧ te ρ S (fun d S1 => r v d S1 fun z S2 => oDPut z o i (R ρ) S2) E
def dAugD (to ti te : DTE) (r : D2) : DTS := fun D ρ S => to ρ S (fun o S1 => ti ρ S1 (fun i S2 => oDAug r o i te D.nx (fun x S3 => D.ex x ρ S3) ρ S2) (fun x S1 => D.ex x ρ S1)) (fun x S1 => D.ex x ρ S1)
theorem ds_daug (hr : ∀ j, Room k (F.X j).A) {op : Operator} {r : R2} {r' : D2} (hop : ∀ j, OpR (F.X j) (inplaceOp op) r) (lk : Lk F.K r' r) (ho : DE F W o to) (hi : DE F W i ti) (hv : DE F W value te)
    (ha : ∀ ov iv new, augStore i ov iv new = (do holding [new, ov, iv] (setItem ov iv new); release [new, ov, iv] []; pure .next) := by intro _ _ _; rfl) : DS F W (.AugAssign (.Subscript o i tpos) op value pos) (dAugD to ti te r') := by
  obtain ⟨t1, p1, k1⟩ := ho
  obtain ⟨t2, p2, k2⟩ := hi
  obtain ⟨t3, p3, k3⟩ := hv
  refine ⟨_, fun j => ps_daug (rd := r) (by have := (hr j).units; omega) (p1 j) (p2 j) (p3 j) (hop j) ha, fun σ ρ φ S H D' D rs sl l h => ?_⟩
  refine k1 σ ρ φ S H _ _ _ (l.ok rs sl) (fun φ1 H1 S1 x vx s1 r1 rx h1 => ?_) h
  have l1 := l.mono s1
  have sl1 := sl.mono s1 rs.muts
  refine k2 σ ρ φ1 S1 H1 _ _ _ (l1.ok r1 sl1) (fun φ2 H2 S2 y vy s2 r2 ry h2 => ?_) h1
  have l2 := l1.mono s2
  have sl2 := sl1.mono s2 r1.muts
  obtain ⟨kvs, ky, v, e1, e2, e3, h3⟩ := h2
  have rx2 := RD.mono s2 r1.muts _ _ rx
  obtain ⟨a, ws, rfl, g1, g2⟩ := dv_of r2 rx2 e1
  have ek := ky_rd ry e2
  obtain ⟨u, g3, g4⟩ := (rk_val g2).1 _ e3
  refine ⟨a, u, rfl, by rw [ek]; exact g3 ▸ DGet.k g1, ?_⟩
  refine k3 σ ρ φ2 S2 H2 _ _ _ (l2.ok r2 sl2) (fun φ3 H3 S3 d vd s3 r3 rd h4 => ?_) h3
  have l3 := l2.mono s3
  have sl3 := sl2.mono s3 r2.muts
  refine lk φ3 S3 H3 _ _ v d u vd r3 (RD.mono s3 r2.muts _ _ g4) rd (fun φ4 H4 S4 z vz s4 r4 rz h5 => ?_) h4
  have rx4 := RD.mono (s3.trans s4) r2.muts _ _ rx2
  obtain ⟨b, H', S', eb, g, st, r', hR⟩ := dput_rd r4 rz rx4 (RD.mono (s3.trans s4) r2.muts _ _ ry) h5
  cases eb
  exact ⟨H', g, (l3.mono s4).nx _ H' S' ρ σ st r' ((sl3.mono s4 r3.muts).mono st r4.muts) hR⟩
def oDDel (o i : D) (R : Store → Prop) (S : Store) : Prop := ∃ n kvs ky, o = .ref n ∧ S[n]? = some (.dK kvs) ∧ kyOf i = some ky ∧ (valD kvs ky).isSome = true ∧ R (S.set n (.dK (ddropK kvs ky)))
def dDelD (to ti : DTE) : DTS := fun D ρ S => to ρ S (fun o S1 => ti ρ S1 (fun i S2 => oDDel o i (D.nx ρ) S2) (fun x S1 => D.ex x ρ S1)) (fun x S1 => D.ex x ρ S1)
theorem ds_ddel (ho : DE F W o to) (hi : DE F W i ti) : DS F W (.Delete [.Subscript o i tpos] pos) (dDelD to ti) := by
  obtain ⟨t1, p1, k1⟩ := ho
  obtain ⟨t2, p2, k2⟩ := hi
  refine ⟨_, fun j => ps_ddel (p1 j) (p2 j), fun σ ρ φ S H D' D rs sl l h => ?_⟩
  refine k1 σ ρ φ S H _ _ _ (l.ok rs sl) (fun φ1 H1 S1 x vx s1 r1 rx h1 => ?_) h
  have l1 := l.mono s1
  have sl1 := sl.mono s1 rs.muts
  refine k2 σ ρ φ1 S1 H1 _ _ _ (l1.ok r1 sl1) (fun φ2 H2 S2 y vy s2 r2 ry h2 => ?_) h1
  obtain ⟨n, kvs, ky, rfl, e1, e2, e3, hR⟩ := h2
  obtain ⟨a, rfl, ha⟩ := rd_ref (RD.mono s2 r1.muts _ _ rx)
  obtain ⟨ws, g1, g2⟩ := r2.at_ n a _ ha e1
  have st : Step φ2 φ2 H2 (upd H2 a (.dK (L2.dropK ws ky))) := r2.step_put ha
  refine ⟨a, ws, ky, rfl, g1, ky_rd ry e2, by rw [← (rk_val g2).2]; exact e3, ?_⟩
  exact (l1.mono s2).nx _ _ _ ρ σ st (r2.put ha (o := .dK (ddropK kvs ky)) ⟨_, upd_same, rk_drop (RK.mono st r2.muts g2)⟩) ((sl1.mono s2 r1.muts).mono st r2.muts) hR
def oDPop (o i : D) (S : Store) (Q : QD) : Prop := ∃ n kvs ky v, o = .ref n ∧ S[n]? = some (.dK kvs) ∧ kyOf i = some ky ∧ valD kvs ky = some v ∧ Q v (S.set n (.dK (ddropK kvs ky)))
def dPopD (to ti : DTE) : DTE := fun ρ S Q E => to ρ S (fun o S1 => (∃ kvs, dvOf S1 o = some kvs) ∧ ti ρ S1 (fun i S2 => oDPop o i S2 Q) E) E
theorem de_dpop1 (ho : DE F W o to) (he : DE F W e te) (hbase : ∀ i, attributeBase o "pop" (F.X i).env (eval o (F.X i).env) = eval o (F.X i).env := by intro _; rfl)
    (hfew : ∀ i, ((backTo cpos (starEach [e] (F.X i).env)).all (fun x => !x.1) && (backToKw cpos (keywordEach [] (F.X i).env)).all (fun x => x.1.isSome)
      && decide (([e] : List Expr).length + ([] : List Keyword).length + (if ([] : List Keyword).isEmpty then 0 else 1) < 30)) = true := by intro _; rfl)
    (hline : (apos.endLine == cpos.line) = true := by rfl) (htr : ∀ i, backTo cpos (starEach [e] (F.X i).env) = [(false, eval e (F.X i).env)] := by intro _; rfl) : DE F W (.Call (.Attribute o "pop" apos) [e] [] cpos) (dPopD to te) := by
  obtain ⟨t1, p1, k1⟩ := ho
  obtain ⟨t2, p2, k2⟩ := he
  refine ⟨_, fun j => pe_dpop1 (p1 j) (p2 j) ⟨hbase j, hfew j, hline, htr j⟩, fun σ ρ φ S H E Q' Q ok q h => ?_⟩
  refine k1 σ ρ φ S H E _ _ ok (fun φ1 H1 S1 x vx s1 r1 rx h1 => ?_) h
  obtain ⟨⟨kv0, e0⟩, h1⟩ := h1
  obtain ⟨a, ws0, rfl, g0, _⟩ := dv_of r1 rx e0
  refine ⟨a, rfl, .inl ⟨_, .inl g0⟩, ?_⟩
  refine k2 σ ρ φ1 S1 H1 E _ _ (ok.mono s1 r1) (fun φ2 H2 S2 y vy s2 r2 ry h2 => ?_) h1
  obtain ⟨n, kvs, ky, v, rfl, e1, e2, e3, hR⟩ := h2
  obtain ⟨b, eb, ha⟩ := rd_ref (RD.mono s2 r1.muts _ _ rx)
  cases eb
  obtain ⟨ws, g1, g2⟩ := r2.at_ n a _ ha e1
  obtain ⟨u, g3, g4⟩ := (rk_val g2).1 _ e3
  have st : Step φ2 φ2 H2 (upd H2 a (.dK (L2.dropK ws ky))) := r2.step_put ha
  exact ⟨ws, ky, u, g1, ky_rd ry e2, g3, q _ _ _ _ _ ((s1.trans s2).trans st) (r2.put ha (o := .dK (ddropK kvs ky)) ⟨_, upd_same, rk_drop (RK.mono st r2.muts g2)⟩) (RD.mono st r2.muts _ _ g4) hR⟩
end
/-! ### truth -/
def truD (S : Store) : D → Option Bool
  | .non => some false
  | .bl b => some b
  | .int i => some (i != 0)
  | .tup xs => some (!xs.isEmpty)
  | .lst xs => some (!xs.isEmpty)
  | .frz xs => some (!xs.isEmpty)
  | .dic ks xs => some (!(ks.zip xs).isEmpty)
  | .ref n => match S[n]? with
    | some (.lst xs) => some (!xs.isEmpty)
    | some (.dK kvs) => some (!kvs.isEmpty)
    | _ => none
  | _ => none
theorem RDs.empty {K : PySem.W.Frag} {φ : Al} {H : Hp} {xs : List D} {vs : List V} (h : RDs K φ H xs vs) : vs.isEmpty = xs.isEmpty := by
  have := h.length
  cases xs <;> cases vs <;> first | rfl | cases this
theorem rk_empty {K : PySem.W.Frag} {φ : Al} {H : Hp} {kvs : KVD} {ws : List (Key × V)} (h : RK K φ H kvs ws) : ws.isEmpty = kvs.isEmpty := by
  have := rk_len h
  cases kvs <;> cases ws <;> first | rfl | cases this
theorem tru_rd {K : PySem.W.Frag} {φ : Al} {H : Hp} {S : Store} {d : D} {v : V} {b : Bool} (r : SR K φ S H) (rd : RD K φ H d v) (e : truD S d = some b) : TruV K v H b := by
  cases d with
  | non => rw [RD] at rd; subst rd; cases e; rfl
  | bl _ => rw [RD] at rd; subst rd; cases e; rfl
  | int _ => rw [RD] at rd; subst rd; cases e; rfl
  | tup xs =>
    obtain ⟨a, vs, rfl, h1, h2⟩ := rd_tup rd
    cases e
    exact .inr (.inl ⟨vs, h1, by rw [h2.empty]⟩)
  | lst xs =>
    rw [RD] at rd
    obtain ⟨a, vs, rfl, h1, h2⟩ := rd
    cases e
    exact .inl ⟨vs, h1.sq, by rw [h2.empty]⟩
  | frz xs =>
    rw [RD] at rd
    obtain ⟨a, vs, rfl, h1, h2⟩ := rd
    cases e
    exact .inl ⟨vs, h1.sq, by rw [h2.empty]⟩
  | dic ks xs =>
    cases e
    obtain ⟨a, ws, rfl, g1, g2⟩ := dv_of r rd rfl
    exact .inr (.inr ⟨ws, g1, by rw [rk_empty g2]⟩)
  | ref n =>
    obtain ⟨a, rfl, ha⟩ := rd_ref rd
    simp only [truD] at e
    split at e
    · rename_i xs hq
      cases e
      obtain ⟨vs, g1, g2⟩ := r.at_ n a _ ha hq
      exact .inl ⟨vs, .inl (.inl g1), by rw [g2.empty]⟩
    · rename_i kvs hq
      cases e
      obtain ⟨ws, g1, g2⟩ := r.at_ n a _ ha hq
      exact .inr (.inr ⟨ws, g1, by rw [rk_empty g2]⟩)
    · cases e
  | _ => cases e
def dTru (te : DTE) : DTT := fun ρ S Q E => te ρ S (fun d S1 => ∃ b, truD S1 d = some b ∧ Q b S1) E
theorem dt_truth {F : Fam} {W : WX} {e : Expr} {te : DTE} (h : DE F W e te) (he : ∀ j whole, isTrue e (F.X j).env whole = (do let v ← whole; standAt e.pos; holding [v] (truthy v)) := by intro _ _; rfl) : DT F W e (dTru te) := by
  obtain ⟨t1, p1, k1⟩ := h
  refine ⟨fun σ H Q => t1 σ H fun x H' => ∃ k, TruV F.K x H' k ∧ Q k H', fun j => F.hK j ▸ pt_truth (p1 j) (he j), fun σ ρ φ S H E Q' Q o q h => ?_⟩
  refine k1 σ ρ φ S H E _ _ o (fun φ1 H1 S1 d v s1 r1 rd h1 => ?_) h
  obtain ⟨b, e1, h1⟩ := h1
  exact ⟨b, tru_rd r1 rd e1, q φ1 H1 S1 _ s1 r1 h1⟩
end Dy
/-! enumerate of a tuple -/
namespace Dy
open PySem PySem.Spec PyProof.Rows L2
theorem enum_made {v : Value} {o : Obj} {HH : Heap → Prop} (B : Begins v o HH) :
    Meets (Builtin.«enumerate.__new__» ⟨[.type "enumerate", v], []⟩) (fun _ R s => HH s.heap ∧ R (.ok (.ret (.ref (s.heap.push o).objs.size)))
      { s with heap := (s.heap.push o).push { cls := .type "enumerate", data := .fields #[.none, .bool false, .ref s.heap.objs.size, rawInt 0, .none, .none] } }) := by
  refine .of_wp fun prog w A R s h => ?_
  obtain ⟨hp, gs, ds, ts, oo⟩ := s
  obtain ⟨hB, h⟩ := h
  have sub0 := sub_enumerate
  have go : ∀ {A' : Around} {E Q : Value → Shared → Prop}, Q (.ref hp.objs.size) ⟨hp.push o, gs, ds, ts, oo⟩ → wpAny (model prog w) A' (pyIter v) Q E ⟨hp, gs, ds, ts, oo⟩ := fun q => B.iter prog w _ _ ⟨hp, gs, ds, ts, oo⟩ _ hB q
  wp_walk using go
  refine wpAny_stack_any fun stk => ?_
  refine wpAny_pure ?_
  split
  · rename_i cl _ _ _ _ _
    cases (cl == Value.type "enumerate") <;> (wp_walk using go; exact ⟨_, rfl, h⟩)
  · (wp_walk using go; exact ⟨_, rfl, h⟩)
theorem enum_tup {prog : Program} {w : World} {A : Around} {E : Value → Shared → Prop} {s : Shared} {t : Addr} {items : Array Value} {Q : Value → Shared → Prop} (hT : s.heap.IsTuple t items)
    (h : ∀ h', IsEnum h' (s.heap.objs.size + 1) s.heap.objs.size 0 .none → h'.IsTupleIter s.heap.objs.size t 0 → (∀ b o, s.heap.get? b = some o → h'.get? b = some o) → Q (.ref (s.heap.objs.size + 1)) { s with heap := h' }) :
    wpAny (model prog w) A (call (.type "enumerate") [.ref t]) Q E s := by
  let ob : Obj := { cls := .type "tuple_iterator", data := .fields #[.ref t, .int 0 0] }
  let en : Obj := { cls := .type "enumerate", data := .fields #[.none, .bool false, .ref s.heap.objs.size, rawInt 0, .none, .none] }
  refine callType_new F.called_enumerate (by decide) (F.typeCall_enumerate_1 _) (F.newCall_enumerate_1 _) (fun obj => F.args_object_init_2 obj _) F.entry_enumerate_new (enum_made (begins_tuple t items)) ⟨hT, ?_⟩
  have z1 : (s.heap.push ob).objs.size = s.heap.objs.size + 1 := Heap.size_push ..
  have e1 : ((s.heap.push ob).push en).get? (s.heap.objs.size + 1) = some en := by
    have := Heap.get?_push_size (s.heap.push ob) (o := en) rfl
    rw [z1] at this; exact this
  show _ ∧ _
  rw [z1]
  exact ⟨⟨_, e1, rfl⟩, h _ e1 ⟨_, Heap.get?_push_of_some _ (Heap.get?_push_size _ rfl), rfl, rfl⟩ fun b o x => Heap.get?_push_of_some _ (Heap.get?_push_of_some _ x)⟩
/-- the tuple at a, its items in new pairs -/
def IteT (K : PySem.W.Frag) (a : Addr) : It :=
  ⟨fun i H => ∃ (ys : List V) (y : V), SqT K H a ys ∧ ys[i]? = some y,
   fun i H v H' => ∃ p y, v = .ref p ∧ H p = none ∧ H' = upd H p (.tup [.int (i : Nat), y]) ∧ ∀ ys, SqT K H a ys → ys[i]? = some y,
   fun i H => ∃ ys : List V, SqT K H a ys ∧ ys.length = i⟩
theorem turn_enumT {P : Program} {w : World} {K : PySem.W.Frag} {el : List Expr} {k : Nat} {tp : Pos} (a e it : Addr) : Turn P w K (.Tuple el k tp) (IteT K a) [e, it] e (fun i h => (∃ old, IsEnum h e it ((i : Nat) : Int) old) ∧ h.IsTupleIter it a i ∧ e ≠ it) where
  mem := by simp
  obj := by
    rintro i h ⟨⟨old, he⟩, ⟨o, ho, _, hd⟩, _⟩ b hb
    rcases (by simpa using hb : b = e ∨ b = it) with z | z <;> rw [z]
    · exact ⟨_, he, fun v q => nomatch q⟩
    · exact ⟨o, ho, fun v q => by rw [hd] at q; cases q⟩
  keep := by
    rintro i h h' ⟨⟨old, he⟩, hi, ne⟩ k
    exact ⟨⟨old, k e (by simp) _ he⟩, hi.at fun o q => k it (by simp) o q, ne⟩
  item := by
    intro X e1 e2 e3 hc i pins s σ H E I hf st hg
    subst e1 e2 e3
    obtain ⟨⟨old, he⟩, hit, ne⟩ := st
    obtain ⟨ys, y, hq, hy⟩ := hg
    obtain ⟨us, rv, tp0, hz⟩ := I.tuple hq
    obtain ⟨u, hu, ru⟩ := rv.get hy
    have he1 : e < s.heap.objs.size := Heap.lt_size he
    have hi1 : it < s.heap.objs.size := by
      obtain ⟨_, q, _⟩ := hit
      exact Heap.lt_size q
    have ane : a ≠ it := fun z => by
      obtain ⟨o, ho, c, _⟩ := tp0
      obtain ⟨o2, ho2, c2, _⟩ := hit
      rw [z, ho2] at ho
      cases ho
      rw [c2] at c
      injection c with c
      exact absurd c (by decide)
    have ena : e ∉ [it, a] := fun m => by
      rcases (by simpa using m : e = it ∨ e = a) with z | z
      · exact ne z
      · obtain ⟨o, ho, c, _⟩ := tp0
        rw [← z, he] at ho
        cases ho
        have c : Value.type "enumerate" = Value.type "tuple" := c
        injection c with c
        exact absurd c (by decide)
    have Dr := Draws.tuple (prog := X.prog) (w := X.w) (A := X.A.in1) (I.ok.hd hc) it a ane us.toArray
    have hlt : i < us.toArray.size := by
      have := (List.getElem?_eq_some_iff.mp hu).1
      simpa using this
    refine wpAny_pyNext_enum_itemD Dr he ⟨hit, tp0⟩ hlt ne ena fun x h' tk px ho st' hT hsz hk => ?_
    have ex : x = u := by
      have px : us.toArray[i]? = some x := px
      rw [List.getElem?_toArray, hu] at px
      cases px; rfl
    subst ex
    refine ⟨_, rfl, wpAny_letOwnedTupleGo_enum (s := { s with heap := h', toks := tk + 1 }) ho fun h2 he2 sb => ?_⟩
    have hT2 : h2.get? s.heap.objs.size = some { cls := .type "tuple", data := .seq #[.int i tk, x] } := (sb.2 _ (Nat.ne_of_gt he1)).trans hT
    have new : ObjOk X.prog X.w (upd H s.heap.objs.size (.tup [.int (i : Nat), y])) h2 s.heap.objs.size (.tup [.int (i : Nat), y]) := ⟨small (Nat.le_of_ble_eq_true rfl), [.int i tk, x], .cons ⟨_, rfl⟩ (.cons ru .nil), ⟨_, hT2, rfl, _, rfl⟩⟩
    have I1 : Inv X pins σ (upd H s.heap.objs.size (.tup [.int (i : Nat), y])) { s with heap := h2, toks := tk + 1 } := I.turnedNew (ch := [e, it]) (fun b ob hb q => (sb.2 b fun z => hb (by simp [z])).trans (hk b ob (fun z => hb (by simp [z])) (fun z => hb (by simp [z])) q)) hf (Nat.le_refl _) new
    refine ⟨.ref s.heap.objs.size, _, I1, rfl, ⟨_, y, rfl, I.hok.fresh (Nat.le_refl _), rfl, fun zs hzs => ?_⟩, ⟨⟨x, ?_⟩, st'.1.at fun o q => (sb.2 it (Ne.symm ne)).trans q, ne⟩, fun b hb => ?_⟩
    · rw [I.tuple_inj hzs hq]; exact hy
    · have ei : ((i + 1 : Nat) : Int) = (i : Int) + 1 := by omega
      rw [ei]; exact he2
    · have hlt2 : b < s.heap.objs.size := by
        rcases (by simpa using hb : b = e ∨ b = it) with z | z <;> rw [z] <;> assumption
      rw [upd_ne (Nat.ne_of_lt hlt2)]
      exact (hf b hb).1
  done := by
    intro X e1 e2 e3 hc i pins s σ H E I hf st hg
    subst e1 e2 e3
    obtain ⟨⟨old, he⟩, hit, ne⟩ := st
    obtain ⟨ys, hq, hy⟩ := hg
    obtain ⟨us, rv, tp0, hz⟩ := I.tuple hq
    obtain ⟨f0, f1, f2, f3, f4, f5⟩ := hf it (by simp)
    have ane : a ≠ it := fun z => by
      obtain ⟨o, ho, c, _⟩ := tp0
      obtain ⟨o2, ho2, c2, _⟩ := hit
      rw [z, ho2] at ho
      cases ho
      rw [c2] at c
      injection c with c
      exact absurd c (by decide)
    have Dr := Draws.tuple (prog := X.prog) (w := X.w) (A := X.A.in1) (I.ok.hd hc) it a ane us.toArray
    have es : us.toArray.size = i := by
      have := rv.length
      simp; omega
    rw [es] at Dr
    exact wpAny_pyNext_enum_endD Dr he ⟨hit, tp0⟩ fun h' eb => ⟨rfl, I.turned (t' := s.toks) (fun b o hb q => eb b o hb q) f0 f1 f3 f4 f5⟩
  self := by
    rintro A i s Q E ⟨⟨_, he⟩, _⟩ h
    exact wpAny_pyIter_enum he h
def iEnumT (K : PySem.W.Frag) (ta : TA) : TI := fun σ H R => ta σ H fun vs H1 => ∃ a ys, vs = [.ref a] ∧ SqT K H1 a ys ∧ R (IteT K a) H1
theorem pi_enumT {X : Cx} {e : Expr} {ta : TA} {p pos tp : Pos} {el : List Expr} {k : Nat} (hg : Gl X "enumerate") (hm : X.mg "enumerate" = none) (ha : PA X [e] ta) (hs : starEach [e] X.env = [(false, eval e X.env)] := by rfl) : PI X (.Tuple el k tp) (.Call (.Name "enumerate" p) [e] [] pos) (iEnumT X.K ta) := by
  constructor
  intro pins s σ H R I h
  refine Call_ (ld_blt I hg hm boot_enumerate (PyProof.Rows.callWith_type1 (thn (ha.run pos pins s σ H _ I h) fun us s1 h1 => ?_) hs rfl))
  obtain ⟨vs, H1, I1, r1, a, ys, ev, hq, q⟩ := h1
  subst ev
  obtain ⟨u, rfl, rx⟩ := vals1 r1
  cases rx
  obtain ⟨its, rv, tp0, hz⟩ := I1.tuple hq
  refine enum_tup tp0 fun h' he hit hk => wpAny_pyIter_enum he ?_
  have I2 : Inv X pins σ H1 { s1 with heap := h' } := I1.kept (t' := s1.toks) hk
  refine ⟨s1.heap.objs.size + 1, [s1.heap.objs.size + 1, s1.heap.objs.size], _, _, H1, rfl, I2, turn_enumT a (s1.heap.objs.size + 1) s1.heap.objs.size, ⟨⟨.none, he⟩, hit, Nat.succ_ne_self _⟩, fun b hb => ?_, q⟩
  have hle : s1.heap.objs.size ≤ b := by
    rcases (by simpa using hb : b = s1.heap.objs.size + 1 ∨ b = s1.heap.objs.size) with z | z <;> rw [z] <;> first | exact Nat.le_refl _ | exact Nat.le_add_right _ _
  exact I1.fpOk hle (I1.hok.fresh hle)
/-! the rule -/
def enD (xs : List D) : List D := (List.range xs.length).map fun i => .tup [.int (i : Nat), xs.getD i .non]
theorem enD_len {xs : List D} : (enD xs).length = xs.length := by unfold enD; simp
theorem enD_get {xs : List D} {i : Nat} {d : D} (h : xs[i]? = some d) : (enD xs)[i]? = some (.tup [.int (i : Nat), d]) := by
  have hi := (List.getElem?_eq_some_iff.mp h).1
  unfold enD
  rw [List.getElem?_map, List.getElem?_range hi]
  simp [List.getD_eq_getElem?_getD, h]
def jEnT (t : DTA) : DTI := fun ρ S R E => t ρ S (fun ds S1 => ∃ xs, ds = [.tup xs] ∧ R (enD xs) (fun _ => True) S1) E
def jEnL (t : DTA) : DTI := fun ρ S R E => t ρ S (fun ds S1 => ∃ d xs, ds = [d] ∧ lsOf S1 d = some xs ∧ R (enD xs) (fun S => lsOf S d = some xs) S1) E
section
variable {F : Fam} {W : WX} {e : Expr} {t : DTA} {p pos tp : Pos} {el : List Expr} {k : Nat}
theorem yld_enum {K : PySem.W.Frag} {φ2 : Al} {H2 H3 : Hp} {S2 : Store} {i : Nat} {xs : List D} {vs : List V} {v : V} {q : Addr} {y : V} (r : SR K φ2 S2 H2) (rs2 : RDs K φ2 H2 xs vs) (hi : i < xs.length) (hp : H2 q = none) (hH : H3 = upd H2 q (.tup [.int (i : Nat), y])) (hv : v = .ref q) (hy : vs[i]? = some y) :
    ∃ d, (enD xs)[i]? = some d ∧ Step φ2 φ2 H2 H3 ∧ SR K φ2 S2 H3 ∧ RD K φ2 H3 d v := by
  subst hH hv
  obtain ⟨u, eu, ru⟩ := rs2.get (List.getElem?_eq_getElem hi)
  rw [hy] at eu
  cases eu
  exact ⟨_, enD_get (List.getElem?_eq_getElem hi), step_new hp, r.new hp, rd_tup_new r hp (.cons (by rw [RD]) (.cons ru .nil))⟩
theorem di_enumT (hg : ∀ i, Gl (F.X i) "enumerate") (hm : ∀ i, (F.X i).mg "enumerate" = none) (ha : DA F W [e] t) (hs : ∀ i, starEach [e] (F.X i).env = [(false, eval e (F.X i).env)] := by intro _; rfl) : DI F W (.Tuple el k tp) (.Call (.Name "enumerate" p) [e] [] pos) (jEnT t) := by
  obtain ⟨t1, p1, k1⟩ := ha
  refine ⟨_, fun i => F.hK i ▸ pi_enumT (hg i) (hm i) (p1 i) (hs i), fun σ ρ φ S H E R' R o q h => ?_⟩
  refine k1 σ ρ φ S H E _ _ o (fun φ1 H1 S1 ds us s1 r1 rd h1 => ?_) h
  obtain ⟨xs, rfl, h1⟩ := h1
  obtain ⟨v, rfl, hv⟩ := rds1 rd
  obtain ⟨a, vs, rfl, hq, rs⟩ := rd_tup hv
  refine ⟨a, vs, rfl, hq, q φ1 H1 S1 _ _ _ s1 r1 (fun φ2 H2 S2 i s r lv => ?_) h1⟩
  have hq2 := s.w.sqT r1.muts.m r1.muts.b hq
  have rs2 := RDs.mono s r1.muts _ _ rs
  refine ⟨fun hi => ⟨vs, hq2, by rw [rs.length, ← enD_len]; exact hi⟩, fun hi => ?_⟩
  rw [enD_len] at hi
  obtain ⟨u, eu, ru⟩ := rs2.get (List.getElem?_eq_getElem hi)
  refine ⟨⟨vs, u, hq2, eu⟩, ?_⟩
  rintro v H3 ⟨b, y, hv, hp, hH, hy⟩
  exact yld_enum r rs2 hi hp hH hv (hy vs hq2)
theorem di_enumL (hg : ∀ i, Gl (F.X i) "enumerate") (hm : ∀ i, (F.X i).mg "enumerate" = none) (ha : DA F W [e] t) (hs : ∀ i, starEach [e] (F.X i).env = [(false, eval e (F.X i).env)] := by intro _; rfl) : DI F W (.Tuple el k tp) (.Call (.Name "enumerate" p) [e] [] pos) (jEnL t) := by
  obtain ⟨t1, p1, k1⟩ := ha
  refine ⟨_, fun i => F.hK i ▸ pi_enum (hg i) (hm i) (p1 i) (hs i), fun σ ρ φ S H E R' R o q h => ?_⟩
  refine k1 σ ρ φ S H E _ _ o (fun φ1 H1 S1 ds us s1 r1 rd h1 => ?_) h
  obtain ⟨d, xs, rfl, ed, h1⟩ := h1
  obtain ⟨v, rfl, hv⟩ := rds1 rd
  obtain ⟨a, vs, rfl, hq, rs⟩ := ls_of r1 hv ed
  refine ⟨a, vs, rfl, hq, q φ1 H1 S1 _ _ _ s1 r1 (fun φ2 H2 S2 i s r lv => ?_) h1⟩
  obtain ⟨a', vs2, ea, hq2, rs2⟩ := ls_of r (RD.mono s r1.muts _ _ hv) lv
  cases ea
  refine ⟨fun hi => ⟨vs2, hq2, by rw [rs2.length, ← enD_len]; exact Nat.le_of_eq hi⟩, fun hi => ?_⟩
  rw [enD_len] at hi
  obtain ⟨u, eu, ru⟩ := rs2.get (List.getElem?_eq_getElem hi)
  refine ⟨⟨vs2, u, hq2, eu⟩, ?_⟩
  rintro v H3 ⟨b, y, hv, hp, hH, hy⟩
  exact yld_enum r rs2 hi hp hH hv (hy vs2 hq2)
end
end Dy
/-! except suites of more than one class; expressions that are never reached -/
namespace Dy
open PySem PySem.Spec PyProof.Rows L2
theorem s_raise0 {C : Addr} {nx bk ct : Rho → Store → Prop} {rt : D → Store → Prop} {ex : Exc → Rho → Store → Prop} {ρ : Rho} {S : Store} (h : ex ⟨C, none⟩ ρ S) : dRaise0 C ⟨nx, rt, bk, ct, ex⟩ ρ S := h
section
variable {F : Fam} {W : WX} {e : Expr}
theorem de_no : DE F W e (fun _ _ _ _ => False) := ⟨fun _ _ _ => False, fun i => ⟨fun pins s σ H Q I h => h.elim⟩, fun _ _ _ _ _ _ _ _ _ _ h => h.elim⟩
end
/-- p tells which errors the suite is read for -/
def tsBy (p : Addr → Option Addr → Bool) (t : Addr → Addr → Option Addr → DTS) (a : Addr) (x : Exc) (d : Option Addr) : DTS := if p x.C d = true then t a x.C d else fun _ _ _ => False
theorem su_by {F : Fam} {sts : List Stmt} (p : Addr → Option Addr → Bool) {t : Addr → Addr → Option Addr → DTS} (h : ∀ a C d, p C d = true → DSs (F.su a (.ref C) d) W0 sts (t a C d)) (a : Addr) (x : Exc) (d : Option Addr) : DSs (F.su a (.ref x.C) d) W0 sts (tsBy p t a x d) := by
  by_cases e : p x.C d = true
  · have e2 : tsBy p t a x d = t a x.C d := if_pos e
    rw [e2]
    exact h a x.C d e
  · have e2 : tsBy p t a x d = fun _ _ _ => False := if_neg e
    rw [e2]
    exact dss_no
theorem s_by {p : Addr → Option Addr → Bool} {t : Addr → Addr → Option Addr → DTS} {a : Addr} {x : Exc} {d : Option Addr} {D' : DEnds} {ρ : Rho} {S : Store} (e : p x.C d = true) (h : t a x.C d D' ρ S) : tsBy p t a x d D' ρ S := by
  have e2 : tsBy p t a x d = t a x.C d := if_pos e
  rw [e2]; exact h
/-- isinstance(e, c): with a dict or without -/
def cIsA (a : Addr) (d : Option Addr) (kt : D → Option Bool) : DR := fun ds S Q => ∃ v c b, ds = [v, c] ∧ ((d = none ∧ v = .cls a) ∨ ∃ dd ks xs, d = some dd ∧ v = .exo a dd ks xs) ∧ kt c = some b ∧ Q (.bl b) S
theorem lk_isA {K : PySem.W.Frag} {C a : Addr} {d : Option Addr} {kt : D → Option Bool} (h : KitOf K C kt) : LkC K (cIsA a d kt) (rIsX K C a d) := by
  rintro φ S H Q' Q ds vs r rd q ⟨v, c, b, rfl, hv, e, hq⟩
  obtain ⟨u, w, rfl, h1, h2⟩ := rds2 rd
  have fin : Q (.bl b) H := q φ H S _ _ .refl r rd_bl hq
  have hu : u = .ref a ∧ ∀ d', d = some d' → ∃ fs, H d' = some (.xd fs) := by
    rcases hv with ⟨rfl, rfl⟩ | ⟨dd, ks, xs, rfl, rfl⟩
    · rw [RD] at h1
      exact ⟨h1, fun d' z => by cases z⟩
    · rw [RD] at h1
      obtain ⟨us, rfl, g1, _⟩ := h1
      exact ⟨rfl, fun d' z => by cases z; exact ⟨_, g1⟩⟩
  obtain ⟨rfl, hx⟩ := hu
  rcases h c b e with ⟨n, rfl, hk⟩ | ⟨C2, rfl, hk⟩
  · rw [RD] at h2
    subst h2
    exact ⟨.ty n, .type n, b, rfl, .ty n, hk, hx, fin⟩
  · rw [RD] at h2
    subst h2
    exact ⟨.ref C2, .ref C2, b, rfl, .own C2, hk, hx, fin⟩
theorem o_isA0 {a : Addr} {kt : D → Option Bool} {c : D} {b : Bool} {S : Store} {Q : QD} (e : kt c = some b) (h : Q (.bl b) S) : cIsA a none kt [.cls a, c] S Q := ⟨_, c, b, rfl, .inl ⟨rfl, rfl⟩, e, h⟩
theorem o_isA1 {a dd : Addr} {ks : List Str} {xs : List D} {kt : D → Option Bool} {c : D} {b : Bool} {S : Store} {Q : QD} (e : kt c = some b) (h : Q (.bl b) S) : cIsA a (some dd) kt [.exo a dd ks xs, c] S Q := ⟨_, c, b, rfl, .inr ⟨dd, ks, xs, rfl, rfl⟩, e, h⟩
section
variable {F : Fam} {W : WX} {a C : Addr} {d : Option Addr} {e e2 : Expr} {t : DTA} {te : DTE} {p pos : Pos} {kt : D → Option Bool} {f : Str}
theorem dc_isA (T : ExcI F.K C) (h : KitOf F.K C kt) (hm : ∀ i, ((F.su a (.ref C) d).X i).mg "isinstance" = none) (ha : DA (F.su a (.ref C) d) W [e, e2] t) (hg : ∀ i, Gl ((F.su a (.ref C) d).X i) "isinstance" := by intro _; rfl)
    (he : St1 (F.su a (.ref C) d) e [e2] := by intro _; rfl) (hp : Pl1 (F.su a (.ref C) d) pos [e2] := by intro _; rfl) : DE (F.su a (.ref C) d) W (.Call (.Name "isinstance" p) [e, e2] [] pos) (dCB (cIsA a d kt) t) := by
  refine de_callB (fun j => ?_) (lk_isA h) hg hm bt_isinstance ha (he := he) (hpl := hp)
  obtain ⟨i, oe, pn, z, fv⟩ := j
  have T' : ExcI (F.X i).K C := by rw [F.hK]; exact T
  have := call_isX (X := F.X i) (a := a) (pn := pn) T' z fv
  rw [F.hK] at this
  exact this
def dXa (a : Addr) (d : Option Addr) (f : Str) (te : DTE) : DTE := match d with
  | some dd => dXe a dd f te
  | none => fun _ _ _ _ => False
theorem de_xa (T : XfC F.K C) (hno : PySem.W.findIn F.K (.ref C) f = some none) (he : DE (F.su a (.ref C) d) W e te) (hb : ∀ i, attributeBase e f ((F.su a (.ref C) d).X i).env (eval e ((F.su a (.ref C) d).X i).env) = eval e ((F.su a (.ref C) d).X i).env := by intro _; rfl) : DE (F.su a (.ref C) d) W (.Attribute e f pos) (dXa a d f te) := by
  cases d with
  | none => exact de_no
  | some dd => exact de_xe T hno he hb
end
/-- which classes C is under: by a table -/
def ktTab (l : List (D × Bool)) (c : D) : Option Bool := match c with
  | .ty n => (l.find? fun p => match p.1 with | .ty m => decide (m = n) | _ => false).map (·.2)
  | .cls n => (l.find? fun p => match p.1 with | .cls m => decide (m = n) | _ => false).map (·.2)
  | _ => none
theorem kt_tab {K : PySem.W.Frag} {C : Addr} {l : List (D × Bool)} (h1 : ∀ n b, (D.ty n, b) ∈ l → PySem.W.kitOne K (.ref C) (.type n) = some b) (h2 : ∀ c b, (D.cls c, b) ∈ l → PySem.W.kitOne K (.ref C) (.ref c) = some b) : KitOf K C (ktTab l) := fun c b e => by
  cases c with
  | ty n =>
    have e : (l.find? fun p => match p.1 with | .ty m => decide (m = n) | _ => false).map (·.2) = some b := e
    obtain ⟨p, hp, hb⟩ := Option.map_eq_some_iff.mp e
    have m := List.mem_of_find?_eq_some hp
    have q := List.find?_some hp
    obtain ⟨d, b'⟩ := p
    cases d with
    | ty k =>
      have q : k = n := of_decide_eq_true q
      cases q; cases hb
      exact .inl ⟨_, rfl, h1 _ _ m⟩
    | _ => cases q
  | cls n =>
    have e : (l.find? fun p => match p.1 with | .cls m => decide (m = n) | _ => false).map (·.2) = some b := e
    obtain ⟨p, hp, hb⟩ := Option.map_eq_some_iff.mp e
    have m := List.mem_of_find?_eq_some hp
    have q := List.find?_some hp
    obtain ⟨d, b'⟩ := p
    cases d with
    | cls k =>
      have q : k = n := of_decide_eq_true q
      cases q; cases hb
      exact .inr ⟨_, rfl, h2 _ _ m⟩
    | _ => cases q
  | _ => cases e
end Dy
/-! sorted(set(t)), t a tuple of ints -/
namespace Dy
open PySem PySem.Spec PyProof.Rows L2
theorem ints_of_vals : ∀ {ns : List Int} {us : List Value}, Vals (ns.map V.int) us → IntsAre us ns
  | [], us, h => by cases h; exact .nil
  | n :: ns, us, h => by
    cases h with
    | cons h1 h2 =>
      obtain ⟨t, rfl⟩ := h1
      exact .cons n t (ints_of_vals h2)
def rSetTI (K : PySem.W.Frag) (w : World) : List V → Hp → VK → Prop := fun xs H Q => ∃ (l : Addr) (ns : List Int), xs = [.ref l] ∧ SqT K H l (ns.map V.int) ∧ ns.length ≤ 1000 ∧ ∀ p c, H p = none → c ≤ ns.length → Q (.ref p) (upd H p (SetO w p (fun j => decide (j ∈ ns)) c))
theorem cr_setTI {X : Cx} (hc : X.calm = true) : CallR X (.type "set") (rSetTI X.K X.w) := by
  rintro pins s σ H xs us Q I r ⟨l, ns, rfl, hs, hz, q⟩
  obtain ⟨u, rfl, rx⟩ := vals1 r
  cases rx
  obtain ⟨its, rv, tp, _⟩ := I.tuple hs
  have sb : ns.length + 1 < scanBound := Nat.lt_of_le_of_lt (Nat.succ_le_succ hz) (by decide)
  refine call_set_tupI ns (I.ok.hd hc) (show s.heap.IsTuple l its.toArray from tp) (by simpa using ints_of_vals rv) sb fun h' tk c R hcn k => ?_
  exact ⟨.ref _, _, I.laid (t' := tk) k (Nat.le_refl _) (setO_new R), rfl, q _ c (I.hok.fresh (Nat.le_refl _)) hcn⟩
theorem bt_set : bootBuiltins "set" = some (.type "set") := by decide +kernel
def dSortSet (te : DTE) : DTE := fun ρ S Q E => te ρ S (fun d S1 => ∃ ns : List Int, d = .tup (ns.map .int) ∧ ns.length < 64 ∧ ∀ ns' : List Int, ns'.Pairwise (· < ·) → (∀ k, k ∈ ns' ↔ k ∈ ns) → Q (.lst (ns'.map .int)) S1) E
theorem de_sortSet {F : Fam} {W : WX} {w : World} {e : Expr} {te : DTE} {p1 p2 p3 p4 : Pos} (hw : ∀ i, (F.X i).w = w) (hc : ∀ i, (F.X i).calm = true) (hm : ∀ i, (F.X i).mg "sorted" = none) (hm2 : ∀ i, (F.X i).mg "set" = none) (he : DE F W e te)
    (hg : ∀ i, Gl (F.X i) "sorted" := by intro _; rfl) (hg2 : ∀ i, Gl (F.X i) "set" := by intro _; rfl)
    (h1 : St1 F (.Call (.Name "set" p2) [e] [] p3) [] := by intro _; rfl) (h2 : St1 F e [] := by intro _; rfl) (g1 : Pl1 F p4 [] := by intro _; rfl) (g2 : Pl1 F p3 [] := by intro _; rfl) :
    DE F W (.Call (.Name "sorted" p1) [.Call (.Name "set" p2) [e] [] p3] [] p4) (dSortSet te) := by
  obtain ⟨t1, q1, k1⟩ := he
  refine ⟨tCB (rSortedSet w) (tCons (tCB (rSetTI F.K w) (tCons t1 tNil)) tNil), fun i => ?_, fun σ ρ φ S H E Q' Q o q h => ?_⟩
  · have a := pe_callTy (p := p2) (by have := cr_setTI (X := F.X i) (hc i); rw [F.hK i, hw i] at this; exact this) (hg2 i) (hm2 i) bt_set (pa_cons (q1 i) pa_nil (h2 i)) (he := h2 i) (hpl := g2 i)
    exact pe_callB (by have := cr_sortedSet (X := F.X i) (hc i); rw [hw i] at this; exact this) (hg i) (hm i) bt_sorted (pa_cons a pa_nil (h1 i)) (he := h1 i) (hpl := g1 i)
  · refine k1 σ ρ φ S H E _ _ o (fun φ1 H1 S1 d v s1 r1 rd h1 => ?_) h
    obtain ⟨ns, rfl, hz, h1⟩ := h1
    obtain ⟨a, vs, rfl, hs, rs⟩ := rd_tup rd
    cases ints_vs rs
    refine ⟨a, ns, rfl, hs, by omega, fun p c hp hcn => ?_⟩
    refine ⟨p, _, c, rfl, upd_same, by omega, fun ns' p2 hpw hmem hlen hp2 => ?_⟩
    have st := step_new (φ := φ1) (ho := SetO w p (fun j => decide (j ∈ ns)) c) hp
    exact ((q.mono s1).mono st).lst (r1.new hp) hp2 ints_ds (h1 ns' hpw fun k => by rw [hmem k]; exact decide_eq_true_iff)
end Dy
/-! reading on: dicts, enumerate, truth -/
namespace Dy
open PySem PySem.Spec PyProof.Rows L2
section
variable {ρ : Rho} {S : Store} {Q : QD} {E : XQ} {ta tb tc te to ti : DTE} {t : DTA} {d d2 x y : D} {i j n : Nat} {k : Key} {kvs : KVD} {nx bk ct : Rho → Store → Prop} {rt : D → Store → Prop} {ex : Exc → Rho → Store → Prop}
theorem dv_ref (e : S[n]? = some (.dK kvs)) : dvOf S (.ref n) = some kvs := by unfold dvOf; simp only [e]
theorem o_dget {v : D} (e : dvOf S x = some kvs) (e2 : kyOf y = some k) (e3 : valD kvs k = some v) (h : Q v S) : dDGet x y S Q := ⟨kvs, k, v, e, e2, e3, h⟩
theorem o_dIn {neg : Bool} (e : dvOf S x = some kvs) (e2 : kyOf y = some k) (h : Q (.bl (neg ^^ (valD kvs k).isSome)) S) : dDIn neg y x S Q := ⟨kvs, k, e, e2, h⟩
theorem s_setD (h : te ρ S (fun d S1 => to ρ S1 (fun o S2 => ti ρ S2 (fun i S3 => oDPut d o i (nx ρ) S3) (fun x S1 => ex x ρ S1)) (fun x S1 => ex x ρ S1)) (fun x S1 => ex x ρ S1)) : dSetD te to ti ⟨nx, rt, bk, ct, ex⟩ ρ S := h
theorem o_dput {R : Store → Prop} (e : S[n]? = some (.dK kvs)) (e2 : kyOf y = some k) (hz : kvs.length < 1000) (h : ∀ S', S'.length = S.length → S'[n]? = some (.dK (dputK kvs k d)) → (∀ m : Nat, m ≠ n → S'[m]? = S[m]?) → R S') : oDPut d (.ref n) y R S :=
  ⟨n, kvs, k, rfl, e, e2, hz, h _ (by simp) (List.getElem?_set_self (List.getElem?_eq_some_iff.mp e).1) fun m hm => List.getElem?_set_ne (Ne.symm hm)⟩
theorem s_augD {r : D2} (h : to ρ S (fun o S1 => ti ρ S1 (fun i S2 => oDAug r o i te nx (fun x S3 => ex x ρ S3) ρ S2) (fun x S1 => ex x ρ S1)) (fun x S1 => ex x ρ S1)) : dAugD to ti te r ⟨nx, rt, bk, ct, ex⟩ ρ S := h
theorem o_daug {r : D2} {R : Rho → Store → Prop} {v : D} (e : dvOf S x = some kvs) (e2 : kyOf y = some k) (e3 : valD kvs k = some v) (h : te ρ S (fun d S1 => r v d S1 fun z S2 => oDPut z x y (R ρ) S2) E) : oDAug r x y te R E ρ S := ⟨kvs, k, v, e, e2, e3, h⟩
theorem s_delD (h : to ρ S (fun o S1 => ti ρ S1 (fun i S2 => oDDel o i (nx ρ) S2) (fun x S1 => ex x ρ S1)) (fun x S1 => ex x ρ S1)) : dDelD to ti ⟨nx, rt, bk, ct, ex⟩ ρ S := h
theorem o_ddel {R : Store → Prop} (e : S[n]? = some (.dK kvs)) (e2 : kyOf y = some k) (e3 : (valD kvs k).isSome = true) (h : ∀ S', S'.length = S.length → S'[n]? = some (.dK (ddropK kvs k)) → (∀ m : Nat, m ≠ n → S'[m]? = S[m]?) → R S') : oDDel (.ref n) y R S :=
  ⟨n, kvs, k, rfl, e, e2, e3, h _ (by simp) (List.getElem?_set_self (List.getElem?_eq_some_iff.mp e).1) fun m hm => List.getElem?_set_ne (Ne.symm hm)⟩
theorem c_dpop (h : to ρ S (fun o S1 => (∃ kvs, dvOf S1 o = some kvs) ∧ ti ρ S1 (fun i S2 => oDPop o i S2 Q) E) E) : dPopD to ti ρ S Q E := h
theorem o_dvAnd {B : Prop} (e : dvOf S d = some kvs) (h : B) : (∃ kvs, dvOf S d = some kvs) ∧ B := ⟨⟨kvs, e⟩, h⟩
theorem o_dpop {v : D} (e : S[n]? = some (.dK kvs)) (e2 : kyOf y = some k) (e3 : valD kvs k = some v) (h : ∀ S', S'.length = S.length → S'[n]? = some (.dK (ddropK kvs k)) → (∀ m : Nat, m ≠ n → S'[m]? = S[m]?) → Q v S') : oDPop (.ref n) y S Q :=
  ⟨n, kvs, k, v, rfl, e, e2, e3, h _ (by simp) (List.getElem?_set_self (List.getElem?_eq_some_iff.mp e).1) fun m hm => List.getElem?_set_ne (Ne.symm hm)⟩
theorem c_disp {trs : List (DTE × DTE)} (h : dPairs trs ρ S (fun ps S1 => ∃ kvs : KVD, ps = kvs.map (fun kv => (kyD kv.1, kv.2)) ∧ kvs.length ≤ 15 ∧ Q (.dic ((dmergeK kvs).map (·.1)) ((dmergeK kvs).map (·.2))) S1) E) : dDisp trs ρ S Q E := h
theorem c_dispN {trs : List (DTE × DTE)} (h : dPairs trs ρ S (fun ps S1 => ∃ kvs : KVD, ps = kvs.map (fun kv => (kyD kv.1, kv.2)) ∧ kvs.length ≤ 15 ∧ Q (.ref S1.length) (S1 ++ [.dK (dmergeK kvs)])) E) : dDispN trs ρ S Q E := h
theorem c_pnil {QP : List (D × D) → Store → Prop} (h : QP [] S) : dPairs [] ρ S QP E := h
theorem c_pcons {QP : List (D × D) → Store → Prop} {tk tv : DTE} {r : List (DTE × DTE)} (h : tk ρ S (fun x S1 => tv ρ S1 (fun y S2 => dPairs r ρ S2 (fun ps S3 => QP ((x, y) :: ps) S3) E) E) E) : dPairs ((tk, tv) :: r) ρ S QP E := h
theorem c_tru {QT : Bool → Store → Prop} (h : te ρ S (fun d S1 => ∃ b, truD S1 d = some b ∧ QT b S1) E) : dTru te ρ S QT E := h
theorem o_tru {P : Bool → Prop} {b : Bool} (e : truD S d = some b) (h : P b) : ∃ b, truD S d = some b ∧ P b := ⟨b, e, h⟩
theorem o_lenD (e : dvOf S d = some kvs) (h : Q (.int kvs.length) S) : cLenD [d] S Q := ⟨d, kvs, rfl, e, h⟩
theorem o_listD (e : dvOf S d = some kvs) (h : Q (.lst (kvs.map fun kv => kyD kv.1)) S) : cListD [d] S Q := ⟨d, kvs, rfl, e, h⟩
theorem o_dictD (e : dvOf S d = some kvs) (h : Q (.ref S.length) (S ++ [.dK kvs])) : cDictD [d] S Q := ⟨d, kvs, rfl, e, h⟩
theorem o_sortI {ns : List Int} (e : lsOf S d = some (ns.map .int)) (h : ∀ ns' : List Int, ns'.Perm ns → ns'.Pairwise (· ≤ ·) → Q (.lst (ns'.map .int)) S) : cSortI [d] S Q := ⟨d, ns, rfl, e, h⟩
theorem o_sortD {ns : List Int} (e : dvOf S d = some kvs) (e2 : kvs.map (·.1) = ns.map Sum.inl) (hz : ns.length < 64) (h : ∀ ns' : List Int, ns'.Perm ns → ns'.Pairwise (· ≤ ·) → Q (.lst (ns'.map .int)) S) : cSortD [d] S Q := ⟨d, kvs, ns, rfl, e, e2, hz, h⟩
theorem c_sortSet (h : te ρ S (fun d S1 => ∃ ns : List Int, d = .tup (ns.map .int) ∧ ns.length < 64 ∧ ∀ ns' : List Int, ns'.Pairwise (· < ·) → (∀ k, k ∈ ns' ↔ k ∈ ns) → Q (.lst (ns'.map .int)) S1) E) : dSortSet te ρ S Q E := h
theorem s_enT {R : List D → (Store → Prop) → Store → Prop} (h : t ρ S (fun ds S1 => ∃ xs, ds = [.tup xs] ∧ R (enD xs) (fun _ => True) S1) E) : jEnT t ρ S R E := h
theorem s_enL {R : List D → (Store → Prop) → Store → Prop} (h : t ρ S (fun ds S1 => ∃ d xs, ds = [d] ∧ lsOf S1 d = some xs ∧ R (enD xs) (fun S => lsOf S d = some xs) S1) E) : jEnL t ρ S R E := h
theorem o_enT {R : List D → Prop} {xs : List D} (h : R xs) : ∃ ys, [D.tup xs] = [.tup ys] ∧ R ys := ⟨xs, rfl, h⟩
end
end Dy
/-! methods as callers know them -/
namespace Dy
open PySem PySem.Spec PyProof.Rows L2
def CalMt (P : Program) (w : World) (K : PySem.W.Frag) (mg : Str → Option Value) (base : Heap) (m : Str) (C : Addr) (k : Nat) (ps : List Str) (sp : DSp) : Prop :=
  ∃ fi fd, Cls K C ∧ Meth K C m fi ∧ FnOk P w K mg base (L2.CX P w) k fi fd ps (liftSp K sp) ∧ Binds K fd ps []
section
variable {F : Fam} {W : WX} {o e : Expr} {es : List Expr} {to : DTE} {t : DTA} {pos apos : Pos} {k k2 : Nat} {m : Str} {ps : List Str} {sp : DSp} {C : Addr} {P : Program} {w : World} {mg : Str → Option Value} {base : Heap}
theorem de_methC (c : CalMt P w F.K mg base m C k ps sp) (hP : ∀ i, (F.X i).prog = P) (hw : ∀ i, (F.X i).w = w) (hmg : ∀ i, (F.X i).mg = mg) (hb : ∀ i, (F.X i).base = base) (hr : ∀ i, Room k2 (F.X i).A) (hk : k ≤ k2) (tk : ∀ i, Takes (F.X i) W) (ho : DE F W o to) (ha : DA F W (e :: es) t)
    (hst : ∀ i, starEach (e :: es) (F.X i).env = (false, eval e (F.X i).env) :: starEach es (F.X i).env := by intro _; rfl) (hpl : ∀ i, (backTo pos (starEach es (F.X i).env)).any (·.1) = false := by intro _; rfl)
    (ht : ∀ i, eval (.Call (.Attribute o m apos) (e :: es) [] pos) (F.X i).env = (do
      let ov ← eval o (F.X i).env
      standAt apos.atName
      let (f, first) ← holding [ov] (getMethod ov m (do return (← importBound o (F.X i).env).getD true))
      callWith pos f first (backTo pos (starEach (e :: es) (F.X i).env)) (backToKw pos (keywordEach [] (F.X i).env))) := by intro _; rfl) : DE F W (.Call (.Attribute o m apos) (e :: es) [] pos) (dMeth C m sp to t) := by
  obtain ⟨fi, fd, cc, hm, G, bd⟩ := c
  exact de_meth cc hm (fun i => by rw [hP i, hw i, hmg i, hb i, F.hK i]; exact G) (fun i => (hr i).mono hk) (fun i => by rw [F.hK i]; exact bd) tk ho ha hst hpl ht
theorem de_methC0 (c : CalMt P w F.K mg base m C k ps sp) (hP : ∀ i, (F.X i).prog = P) (hw : ∀ i, (F.X i).w = w) (hmg : ∀ i, (F.X i).mg = mg) (hb : ∀ i, (F.X i).base = base) (hr : ∀ i, Room k2 (F.X i).A) (hk : k ≤ k2) (tk : ∀ i, Takes (F.X i) W) (ho : DE F W o to)
    (ht : ∀ i, eval (.Call (.Attribute o m apos) [] [] pos) (F.X i).env = (do
      let ov ← eval o (F.X i).env
      standAt apos.atName
      let (f, first) ← holding [ov] (getMethod ov m (do return (← importBound o (F.X i).env).getD true))
      callWith pos f first (backTo pos (starEach [] (F.X i).env)) (backToKw pos (keywordEach [] (F.X i).env))) := by intro _; rfl) : DE F W (.Call (.Attribute o m apos) [] [] pos) (dMeth C m sp to dNil) := by
  obtain ⟨fi, fd, cc, hm, G, bd⟩ := c
  exact de_meth0 cc hm (fun i => by rw [hP i, hw i, hmg i, hb i, F.hK i]; exact G) (fun i => (hr i).mono hk) (fun i => by rw [F.hK i]; exact bd) tk ho ht
end
/-- Herd() : a class whose __init__ takes self alone -/
theorem de_makeC0 {F : Fam} {W : WX} {p pos : Pos} {k k2 : Nat} {x : Str} {ps : List Str} {sp : DSp} {C : Addr} {P : Program} {w : World} {mg : Str → Option Value} {base : Heap} (c : CalM P w F.K mg base x C k ps sp) (hP : ∀ i, (F.X i).prog = P) (hw : ∀ i, (F.X i).w = w) (hmg : ∀ i, (F.X i).mg = mg) (hb : ∀ i, (F.X i).base = base) (hr : ∀ i, Room k2 (F.X i).A) (hk : k + 1 ≤ k2) (tk : ∀ i, Takes (F.X i) W)
    (hg : ∀ i, Gl (F.X i) x := by intro _; rfl) (hdb : (x == ("__debug__" : Str)) = false := by decide) : DE F W (.Call (.Name x p) [] [] pos) (dMake C sp dNil) := by
  obtain ⟨fi, fd, M, G, gm, bd⟩ := c
  exact de_make0 (fi := fi) (fd := fd) (k := k) (ps := ps) (fun i => by rw [F.hK i]; exact M) (fun i => by rw [hP i, hw i, hmg i, hb i, F.hK i]; exact G) (fun i => (hr i).mono hk) hg (fun i => by rw [hmg i]; exact gm) (fun i => by rw [F.hK i]; exact bd) tk hdb
def oMethAt (C : Addr) (m : Str) (o : D) (S1 : Store) : Prop := ∃ n fs, o = .ref n ∧ S1[n]? = some (.ins C fs) ∧ fs.lookup m = none
theorem c_meth {C : Addr} {m : Str} {sp : DSp} {to : DTE} {t : DTA} {ρ : Rho} {S : Store} {Q : QD} {E : XQ} (h : to ρ S (fun o S1 => oMethAt C m o S1 ∧ t ρ S1 (fun ds S2 => sp (o :: ds) S2 Q E) E) E) (mono : ∀ Q1 Q2, (∀ d S, Q1 d S → Q2 d S) → to ρ S Q1 E → to ρ S Q2 E) : dMeth C m sp to t ρ S Q E :=
  mono _ _ (fun o S1 hh => by
    obtain ⟨⟨n, fs, rfl, e1, e2⟩, h⟩ := hh
    exact ⟨n, fs, rfl, e1, e2, h⟩) h
theorem c_methV {C : Addr} {m : Str} {sp : DSp} {i n : Nat} {fs : List (Str × D)} {t : DTA} {ρ : Rho} {S : Store} {Q : QD} {E : XQ} (e : ρ[i]? = some (some (.ref n))) (e1 : S[n]? = some (.ins C fs)) (e2 : fs.lookup m = none) (h : t ρ S (fun ds S2 => sp (.ref n :: ds) S2 Q E) E) : dMeth C m sp (dVar i) t ρ S Q E :=
  ⟨.ref n, e, n, fs, rfl, e1, e2, h⟩
end Dy
/-! a dict of the module, texts for keys, that nobody changes -/
namespace Dy
open PySem PySem.Spec PyProof.Rows L2
structure KTab (K : PySem.W.Frag) (w : World) (a : Addr) (tab : List (Str × D)) : Prop where
  kd : ∃ es n, KDict K w a es n
  at_ : ∀ s, (∃ d u v, tab.lookup s = some d ∧ PySem.W.nsIn K a s = some (some u) ∧ RelV v u ∧ Flat d v) ∨ (tab.lookup s = none ∧ PySem.W.nsIn K a s = some none)
def rKIn (K : PySem.W.Frag) (a : Addr) (neg : Bool) : R2 := fun x y H Q => ∃ (z : Str) (r : Option Value), x = .str z ∧ y = .ref a ∧ PySem.W.nsIn K a z = some r ∧ Q (.bl (neg ^^ r.isSome)) H
def dKIn (tab : List (Str × D)) (a : Addr) (neg : Bool) : D2 := fun x y S Q => ∃ s, x = .str s ∧ y = .cls a ∧ Q (.bl (neg ^^ (tab.lookup s).isSome)) S
theorem lk_kIn {K : PySem.W.Frag} {w : World} {a : Addr} {tab : List (Str × D)} (T : KTab K w a tab) (neg : Bool) : Lk K (dKIn tab a neg) (rKIn K a neg) := by
  rintro φ S H Q' Q x y v1 v2 r r1 r2 q ⟨s, rfl, rfl, h⟩
  rw [RD] at r1
  have r2 : v2 = .ref a := by rw [RD] at r2; exact r2
  rcases T.at_ s with ⟨d, u, v, e1, e2, _, _⟩ | ⟨e1, e2⟩
  · rw [e1] at h
    exact ⟨s, _, r1, r2, e2, q φ H S _ _ .refl r rd_bl h⟩
  · rw [e1] at h
    exact ⟨s, _, r1, r2, e2, q φ H S _ _ .refl r rd_bl h⟩
section
variable {F : Fam} {w : World} {a : Addr} {tab : List (Str × D)}
theorem oq_kIn (T : KTab F.K w a tab) (hw : ∀ i, (F.X i).w = w) (i : F.ι) : OpR (F.X i) (compareOp .In) (rKIn F.K a false) := by
  obtain ⟨es, n, kd⟩ := T.kd
  have D : KDict (F.X i).K (F.X i).w a es n := by rw [F.hK i, hw i]; exact kd
  rintro pins s σ H x y v u Q I rx ry ⟨z, r, rfl, rfl, e, q⟩
  exact op_in_kd D pins s σ H _ _ v u Q I rx ry ⟨z, r, rfl, rfl, by rw [F.hK i]; exact e, by rw [Bool.false_xor] at q; exact q⟩
theorem oq_kNotIn (T : KTab F.K w a tab) (hw : ∀ i, (F.X i).w = w) (i : F.ι) : OpR (F.X i) (compareOp .NotIn) (rKIn F.K a true) := by
  obtain ⟨es, n, kd⟩ := T.kd
  have D : KDict (F.X i).K (F.X i).w a es n := by rw [F.hK i, hw i]; exact kd
  rintro pins s σ H x y v u Q I rx ry ⟨z, r, rfl, rfl, e, q⟩
  exact op_notIn_kd D pins s σ H _ _ v u Q I rx ry ⟨z, r, rfl, rfl, by rw [F.hK i]; exact e, by rw [Bool.true_xor] at q; exact q⟩
/-- d[k] -/
def dKGet (tab : List (Str × D)) (a : Addr) : D2 := fun x y S Q => ∃ s d, x = .cls a ∧ y = .str s ∧ tab.lookup s = some d ∧ Q d S
theorem flat_rd {K : PySem.W.Frag} {φ : Al} {H : Hp} {d : D} {v : V} (h : Flat d v) : RD K φ H d v := by
  cases d <;> first | (rw [RD]; exact h) | exact h.elim
theorem de_kget {W : WX} {o i : Expr} {td ty : DTE} {pos : Pos} (T : KTab F.K w a tab) (hw : ∀ i, (F.X i).w = w) (ho : DE F W o td) (hi : DE F W i ty) (hs : PlainIx i := by exact fun _ _ => rfl) : DE F W (.Subscript o i pos) (dOp (dKGet tab a) td ty) := by
  obtain ⟨es, n, kd⟩ := T.kd
  refine de_ix (r := rIxD F.K w) (fun i => by have := ix_kdict (X := F.X i); rw [F.hK i, hw i] at this; exact this) ?_ ho hi hs
  rintro φ S H Q' Q x y v1 v2 r r1 r2 q ⟨s, d, rfl, rfl, e, h⟩
  rw [RD] at r2
  have r1 : v1 = .ref a := by rw [RD] at r1; exact r1
  rcases T.at_ s with ⟨d', u, v, e1, e2, e3, e4⟩ | ⟨e1, e2⟩
  · rw [e] at e1
    cases e1
    exact ⟨a, s, v, r1, r2, ⟨es, n, u, kd.at_, kd.lit, e2, e3⟩, q φ H S _ _ .refl r (flat_rd e4) h⟩
  · rw [e] at e1; cases e1
end
theorem o_kIn {tab : List (Str × D)} {a : Addr} {neg : Bool} {s : Str} {S : Store} {Q : QD} (h : Q (.bl (neg ^^ (tab.lookup s).isSome)) S) : dKIn tab a neg (.str s) (.cls a) S Q := ⟨s, rfl, rfl, h⟩
theorem o_kGet {tab : List (Str × D)} {a : Addr} {s : Str} {d : D} {S : Store} {Q : QD} (e : tab.lookup s = some d) (h : Q d S) : dKGet tab a (.cls a) (.str s) S Q := ⟨s, d, rfl, rfl, e, h⟩
end Dy
/-! sorted of a tuple of ints, of a list of tuples of ints; count and index of flags -/
namespace Dy
open PySem PySem.Spec PyProof.Rows L2 SrtO
section
variable {prog : Program} {w : World} {A : Around} {E : Value → Shared → Prop} {s : Shared}
theorem collect_tup {l : Addr} {vs : List Value} {Q : List Value → Shared → Prop} (hl : s.heap.IsTuple l vs.toArray)
    (h : Q vs { s with heap := (s.heap.push (seqObj "list" #[] 0)).update s.heap.objs.size (Obj.mapSeq (· ++ vs.toArray)) }) (hsz : vs.length ≤ sizeLine) :
    wpAny (model prog w) A (collect (.ref l)) Q E s := by
  obtain ⟨o, ho, hc, n, hd⟩ := id hl
  unfold collect
  refine wpAny_bind (wpAny_runValue (codeAny_builtin entry_proto_collect' ?_))
  show wpAny _ _ (do again (.builtin "list.__iadd__" ⟨[← newList [], .ref l], []⟩)) _ _ s
  refine wpAny_bind (wpAny_newList (wpAny_pure ⟨Code.quiet_builtin _ (by decide +kernel), codeAny_builtin entry_list_iadd' ?_⟩))
  show wpAny _ _ (Builtin.List.listExtendWith (.ref s.heap.objs.size) (.ref l) (.ref s.heap.objs.size)) _ _ { s with heap := s.heap.push (seqObj "list" #[] 0) }
  unfold Builtin.List.listExtendWith
  have ho' : (s.heap.push (seqObj "list" #[] 0)).get? l = some o := Heap.get?_push_of_some _ ho
  refine wpAny_bind (wpAny_typeOf (T := "tuple") ⟨o, ho', hc⟩ ?_)
  have ht : (Value.type "tuple" == Value.type "tuple") = true := by rfl
  rw [if_pos (by rw [ht]; simp)]
  refine wpAny_bind (listItems_at ho' hd ?_)
  refine wpAny_bind (listItems_at (xs := #[]) (n := 0) (Heap.get?_push_size _ rfl) rfl ?_)
  rw [if_neg (by simp)]
  refine wpAny_bind (listUpdate_at (xs := #[]) (n := 0) (Heap.get?_push_size _ rfl) rfl ?_ (Nat.zero_le _) (by show (#[] ++ vs.toArray).size ≤ sizeLine + 1; simp only [Array.size_append, List.size_toArray, List.length_nil]; simp; omega))
  refine wpAny_pure ?_
  show wpAny (model prog w) A (do
      let o ← load s.heap.objs.size
      match o.data with
      | .seq xs _ => pure xs.toList
      | _ => unsupported "internal:collect") Q E { s with heap := (s.heap.push (seqObj "list" #[] 0)).update s.heap.objs.size (Obj.mapSeq (· ++ vs.toArray)) }
  refine wpAny_bind (wpAny_load (get?_update_seq (Heap.get?_push_size _ rfl) _) ?_)
  show wpAny _ _ (pure ((#[] : Array Value) ++ vs.toArray).toList) Q E _
  rw [show ((#[] : Array Value) ++ vs.toArray).toList = vs by simp]
  exact wpAny_pure h
/-- sorted(t), t a tuple -/
theorem sorted_ordT {l : Addr} {vs : List Value} {ltv : Value → Value → Bool} {Q : Value → Shared → Prop} (O : Swo ltv) (hl : s.heap.IsTuple l vs.toArray) (hz : vs.length ≤ sizeLine)
    (hS : 2 ≤ vs.length → ∀ (h₁ : Heap) (a : Addr), h₁.get? a = some (seqObj "list" vs.toArray 0) → (∀ b o, s.heap.get? b = some o → b ≠ a ∧ h₁.get? b = some o) → SortableO prog w A.in1.in1 { s with heap := h₁ } a vs ltv)
    (h : ∀ out : List Value, Srtd ltv out → Stb ltv out vs → Q (.ref (s.heap.objs.size + 1)) { s with heap := sortedAll s.heap vs out.toArray }) :
    wpAny (model prog w) A (call (.builtin "sorted") [.ref l]) Q E s := by
  refine Calls.call_function_entry kind_sorted plain_sorted entry_sorted (args_sorted1 _) ?_
  unfold Builtin.«sorted»
  refine wpAny_bind (m := checkCount "sorted" 1 1 _) (wpAny_pure ?_)
  refine wpAny_bind (collect_tup hl ?_ hz)
  refine wpAny_bind (wpAny_newList ?_ hz)
  have hsz : ((s.heap.push (seqObj "list" #[] 0)).update s.heap.objs.size (Obj.mapSeq (· ++ vs.toArray))).objs.size = s.heap.objs.size + 1 := by
    rw [Heap.size_update, size_push']
  have hoL : (((s.heap.push (seqObj "list" #[] 0)).update s.heap.objs.size (Obj.mapSeq (· ++ vs.toArray))).push (seqObj "list" vs.toArray 0)).get? (s.heap.objs.size + 1) = some (seqObj "list" vs.toArray 0) := by
    rw [← hsz]; exact Heap.get?_push_size _ rfl
  have keep : ∀ b o, s.heap.get? b = some o → b ≠ s.heap.objs.size + 1 ∧ (((s.heap.push (seqObj "list" #[] 0)).update s.heap.objs.size (Obj.mapSeq (· ++ vs.toArray))).push (seqObj "list" vs.toArray 0)).get? b = some o := fun b o q => by
    have hlt : b < s.heap.objs.size := Heap.lt_size q
    refine ⟨Nat.ne_of_lt (Nat.lt_succ_of_lt hlt), Heap.get?_push_of_some _ ?_⟩
    rw [Heap.get?_update_ne _ _ _ _ (Nat.ne_of_lt hlt)]
    exact Heap.get?_push_of_some _ q
  show wpAny _ _ _ _ _ { s with heap := ((s.heap.push (seqObj "list" #[] 0)).update s.heap.objs.size (Obj.mapSeq (· ++ vs.toArray))).push (seqObj "list" vs.toArray 0) }
  rw [hsz]
  refine wpAny_bind (wpAny_holding (wpAny_call_entry slot_list_sort ⟨_, hoL, rfl⟩ entry_list_sort (list_sort_ord O hoL hz (fun h2 => hS h2 _ _ hoL keep) fun out hs hb => ⟨_, rfl, ?_⟩) (args_list_sort _)))
  exact wpAny_pure ⟨_, rfl, h out hs hb⟩
end
def rSortTI (K : PySem.W.Frag) : List V → Hp → VK → Prop := fun vs H Q => ∃ (a : Addr) (ns : List Int), vs = [V.ref a] ∧ SqT K H a (ns.map V.int) ∧ ∀ (ns' : List Int) (p : Addr), ns'.Perm ns → ns'.Pairwise (· ≤ ·) → H p = none → Q (.ref p) (upd H p (.lst (ns'.map V.int)))
theorem cr_sortTI {X : Cx} : CallR X (.builtin "sorted") (rSortTI X.K) := by
  intro pins s σ H vs us Q I r h
  obtain ⟨a, ns, rfl, hs, q⟩ := h
  obtain ⟨its, rv, hl, hz⟩ := I.tuple hs
  rw [Vals.ref1 r]
  have hi := rv.ints
  have hz' : its.length ≤ sizeLine := by rw [← rv.length]; exact hz
  refine sorted_ordT SrtO.swo_int (show s.heap.IsTuple a its.toArray from hl) hz' (fun h2 h₁ a' _ _ => SrtO.ints_sortable hi h2) fun out h1 h2 => ?_
  obtain ⟨k1, k2, k3⟩ := SrtO.ints_out hi h1 h2
  obtain ⟨ep, he'⟩ := PyProof.Rows.sortedAll_at s.heap its out.toArray
  have hlen : ((out.map SrtO.iv).map V.int).length ≤ sizeLine := by
    rw [List.length_map, k2.length_eq]
    have := rv.length
    rw [List.length_map] at this
    omega
  exact ⟨.ref _, upd H (s.heap.objs.size + 1) (.lst ((out.map SrtO.iv).map V.int)), I.laid (t' := s.toks) (fun _ _ => PyProof.Rows.sortedAll_old) (Nat.le_succ _) ⟨hlen, out, ep, vals_of_ints k1, he'⟩, rfl, q _ _ k2 k3 (I.hok.fresh (Nat.le_succ _))⟩
def cSortT : DR := fun ds S Q => ∃ (ns : List Int), ds = [.tup (ns.map .int)] ∧ ∀ ns' : List Int, ns'.Perm ns → ns'.Pairwise (· ≤ ·) → Q (.lst (ns'.map .int)) S
theorem lk_sortT {K : PySem.W.Frag} : LkC K cSortT (rSortTI K) := by
  rintro φ S H Q' Q ds vs r rd q ⟨ns, rfl, h⟩
  obtain ⟨v, rfl, h1⟩ := rds1 rd
  obtain ⟨a, ws, rfl, h2, h3⟩ := rd_tup h1
  cases ints_vs h3
  exact ⟨a, ns, rfl, h2, fun ns' p g1 g2 hp => q.lst r hp ints_ds (h ns' g1 g2)⟩
/-! ### a list of tuples of ints -/
section
variable {prog : Program} {w : World} {A : Around} {E : Value → Shared → Prop} {s : Shared}
theorem klex {b fin : Bool} {Q : Bool → Shared → Prop} : ∀ (vs us : List Value) (ns ms : List Int) (i : Nat), IntsAre vs ns → IntsAre us ms → fin = decide (vs.length < us.length) → Q (HT.lexLt ns ms) s → PySem.W.KatLex prog w A b fin Q (vs.zip us) i s
  | [], us, ns, ms, i, h1, h2, hf, q => by
    cases h1
    rw [List.zip_nil_left]
    refine PySem.W.kat_nil ?_
    rw [hf]
    cases h2 with
    | nil => rw [HT.lexLt_nil_nil] at q; exact q
    | cons a t h => rw [HT.lexLt_nil_cons] at q; simpa using q
  | v :: vs, [], ns, ms, i, h1, h2, hf, q => by
    cases h2
    rw [List.zip_nil_right]
    refine PySem.W.kat_nil ?_
    rw [hf]
    cases h1 with
    | cons a t h => rw [HT.lexLt_cons_nil] at q; simpa using q
  | v :: vs, u :: us, ns, ms, i, h1, h2, hf, q => by
    cases h1 with
    | cons a t h1 =>
      cases h2 with
      | cons c t2 h2 =>
        rw [List.zip_cons_cons]
        rw [HT.lexLt_cons] at q
        refine PySem.W.kat_cons (SeqAt.EqAt.int_int a t c t2 prog w _ _ ?_)
        refine PySem.W.kat_go (fun e1 => ?_) (fun e1 => ?_)
        · have ex : a = c := by simpa using e1
          rw [if_pos ex] at q
          exact PySem.W.kat_yes (klex vs us _ _ _ h1 h2 (by rw [hf]; simp) q)
        · have ex : ¬ a = c := by simpa using e1
          rw [if_neg ex] at q
          exact PySem.W.kat_no (TS.oneLt_ints _ q)
theorem tups_cmp {vs : List Value} {k : Value → List Int} (hp : ∀ v ∈ vs, TS.TupInts s.heap v (k v)) : Cmp prog w A s (tuples' true) (fun p => p.1 ∈ vs) (lt2 fun v u => HT.lexLt (k v) (k u)) := by
  intro p q hm hm'
  obtain ⟨a, xs, e, ⟨o, ho, hc, n, hd⟩, hi⟩ := hp _ hm
  obtain ⟨a', xs', e', ⟨o', ho', hc', n', hd'⟩, hi'⟩ := hp _ hm'
  show wpAny (model prog w) A (keyLt' (tuples' true) p.1 q.1) (fun r s' => s' = s ∧ r = HT.lexLt (k p.1) (k q.1)) (fun _ _ => False) s
  generalize k p.1 = ns at hi ⊢
  generalize k q.1 = ms at hi' ⊢
  rw [e, e']
  refine PySem.W.kat_lt ho hd ho' hd' (klex _ _ _ _ _ hi hi' (by simp) ⟨rfl, rfl⟩)
theorem firsts_tups {h : Heap} : ∀ {vs : List Value}, (∀ v ∈ vs, ∃ ns, ns ≠ [] ∧ TS.TupInts h v ns) → ∃ fs : List Value, PySem.W.KatTups h vs fs ∧ fs.length = vs.length ∧ ∀ f ∈ fs, ∃ x t, f = Value.int x t
  | [], _ => ⟨[], PySem.W.KatTups.nil, rfl, fun _ hm => by simp at hm⟩
  | v :: vs, hp => by
    obtain ⟨fs, h1, h2, h3⟩ := firsts_tups (vs := vs) fun v' hm => hp v' (List.mem_cons_of_mem _ hm)
    obtain ⟨ns, hne, a, xs, e, ⟨o, ho, hc, n, hd⟩, hi⟩ := hp v (List.mem_cons_self ..)
    subst e
    obtain ⟨xl⟩ := xs
    simp only at hi
    cases hi with
    | nil => exact absurd rfl hne
    | cons x t hi =>
      refine ⟨.int x t :: fs, PySem.W.KatTups.cons ho hc hd (by simp) h1, by rw [List.length_cons, List.length_cons, h2], fun f hm => ?_⟩
      rcases List.mem_cons.mp hm with rfl | hm
      · exact ⟨x, t, rfl⟩
      · exact h3 f hm
theorem tups_sortableO {a : Addr} {vs : List Value} {k : Value → List Int} (h0 : 0 < vs.length) (hp : ∀ v ∈ vs, k v ≠ [] ∧ TS.TupInts s.heap v (k v)) (ha : ∀ o, s.heap.get? a = some o → o.cls ≠ .type "tuple") : SortableO prog w A s a vs fun v u => HT.lexLt (k v) (k u) := by
  intro h' keep
  have hp' : ∀ v ∈ vs, TS.TupInts h' v (k v) := fun v hm => (hp v hm).2.keeps fun b o e c => keep b o (fun z => by subst z; exact ha o e c) e
  obtain ⟨fs, h1, h2, h3⟩ := firsts_tups fun v hm => ⟨_, (hp v hm).1, hp' v hm⟩
  refine ⟨tuples' true, fun Q E hq => ?_, tups_cmp hp'⟩
  refine PySem.W.kat_kind (T := .type "int") h1 (by omega) (fun f hm => ?_) (by rfl) ?_
  · obtain ⟨x, t, rfl⟩ := h3 f hm
    exact PySem.W.Looks.now
  · have e : (Value.type "int" != Value.type "tuple") = true := by first | decide +kernel | rfl | decide
    rw [e]
    exact hq
end
def adN : Value → Addr
  | .ref a => a
  | _ => 0
/-- sorted(xs), xs a list of tuples of ints, none empty -/
def rSortLT (K : PySem.W.Frag) : List V → Hp → VK → Prop := fun vs H Q => ∃ (a : Addr) (L : List (Addr × List Int)), vs = [V.ref a] ∧ SqL K H a (L.map fun p => V.ref p.1) ∧ (∀ p ∈ L, p.2 ≠ [] ∧ SqT K H p.1 (p.2.map V.int)) ∧
  ∀ (L' : List (Addr × List Int)) (p : Addr), L'.Perm L → L'.Pairwise (fun x y => HT.lexLt y.2 x.2 = false) → H p = none → Q (.ref p) (upd H p (.lst (L'.map fun p => V.ref p.1)))
theorem refs_its : ∀ {L : List (Addr × List Int)} {us : List Value}, Vals (L.map fun p => V.ref p.1) us → us = L.map fun p => Value.ref p.1
  | [], us, r => by
    rw [List.map_nil] at r
    cases r
    rfl
  | t :: ts, us, r => by
    rw [List.map_cons] at r
    cases r with
    | cons h q =>
      cases h
      rw [List.map_cons, ← refs_its q]
theorem its_refs : ∀ (L : List (Addr × List Int)), Vals (L.map fun p => V.ref p.1) (L.map fun p => Value.ref p.1)
  | [] => .nil
  | _ :: L => .cons rfl (its_refs L)
theorem cr_sortLT {X : Cx} : CallR X (.builtin "sorted") (rSortLT X.K) := by
  intro pins s σ H vs us Q I r h
  obtain ⟨a, L, rfl, hs, hx, q⟩ := h
  obtain ⟨its, rv, hl, hz⟩ := I.list hs
  rw [Vals.ref1 r]
  have e1 := refs_its rv
  have hT : ∀ p ∈ L, TS.TupInts s.heap (.ref p.1) p.2 := fun p hp => tupI_raw I (hx p hp).2
  have hk : ∀ p ∈ L, TS.intsOf s.heap (.ref p.1) = p.2 := fun p hp => (hT p hp).ints
  have hT2 : ∀ v ∈ its, TS.intsOf s.heap v ≠ [] ∧ TS.TupInts s.heap v (TS.intsOf s.heap v) := fun v hv => by
    rw [e1] at hv
    obtain ⟨p, hp, rfl⟩ := List.mem_map.mp hv
    rw [hk p hp]
    exact ⟨(hx p hp).1, hT p hp⟩
  refine SrtO.sorted_ord (NtL.swo_lexL fun v => TS.intsOf s.heap v) hl.isList (by rw [← rv.length]; exact hz) (fun h2 h₁ a' ha kk => ?_) fun out h1 h2 => ?_
  · refine tups_sortableO (s := { s with heap := h₁ }) (by omega) (fun v hm => ⟨(hT2 v hm).1, (hT2 v hm).2.keeps fun b o e _ => (kk b o e).2⟩) fun o e => ?_
    have e' : some o = some (seqObj "list" its.toArray 0) := e.symm.trans ha
    cases e'
    intro c
    exact absurd (Value.type.inj c) (by decide)
  · obtain ⟨ep, he'⟩ := PyProof.Rows.sortedAll_at s.heap its out.toArray
    have hb : ∀ v ∈ out, ∃ p ∈ L, v = Value.ref p.1 := fun v hv => by
      have := h2.perm.mem_iff.mp hv
      rw [e1] at this
      obtain ⟨p, hp, e⟩ := List.mem_map.mp this
      exact ⟨p, hp, e.symm⟩
    let L' : List (Addr × List Int) := out.map fun v => (adN v, TS.intsOf s.heap v)
    have hp : L'.Perm L := by
      have := h2.perm.map fun v => (adN v, TS.intsOf s.heap v)
      rw [e1, List.map_map] at this
      have e : (L.map ((fun v => (adN v, TS.intsOf s.heap v)) ∘ fun p => Value.ref p.1)) = L := by
        conv => rhs; rw [← List.map_id L]
        refine List.map_congr_left fun p hp => ?_
        show (p.1, TS.intsOf s.heap (Value.ref p.1)) = p
        rw [hk p hp]
      rw [e] at this
      exact this
    have eo : L'.map (fun p => Value.ref p.1) = out := by
      show (out.map _).map _ = out
      rw [List.map_map]
      conv => rhs; rw [← List.map_id out]
      refine List.map_congr_left fun v hv => ?_
      obtain ⟨p, _, rfl⟩ := hb v hv
      rfl
    have hlen : (L'.map fun p => V.ref p.1).length ≤ sizeLine := by
      rw [List.length_map, hp.length_eq]
      rw [List.length_map] at hz
      exact hz
    have rvo := its_refs L'
    rw [eo] at rvo
    exact ⟨.ref _, upd H (s.heap.objs.size + 1) (.lst (L'.map fun p => V.ref p.1)), I.laid (t' := s.toks) (fun _ _ => PyProof.Rows.sortedAll_old) (Nat.le_succ _) ⟨hlen, out, ep, rvo, he'⟩, rfl, q L' _ hp (List.pairwise_map.mpr h1) (I.hok.fresh (Nat.le_succ _))⟩
abbrev tupI (l : List Int) : D := .tup (l.map .int)
def cSortLT : DR := fun ds S Q => ∃ (d : D) (ls : List (List Int)), ds = [d] ∧ lsOf S d = some (ls.map tupI) ∧ (∀ l ∈ ls, l ≠ []) ∧ ∀ ls' : List (List Int), ls'.Perm ls → ls'.Pairwise (fun p q => HT.lexLt q p = false) → Q (.lst (ls'.map tupI)) S
theorem tupsI {K : PySem.W.Frag} {φ : Al} {H : Hp} : ∀ {ls : List (List Int)} {vs : List V}, RDs K φ H (ls.map tupI) vs → ∃ L : List (Addr × List Int), vs = L.map (fun p => V.ref p.1) ∧ L.map (·.2) = ls ∧ ∀ p ∈ L, SqT K H p.1 (p.2.map V.int)
  | [], vs, h => by rw [List.map_nil, RDs] at h; exact ⟨[], h, rfl, fun p m => by cases m⟩
  | l :: ls, vs, h => by
    rw [List.map_cons, RDs] at h
    obtain ⟨v, r, rfl, h1, h2⟩ := h
    obtain ⟨a, ws, rfl, g1, g2⟩ := rd_tup h1
    cases ints_vs g2
    obtain ⟨L, rfl, e2, e3⟩ := tupsI h2
    refine ⟨(a, l) :: L, rfl, by rw [List.map_cons, e2], fun p m => ?_⟩
    rcases List.mem_cons.mp m with rfl | m
    · exact g1
    · exact e3 p m
theorem tupsI_rd {K : PySem.W.Frag} {φ : Al} {H : Hp} : ∀ {L : List (Addr × List Int)}, (∀ p ∈ L, SqT K H p.1 (p.2.map V.int)) → RDs K φ H ((L.map (·.2)).map tupI) (L.map fun p => V.ref p.1)
  | [], _ => .nil
  | p :: L, h => .cons (by rw [RD]; exact ⟨_, _, rfl, h p List.mem_cons_self, ints_ds⟩) (tupsI_rd fun q m => h q (List.mem_cons_of_mem _ m))
theorem lk_sortLT {K : PySem.W.Frag} : LkC K cSortLT (rSortLT K) := by
  rintro φ S H Q' Q ds vs r rd q ⟨d, ls, rfl, e, hne, h⟩
  obtain ⟨v, rfl, h1⟩ := rds1 rd
  obtain ⟨a, ws, rfl, h2, h3⟩ := ls_of r h1 e
  obtain ⟨L, rfl, rfl, hL⟩ := tupsI h3
  refine ⟨a, L, rfl, h2, fun p m => ⟨hne _ (List.mem_map.mpr ⟨p, m, rfl⟩), hL p m⟩, fun L' p g1 g2 hp => ?_⟩
  refine q.lst r hp (tupsI_rd fun p m => hL p (g1.mem_iff.mp m)) (h _ (g1.map _) (List.pairwise_map.mpr g2))
section
variable {F : Fam} {W : WX} {e : Expr} {t : DTA} {p pos : Pos}
theorem dc_sortLT (hm : ∀ i, (F.X i).mg "sorted" = none) (ha : DA F W [e] t) (hg : ∀ i, Gl (F.X i) "sorted" := by intro _; rfl) (he : St1 F e [] := by intro _; rfl) (hp : Pl1 F pos [] := by intro _; rfl) : DE F W (.Call (.Name "sorted" p) [e] [] pos) (dCB cSortLT t) := de_callB (fun i => F.hK i ▸ cr_sortLT) lk_sortLT hg hm bt_sorted ha (he := he) (hpl := hp)

theorem dc_sortT (hm : ∀ i, (F.X i).mg "sorted" = none) (ha : DA F W [e] t) (hg : ∀ i, Gl (F.X i) "sorted" := by intro _; rfl) (he : St1 F e [] := by intro _; rfl) (hp : Pl1 F pos [] := by intro _; rfl) : DE F W (.Call (.Name "sorted" p) [e] [] pos) (dCB cSortT t) := de_callB (fun i => F.hK i ▸ cr_sortTI) lk_sortT hg hm bt_sorted ha (he := he) (hpl := hp)
end
/-! ### count, index of flags -/
def rCntB (K : PySem.W.Frag) : V → List V → Hp → VK → Prop := fun x xs H Q => ∃ (p : Addr) (bs : List Bool) (k : Bool), x = .ref p ∧ xs = [.bl k] ∧ SqL K H p (bs.map V.bl) ∧ Q (.int (bs.count k : Nat)) H
theorem bls_flat : ∀ bs : List Bool, (bs.map V.bl).all flatV = true
  | [] => rfl
  | b :: bs => by simp [flatV]
theorem count_bls {k : Bool} : ∀ {bs : List Bool} {us : List Value}, Vals (bs.map V.bl) us → us.countP (eqU (.bl k)) = bs.count k
  | [], us, h => by
    rw [List.map_nil] at h
    cases h
    rfl
  | b :: bs, us, h => by
    rw [List.map_cons] at h
    cases h with
    | cons r q =>
      rw [List.countP_cons, List.count_cons, count_bls q, eqU_of r rfl]
      rfl
theorem mt_lcountB {X : Cx} : MtR X "list.count" (rCntB X.K) := by
  intro pins s σ H x xs v us Q I rx rxs h
  obtain ⟨p, bs, k, rfl, rfl, hs, q⟩ := h
  cases rx
  obtain ⟨u, rfl, ru⟩ := rxs.one
  obtain ⟨its, rv, ⟨⟨cls, dd, data, sl⟩, n, ho, hc, hdn, hd⟩, hlen⟩ := I.list hs
  simp only at hc hd
  subst hc hd
  refine call_meets PySem.F.slot_list_count ⟨_, ho, rfl⟩ PySem.F.entry_list_count (PySem.F.args_list_count_2 _ _)
    (SeqAt.list_countAt p its.toArray n dd sl u (eqU (.bl k))) ⟨ho, fun y hy => mem_eqAt ru rfl rv (bls_flat bs) y (by simpa using hy), ?_⟩
  have ec : its.toArray.toList.countP (eqU (.bl k)) = bs.count k := count_bls rv
  refine ⟨.int (bs.count k : Nat), H, I.tok _, ⟨s.toks, ?_⟩, q⟩
  show Value.int ((its.toArray.toList.countP (eqU (.bl k)) : Nat) : Int) s.toks = Value.int ((bs.count k : Nat) : Int) s.toks
  rw [ec]
def mCntB : DM := fun o ds S Q => ∃ (bs : List Bool) (k : Bool), lsOf S o = some (bs.map .bl) ∧ ds = [.bl k] ∧ Q (.int (bs.count k : Nat)) S
def mIdxB : DM := fun o ds S Q => ∃ (bs : List Bool) (k : Bool) (j : Nat), lsOf S o = some (bs.map .bl) ∧ ds = [.bl k] ∧ bs[j]? = some k ∧ (∀ m : Nat, m < j → bs[m]? ≠ some k) ∧ Q (.int (j : Nat)) S
section
variable {K : PySem.W.Frag}
theorem lk_cntB : LkM K mCntB (rCntB K) := by
  rintro φ S H Q' Q d v ds vs r rd rds q ⟨bs, k, e, rfl, h⟩
  obtain ⟨u, rfl, h1⟩ := rds1 rds
  rw [RD] at h1
  subst h1
  obtain ⟨a, ws, rfl, h2, h3⟩ := ls_of r rd e
  have := RDs.bls_inv h3
  subst this
  exact ⟨a, bs, k, rfl, rfl, h2, q _ _ _ _ _ .refl r (by rw [RD]) h⟩
theorem lk_idxB : LkM K mIdxB (rIndex K) := by
  rintro φ S H Q' Q d v ds vs r rd rds q ⟨bs, k, j, e, rfl, hj, hno, h⟩
  obtain ⟨u, rfl, h1⟩ := rds1 rds
  rw [RD] at h1
  subst h1
  obtain ⟨a, ws, rfl, h2, h3⟩ := ls_of r rd e
  have := RDs.bls_inv h3
  subst this
  refine ⟨a, _, _, j, .bl k, rfl, rfl, h2, rfl, bls_flat bs, by rw [List.getElem?_map, hj]; rfl, by simp [eqV], fun m z hm hz => ?_, q _ _ _ _ _ .refl r (by rw [RD]) h⟩
  rw [List.getElem?_map] at hz
  cases hb : bs[m]? with
  | none => rw [hb] at hz; cases hz
  | some c =>
    rw [hb] at hz
    cases hz
    have : c ≠ k := fun e => hno m hm (by rw [hb, e])
    simp [eqV, this]
end
section
variable {F : Fam} {W : WX} {o e : Expr} {to : DTE} {t : DTA} {apos cpos : Pos}
theorem de_count (ho : DE F W o to) (ha : DA F W [e] t) (hbase : ∀ i, attributeBase o "count" (F.X i).env (eval o (F.X i).env) = eval o (F.X i).env := by intro _; rfl)
    (hfew : ∀ i, ((backTo cpos (starEach [e] (F.X i).env)).all (fun x => !x.1) && (backToKw cpos (keywordEach [] (F.X i).env)).all (fun x => x.1.isSome)
      && decide (([e] : List Expr).length + ([] : List Keyword).length + (if ([] : List Keyword).isEmpty then 0 else 1) < 30)) = true := by intro _; rfl)
    (hline : (apos.endLine == cpos.line) = true := by rfl) (hs : ∀ i, starEach [e] (F.X i).env = (false, eval e (F.X i).env) :: starEach [] (F.X i).env := by intro _; rfl) (hplain : ∀ i, (backTo cpos (starEach [] (F.X i).env)).any (·.1) = false := by intro _; rfl) :
    DE F W (.Call (.Attribute o "count" apos) [e] [] cpos) (dBM mCntB to t) :=
  de_bm PySem.F.slot_list_count PySem.F.type_list_count (fun i => F.hK i ▸ mt_lcountB) lk_cntB ho ha hbase hfew hline hs hplain
theorem de_index (ho : DE F W o to) (ha : DA F W [e] t) (hbase : ∀ i, attributeBase o "index" (F.X i).env (eval o (F.X i).env) = eval o (F.X i).env := by intro _; rfl)
    (hfew : ∀ i, ((backTo cpos (starEach [e] (F.X i).env)).all (fun x => !x.1) && (backToKw cpos (keywordEach [] (F.X i).env)).all (fun x => x.1.isSome)
      && decide (([e] : List Expr).length + ([] : List Keyword).length + (if ([] : List Keyword).isEmpty then 0 else 1) < 30)) = true := by intro _; rfl)
    (hline : (apos.endLine == cpos.line) = true := by rfl) (hs : ∀ i, starEach [e] (F.X i).env = (false, eval e (F.X i).env) :: starEach [] (F.X i).env := by intro _; rfl) (hplain : ∀ i, (backTo cpos (starEach [] (F.X i).env)).any (·.1) = false := by intro _; rfl) :
    DE F W (.Call (.Attribute o "index" apos) [e] [] cpos) (dBM mIdxB to t) :=
  de_bm PySem.F.slot_list_index PySem.F.type_list_index (fun i => F.hK i ▸ mt_index) lk_idxB ho ha hbase hfew hline hs hplain
end
/-! ### reading on -/
section
variable {S : Store} {Q : QD} {d : D}
theorem o_cntB {bs : List Bool} {k : Bool} (e : lsOf S d = some (bs.map .bl)) (h : Q (.int (bs.count k : Nat)) S) : mCntB d [.bl k] S Q := ⟨bs, k, e, rfl, h⟩
theorem o_idxB {bs : List Bool} {k : Bool} (j : Nat) (e : lsOf S d = some (bs.map .bl)) (hj : bs[j]? = some k) (hn : ∀ m : Nat, m < j → bs[m]? ≠ some k) (h : Q (.int (j : Nat)) S) : mIdxB d [.bl k] S Q := ⟨bs, k, j, e, rfl, hj, hn, h⟩
theorem o_sortT {ns : List Int} (h : ∀ ns' : List Int, ns'.Perm ns → ns'.Pairwise (· ≤ ·) → Q (.lst (ns'.map .int)) S) : cSortT [.tup (ns.map .int)] S Q := ⟨ns, rfl, h⟩
theorem o_sortLT {ls : List (List Int)} (e : lsOf S d = some (ls.map tupI)) (hn : ∀ l ∈ ls, l ≠ []) (h : ∀ ls' : List (List Int), ls'.Perm ls → ls'.Pairwise (fun p q => HT.lexLt q p = false) → Q (.lst (ls'.map tupI)) S) : cSortLT [d] S Q := ⟨d, ls, rfl, e, hn, h⟩
end
end Dy
/-! sorted(set(t)), any number of items -/
namespace Dy
open PySem PySem.Spec PyProof.Rows L2 SrtO
section
variable {P : Program} {w : World} {A : Around} {E : Value → Shared → Prop} {s : Shared} {a : Addr}
theorem sorted_setB {S : Int → Bool} {n : Nat} {Q : Value → Shared → Prop} (R : SetR w s.heap a S n) (hh : A.handled = none) (hz : n ≤ 100000)
    (hQ : ∀ s' p (out : Array Value) (c : Nat) (ns : List Int), (∀ b o, s.heap.get? b = some o → s'.heap.get? b = some o) → s'.gens = s.gens → s'.os = s.os → s.heap.objs.size ≤ p →
      s'.heap.get? p = some (seqObj "list" out c) → IntsAre out.toList ns → ns.Pairwise (· < ·) → (∀ k, k ∈ ns ↔ S k = true) → ns.length = n → Q (.ref p) s') :
    wpAny (model P w) A (call (.builtin "sorted") [.ref a]) Q E s := by
  have hz2 : n ≤ sizeLine := small hz
  obtain ⟨o, es, ep, t, ho, hex, hd, g, nd, hm, hb, hf, hn, hr, hl⟩ := R
  refine Calls.call_function_entry kind_sorted plain_sorted entry_sorted (args_sorted1 _) ?_
  unfold Builtin.«sorted»
  refine wpAny_bind (m := checkCount "sorted" 1 1 _) (wpAny_pure ?_)
  refine wpAny_bind (collect_set (A := A.in1) hh ⟨o, ho, hex.1, hd⟩ hf hb hr hl fun s1 vs k1 hz g1 o1 pm => ?_)
  have hvl : vs.length = n := by rw [pm.length_eq, List.length_map, Array.length_toList]; exact hn
  have hI : IntsAre vs (vs.map Builtin.Re.reRawOf) := ints_of vs fun v hv => by
    obtain ⟨e, he, q⟩ := List.mem_map.mp (pm.mem_iff.mp hv)
    obtain ⟨k, tk, h1, _⟩ := g e he
    exact ⟨k, tk, by rw [← q]; exact h1⟩
  have pk : (vs.map Builtin.Re.reRawOf).Perm (es.toList.map keyOf) := by
    have q := pm.map Builtin.Re.reRawOf
    rw [List.map_map] at q
    exact q
  refine wpAny_bind (wpAny_newList ?_ (by rw [hvl]; exact hz2))
  have hoL : (s1.heap.push (seqObj "list" vs.toArray 0)).get? s1.heap.objs.size = some (seqObj "list" vs.toArray 0) := Heap.get?_push_size _ rfl
  refine wpAny_bind (wpAny_holding (wpAny_call_entry slot_list_sort ⟨_, hoL, rfl⟩ entry_list_sort (list_sort_ord swo_int hoL (by rw [hvl]; exact hz2) (fun h2 => ints_sortable hI h2) fun out hs hb => ⟨_, rfl, ?_⟩) (args_list_sort _)))
  obtain ⟨a1, a2, a3⟩ := ints_out hI hs hb
  obtain ⟨c, hc⟩ := sortedHeap_at (vs := vs) (out := out.toArray) hoL
  have pn : (out.map iv).Perm (es.toList.map keyOf) := a2.trans pk
  refine wpAny_pure ⟨_, rfl, hQ _ s1.heap.objs.size out.toArray c (out.map iv) (fun b u e => ?_) g1 o1 hz hc a1 (lt_of_le_nodup _ a3 (pn.nodup_iff.mpr nd)) (fun k => by rw [pn.mem_iff, ← hm k]) ?_⟩
  · have q := k1 b u e
    have hlt := Heap.lt_size q
    show (sortedHeap (s1.heap.push (seqObj "list" vs.toArray 0)) s1.heap.objs.size vs out.toArray).get? b = some u
    rw [sortedHeap_old (Nat.ne_of_lt hlt) (by rw [size_push']; exact Nat.lt_succ_of_lt hlt)]
    exact Heap.get?_push_of_some _ q
  · rw [pn.length_eq, List.length_map, Array.length_toList]; exact hn
end
def rSortSetB (w : World) : List V → Hp → VK → Prop := fun vs H Q => ∃ (a : Addr) (S : Int → Bool) (n : Nat), vs = [V.ref a] ∧ H a = some (SetO w a S n) ∧ n ≤ 100000 ∧ ∀ (ns : List Int) (p : Addr), ns.Pairwise (· < ·) → (∀ k : Int, k ∈ ns ↔ S k = true) → ns.length = n → H p = none → Q (.ref p) (upd H p (.lst (ns.map V.int)))
theorem cr_sortSetB {X : Cx} (hc : X.calm = true) : CallR X (.builtin "sorted") (rSortSetB X.w) := by
  intro pins s σ H vs us Q I r h
  obtain ⟨a, S, n, rfl, ha, h64, q⟩ := h
  have R := setO_get I ha
  rw [Vals.ref1 r]
  refine sorted_setB R (I.ok.hd hc) h64 fun s' p out c ns k g o hp hg hi hs hm hl => ?_
  have hlen : (ns.map V.int).length ≤ sizeLine := by rw [List.length_map, hl]; exact small h64
  have hn : H p = none := I.hok.fresh hp
  have J : Inv X pins σ (upd H p (.lst (ns.map V.int))) { s with heap := s'.heap, gens := s'.gens, drawn := s'.drawn, toks := s'.toks } :=
    I.call (ch := []) (Un.laid k hp hn) (I.hok.laid k hp ⟨hlen, out.toList, c, vals_of_ints hi, hg⟩) (by rw [g]; exact I.bare) (fun _ z => nomatch z)
  have e : s' = { s with heap := s'.heap, gens := s'.gens, drawn := s'.drawn, toks := s'.toks } := by
    cases s'
    cases s
    cases o
    rfl
  rw [e]
  exact ⟨.ref p, _, J, rfl, q ns p hs hm hl hn⟩
def dSortSetB (te : DTE) : DTE := fun ρ S Q E => te ρ S (fun d S1 => ∃ ns : List Int, d = .tup (ns.map .int) ∧ ns.length ≤ 1000 ∧ ∀ ns' : List Int, ns'.Pairwise (· < ·) → (∀ k, k ∈ ns' ↔ k ∈ ns) → Q (.lst (ns'.map .int)) S1) E
theorem de_sortSetB {F : Fam} {W : WX} {w : World} {e : Expr} {te : DTE} {p1 p2 p3 p4 : Pos} (hw : ∀ i, (F.X i).w = w) (hc : ∀ i, (F.X i).calm = true) (hm : ∀ i, (F.X i).mg "sorted" = none) (hm2 : ∀ i, (F.X i).mg "set" = none) (he : DE F W e te)
    (hg : ∀ i, Gl (F.X i) "sorted" := by intro _; rfl) (hg2 : ∀ i, Gl (F.X i) "set" := by intro _; rfl)
    (h1 : St1 F (.Call (.Name "set" p2) [e] [] p3) [] := by intro _; rfl) (h2 : St1 F e [] := by intro _; rfl) (g1 : Pl1 F p4 [] := by intro _; rfl) (g2 : Pl1 F p3 [] := by intro _; rfl) :
    DE F W (.Call (.Name "sorted" p1) [.Call (.Name "set" p2) [e] [] p3] [] p4) (dSortSetB te) := by
  obtain ⟨t1, q1, k1⟩ := he
  refine ⟨tCB (rSortSetB w) (tCons (tCB (rSetTI F.K w) (tCons t1 tNil)) tNil), fun i => ?_, fun σ ρ φ S H E Q' Q o q h => ?_⟩
  · have a := pe_callTy (p := p2) (by have := cr_setTI (X := F.X i) (hc i); rw [F.hK i, hw i] at this; exact this) (hg2 i) (hm2 i) bt_set (pa_cons (q1 i) pa_nil (h2 i)) (he := h2 i) (hpl := g2 i)
    exact pe_callB (by have := cr_sortSetB (X := F.X i) (hc i); rw [hw i] at this; exact this) (hg i) (hm i) bt_sorted (pa_cons a pa_nil (h1 i)) (he := h1 i) (hpl := g1 i)
  · refine k1 σ ρ φ S H E _ _ o (fun φ1 H1 S1 d v s1 r1 rd h1 => ?_) h
    obtain ⟨ns, rfl, hz, h1⟩ := h1
    obtain ⟨a, vs, rfl, hs, rs⟩ := rd_tup rd
    cases ints_vs rs
    refine ⟨a, ns, rfl, hs, by omega, fun p c hp hcn => ?_⟩
    refine ⟨p, _, c, rfl, upd_same, by omega, fun ns' p2 hpw hmem hlen hp2 => ?_⟩
    have st := step_new (φ := φ1) (ho := SetO w p (fun j => decide (j ∈ ns)) c) hp
    exact ((q.mono s1).mono st).lst (r1.new hp) hp2 ints_ds (h1 ns' hpw fun k => by rw [hmem k]; exact decide_eq_true_iff)
theorem c_sortSetB {te : DTE} {ρ : Rho} {S : Store} {Q : QD} {E : XQ} (h : te ρ S (fun d S1 => ∃ ns : List Int, d = .tup (ns.map .int) ∧ ns.length ≤ 1000 ∧ ∀ ns' : List Int, ns'.Pairwise (· < ·) → (∀ k, k ∈ ns' ↔ k ∈ ns) → Q (.lst (ns'.map .int)) S1) E) : dSortSetB te ρ S Q E := h
end Dy
/-! dicts whose keys are naturals; deeds, worlds, the herd: by plain data -/
namespace Dy
open PySem PySem.Spec PyProof.Rows L2
section
variable {α β : Type}
def kget (kn : List (Nat × α)) (i : Nat) : Option α := (kn.find? fun p => decide (p.1 = i)).map (·.2)
def kput (kn : List (Nat × α)) (i : Nat) (v : α) : List (Nat × α) := if (kn.any fun p => decide (p.1 = i)) = true then kn.map (fun p => if p.1 = i then (p.1, v) else p) else kn ++ [(i, v)]
def kdrop (kn : List (Nat × α)) (i : Nat) : List (Nat × α) := kn.filter fun p => decide (p.1 ≠ i)
def keysN (kn : List (Nat × α)) : List Nat := kn.map (·.1)
def kvsF (f : α → D) (kn : List (Nat × α)) : KVD := kn.map fun p => (.inl ((p.1 : Nat) : Int), f p.2)
theorem key_nat {a b : Nat} : ((.inl (a : Int) : Key) = .inl (b : Int)) ↔ a = b := by
  constructor
  · intro h; injection h with h; omega
  · rintro rfl; rfl
theorem val_kvs {f : α → D} {kn : List (Nat × α)} {i : Nat} : valD (kvsF f kn) (.inl (i : Int)) = (kget kn i).map f := by
  induction kn with
  | nil => rfl
  | cons p kn ih =>
    unfold valD kvsF kget at ih ⊢
    rw [List.map_cons, List.find?_cons, List.find?_cons]
    by_cases e : p.1 = i
    · rw [decide_eq_true (key_nat.mpr e), decide_eq_true e]; rfl
    · rw [decide_eq_false (fun h => e (key_nat.mp h)), decide_eq_false e]; exact ih
theorem val_neg {f : α → D} {kn : List (Nat × α)} {x : Int} (h : x < 0) : valD (kvsF f kn) (.inl x) = none := by
  unfold valD kvsF
  have : (kn.map fun p => ((.inl ((p.1 : Nat) : Int), f p.2) : Key × D)).find? (fun kv => decide (kv.1 = .inl x)) = none := by
    rw [List.find?_eq_none]
    intro kv m
    obtain ⟨p, _, rfl⟩ := List.mem_map.mp m
    simp only [decide_eq_true_eq]
    intro e
    injection e with e
    omega
  rw [this]; rfl
theorem put_kvs {f : α → D} {kn : List (Nat × α)} {i : Nat} {v : α} : dputK (kvsF f kn) (.inl (i : Int)) (f v) = kvsF f (kput kn i v) := by
  have e : ((kvsF f kn).any fun kv => decide (kv.1 = .inl (i : Int))) = kn.any fun p => decide (p.1 = i) := by
    unfold kvsF
    rw [List.any_map]
    congr 1
    funext p
    exact decide_eq_decide.mpr key_nat
  unfold dputK kput
  rw [e]
  split
  · unfold kvsF
    rw [List.map_map, List.map_map]
    refine List.map_congr_left fun p _ => ?_
    by_cases h : p.1 = i
    · simp [h]
    · have : ¬ ((.inl ((p.1 : Nat) : Int) : Key) = .inl (i : Int)) := fun z => h (key_nat.mp z)
      simp only [Function.comp]
      rw [if_neg this, if_neg h]
  · unfold kvsF
    rw [List.map_append]; rfl
theorem drop_kvs {f : α → D} {kn : List (Nat × α)} {i : Nat} : ddropK (kvsF f kn) (.inl (i : Int)) = kvsF f (kdrop kn i) := by
  unfold ddropK kdrop kvsF
  rw [List.filter_map]
  congr 1
  refine List.filter_congr fun p _ => ?_
  show decide ((.inl ((p.1 : Nat) : Int) : Key) ≠ .inl (i : Int)) = decide (p.1 ≠ i)
  refine decide_eq_decide.mpr ?_
  rw [Ne, Ne, key_nat]
theorem kget_some {kn : List (Nat × α)} {i : Nat} : (kget kn i).isSome = decide (i ∈ keysN kn) := by
  induction kn with
  | nil => simp [kget, keysN]
  | cons p kn ih =>
    unfold kget keysN at ih ⊢
    rw [List.find?_cons, List.map_cons]
    by_cases e : p.1 = i
    · rw [decide_eq_true e]
      simp [e]
    · rw [decide_eq_false e]
      simp only
      rw [ih]
      refine decide_eq_decide.mpr ?_
      simp [Ne.symm e]
theorem keys_put {kn : List (Nat × α)} {i : Nat} {v : α} : keysN (kput kn i v) = if i ∈ keysN kn then keysN kn else keysN kn ++ [i] := by
  have e : ((kn.any fun p => decide (p.1 = i)) = true) ↔ i ∈ keysN kn := by
    unfold keysN
    rw [List.any_eq_true, List.mem_map]
    constructor
    · rintro ⟨p, m, h⟩; exact ⟨p, m, of_decide_eq_true h⟩
    · rintro ⟨p, m, h⟩; exact ⟨p, m, decide_eq_true h⟩
  unfold kput
  by_cases h : i ∈ keysN kn
  · rw [if_pos (e.mpr h), if_pos h]
    unfold keysN
    rw [List.map_map]
    refine List.map_congr_left fun p _ => ?_
    show (if p.1 = i then (p.1, v) else p).1 = p.1
    split <;> rfl
  · rw [if_neg (fun z => h (e.mp z)), if_neg h]
    unfold keysN
    rw [List.map_append]; rfl
theorem keys_drop {kn : List (Nat × α)} {i : Nat} : keysN (kdrop kn i) = (keysN kn).filter fun k => decide (k ≠ i) := by
  unfold keysN kdrop
  rw [List.filter_map]
  rfl
theorem len_keys {kn : List (Nat × α)} : (keysN kn).length = kn.length := by unfold keysN; simp
theorem len_kvs {f : α → D} {kn : List (Nat × α)} : (kvsF f kn).length = kn.length := by unfold kvsF; simp
theorem some_kvs {f : α → D} {kn : List (Nat × α)} {i : Nat} : (valD (kvsF f kn) (.inl (i : Int))).isSome = decide (i ∈ keysN kn) := by
  rw [val_kvs, Option.isSome_map, kget_some]
theorem keys_kvs {f : α → D} {kn : List (Nat × α)} : (kvsF f kn).map (·.1) = ((keysN kn).map fun (k : Nat) => (k : Int)).map Sum.inl := by
  unfold kvsF keysN
  rw [List.map_map, List.map_map, List.map_map]; rfl
theorem kget_of {kn : List (Nat × α)} {i : Nat} (h : i ∈ keysN kn) : ∃ v, kget kn i = some v := Option.isSome_iff_exists.mp (by rw [kget_some]; exact decide_eq_true h)
theorem kget_put {kn : List (Nat × α)} {i j : Nat} {v : α} : kget (kput kn i v) j = if i = j then some v else kget kn j := by
  by_cases h : i ∈ keysN kn
  · have e : (kn.any fun p => decide (p.1 = i)) = true := by
      obtain ⟨p, m, e⟩ := List.mem_map.mp h
      exact List.any_eq_true.mpr ⟨p, m, decide_eq_true e⟩
    unfold kput
    rw [if_pos e]
    clear e
    induction kn with
    | nil => cases h
    | cons p kn ih =>
      unfold kget at ih ⊢
      rw [List.map_cons, List.find?_cons, List.find?_cons]
      by_cases e : p.1 = i
      · rw [if_pos e]
        by_cases e2 : i = j
        · have : p.1 = j := e.trans e2
          simp [e2, this]
        · have : ¬ p.1 = j := fun z => e2 (e.symm.trans z)
          rw [if_neg e2, decide_eq_false this]
          simp only [this, decide_false]
          clear ih h
          congr 1
          induction kn with
          | nil => rfl
          | cons q kn ih =>
            rw [List.map_cons, List.find?_cons, List.find?_cons]
            by_cases e3 : q.1 = i
            · have : ¬ q.1 = j := fun z => e2 (e3.symm.trans z)
              rw [if_pos e3, decide_eq_false this]
              simpa using ih
            · rw [if_neg e3, ih]
      · rw [if_neg e]
        have h' : i ∈ keysN kn := by
          rcases List.mem_cons.mp h with h | h
          · exact absurd h.symm e
          · exact h
        by_cases e2 : p.1 = j
        · have : ¬ i = j := fun z => e (e2.trans z.symm)
          simp [e2, this]
        · rw [decide_eq_false e2]
          exact ih h'
  · have e : ¬ (kn.any fun p => decide (p.1 = i)) = true := by
      intro z
      obtain ⟨p, m, q⟩ := List.any_eq_true.mp z
      exact h (List.mem_map.mpr ⟨p, m, of_decide_eq_true q⟩)
    unfold kput
    rw [if_neg e]
    unfold kget
    rw [List.find?_append]
    by_cases e2 : i = j
    · subst e2
      have : kn.find? (fun p => decide (p.1 = i)) = none := by
        rw [List.find?_eq_none]
        intro p m q
        exact h (List.mem_map.mpr ⟨p, m, of_decide_eq_true q⟩)
      rw [this]
      simp
    · simp [e2]
theorem kget_drop {kn : List (Nat × α)} {i j : Nat} : kget (kdrop kn i) j = if i = j then none else kget kn j := by
  unfold kget kdrop
  rw [List.find?_filter]
  by_cases e : i = j
  · rw [if_pos e]
    have : kn.find? (fun a => decide (a.1 ≠ i ∧ a.1 = j)) = none := by
      rw [List.find?_eq_none]
      intro p m q
      simp only [decide_eq_true_eq] at q
      exact q.1 (q.2.trans e.symm)
    have e3 : (fun a : Nat × α => decide (decide (a.1 ≠ i) = true ∧ decide (a.1 = j) = true)) = fun a => decide (a.1 ≠ i ∧ a.1 = j) := by
      funext a
      simp
    first | rw [e3, this]; rfl | (simp only [decide_eq_true_eq] at *; rw [this]; rfl)
  · rw [if_neg e]
    congr 2
    funext a
    by_cases h : a.1 = j
    · have : ¬ a.1 = i := fun z => e (z.symm.trans h)
      simp [h, Ne.symm e]
    · simp [h]
end
/-! ### deeds, worlds -/
inductive Deed where
  | ch (i : Nat) | fk (i : Nat) | jn (i j : Nat) | ls (i : Nat)
  deriving DecidableEq
abbrev natD (m : Nat) : D := .int (m : Int)
def Deed.d : Deed → D
  | .ch i => .tup [.str "change", natD i]
  | .fk i => .tup [.str "fork", natD i]
  | .jn i j => .tup [.str "join", natD i, natD j]
  | .ls i => .tup [.str "lose", natD i]
abbrev runD (r : List Deed) : D := .tup (r.map Deed.d)
def natOf : D → Option Nat
  | .int i => if 0 ≤ i then some i.toNat else none
  | _ => none
def deedOf : D → Option Deed
  | .tup [.str s, a] => match natOf a with
    | some i => if s = "change" then some (.ch i) else if s = "fork" then some (.fk i) else if s = "lose" then some (.ls i) else none
    | none => none
  | .tup [.str s, a, b] => match natOf a, natOf b with
    | some i, some j => if s = "join" ∧ i ≠ j then some (.jn i j) else none
    | _, _ => none
  | _ => none
def deedsOf : List D → Option (List Deed)
  | [] => some []
  | x :: xs => match deedOf x, deedsOf xs with
    | some y, some ys => some (y :: ys)
    | _, _ => none
def runOf : D → Option (List Deed)
  | .tup xs => deedsOf xs
  | _ => none
theorem natOf_d {d : D} {i : Nat} (h : natOf d = some i) : d = natD i := by
  cases d with
  | int k =>
    have h : (if 0 ≤ k then some k.toNat else none) = some i := h
    by_cases e : 0 ≤ k
    · rw [if_pos e] at h
      have := Option.some.inj h
      show D.int k = D.int (i : Int)
      congr 1
      omega
    · rw [if_neg e] at h; cases h
  | _ => cases h
theorem natOf_n (i : Nat) : natOf (natD i) = some i := by
  unfold natOf natD
  simp
theorem deedOf_d {d : D} {x : Deed} (h : deedOf d = some x) : d = x.d := by
  unfold deedOf at h
  split at h
  · split at h
    · rename_i s a i e
      have ea := natOf_d e
      subst ea
      split at h
      · rename_i es; cases h; rw [es]; rfl
      · split at h
        · rename_i es; cases h; rw [es]; rfl
        · split at h
          · rename_i es; cases h; rw [es]; rfl
          · cases h
    · cases h
  · split at h
    · rename_i s a b i j e1 e2
      have ea := natOf_d e1
      have eb := natOf_d e2
      subst ea eb
      split at h
      · rename_i es; cases h; rw [es.1]; rfl
      · cases h
    · cases h
  · cases h
theorem deedsOf_d : ∀ {xs : List D} {r : List Deed}, deedsOf xs = some r → xs = r.map Deed.d
  | [], r, h => by cases h; rfl
  | x :: xs, r, h => by
    unfold deedsOf at h
    split at h
    · rename_i y ys e1 e2
      cases h
      rw [List.map_cons, deedOf_d e1, deedsOf_d e2]
    · cases h
theorem deedsOf_all : ∀ {xs : List D}, (deedsOf xs).isSome = xs.all fun x => (deedOf x).isSome
  | [] => rfl
  | x :: xs => by
    unfold deedsOf
    rw [List.all_cons, ← deedsOf_all (xs := xs)]
    cases deedOf x <;> cases deedsOf xs <;> rfl
theorem runOf_d {d : D} {r : List Deed} (h : runOf d = some r) : d = runD r := by
  cases d with
  | tup xs => rw [deedsOf_d h]
  | _ => cases h
structure Wld where
  most : Nat
  kind : Str
  los : Bool
def Wld.d (w : Wld) : D := .tup [natD w.most, .str w.kind, .bl w.los]
abbrev kinds : List Str := ["free", "pen", "trunk"]
def wldOf : D → Option Wld
  | .tup [.int m, .str k, .bl b] => if 1 ≤ m ∧ m ≤ 7 ∧ k ∈ kinds then some ⟨m.toNat, k, b⟩ else none
  | _ => none
theorem wldOf_d {d : D} {w : Wld} (h : wldOf d = some w) : d = w.d ∧ 1 ≤ w.most ∧ w.most ≤ 7 ∧ w.kind ∈ kinds := by
  unfold wldOf at h
  split at h
  · split at h
    · rename_i m k b e
      cases h
      refine ⟨?_, by show 1 ≤ m.toNat; omega, by show m.toNat ≤ 7; omega, e.2.2⟩
      show D.tup [.int m, .str k, .bl b] = D.tup [.int ((m.toNat : Nat) : Int), .str k, .bl b]
      have : ((m.toNat : Nat) : Int) = m := by omega
      rw [this]
    · cases h
  · cases h
/-! ### the program's herd -/
structure HM where
  kn : List (Nat × Nat)
  forks : Nat
  pen : Nat
abbrev HM.ks (h : HM) : List Nat := keysN h.kn
def HM.lets (w : Wld) (h : HM) : Deed → Bool
  | .ch i => decide (i ∈ h.ks) && (!decide (w.kind = "pen") || decide (i = h.pen))
  | .fk i => decide (i ∈ h.ks) && (decide (h.ks.length < w.most) && (!decide (w.kind = "trunk") || decide (i = 0)))
  | .jn i j => decide (i ∈ h.ks) && decide (j ∈ h.ks) && (!decide (w.kind = "trunk") || decide (i = 0))
  | .ls i => decide (i ∈ h.ks) && (w.los && decide (1 < h.ks.length))
def HM.at (h : HM) (i : Nat) : Nat := (kget h.kn i).getD 0
def HM.act (h : HM) (idx : Nat) : Deed → HM
  | .ch i => { h with kn := kput h.kn i (h.at i ||| 2 ^ idx) }
  | .fk i => { h with forks := h.forks + 1, kn := kput h.kn (h.forks + 1) (h.at i) }
  | .jn i j => { h with kn := kput (kdrop h.kn j) i (h.at i ||| h.at j), pen := if h.pen = j then i else h.pen }
  | .ls i => { h with kn := kdrop h.kn i }
abbrev HM.zero : HM := ⟨[(0, 0)], 0, 0⟩
/-- the herd behind the deeds ahead of the fault, and the fault -/
def HM.walk (w : Wld) : List Deed → Nat → HM → HM × Option Nat
  | [], _, h => (h, none)
  | x :: r, i, h => if h.lets w x = true then HM.walk w r (i + 1) (h.act i x) else (h, some i)
end Dy
/-! reading on: o.f op= e; bits -/
namespace Dy
open PySem PySem.Spec PyProof.Rows L2
def oPutF (C : Addr) (f : Str) (n : Nat) (z : D) (R : Store → Prop) (S : Store) : Prop := ∃ fs, S[n]? = some (.ins C fs) ∧ fs.length < 1000 ∧ R (S.set n (.ins C (putD f z fs)))
theorem s_augFV {P : Addr → Prop} {f : Str} {i n : Nat} {C : Addr} {fs : List (Str × D)} {v : D} {te : DTE} {r : D2} {nx bk ct : Rho → Store → Prop} {rt : D → Store → Prop} {ex : Exc → Rho → Store → Prop} {ρ : Rho} {S : Store} (e : ρ[i]? = some (some (.ref n))) (e1 : S[n]? = some (.ins C fs)) (hP : P C) (hl : fs.lookup f = some v)
    (h : te ρ S (fun d S2 => r v d S2 fun z S3 => oPutF C f n z (nx ρ) S3) (fun x S1 => ex x ρ S1)) : dAugF P f (dVar i) te r ⟨nx, rt, bk, ct, ex⟩ ρ S := ⟨_, e, n, C, fs, v, rfl, e1, hP, hl, h⟩
theorem o_putF {C : Addr} {f : Str} {n : Nat} {z : D} {R : Store → Prop} {S : Store} {fs : List (Str × D)} (e1 : S[n]? = some (.ins C fs)) (hz : fs.length < 1000) (h : ∀ S', S'.length = S.length → S'[n]? = some (.ins C (putD f z fs)) → (∀ m : Nat, m ≠ n → S'[m]? = S[m]?) → R S') : oPutF C f n z R S :=
  ⟨fs, e1, hz, h _ (by simp) (List.getElem?_set_self (List.getElem?_eq_some_iff.mp e1).1) fun m hm => List.getElem?_set_ne (Ne.symm hm)⟩
theorem bitOr_nat (a b : Nat) : Builtin.bitOr (a : Int) (b : Int) = ((a ||| b : Nat) : Int) := by
  rw [Bits.bitOr_pp (by omega) (by omega), Int.toNat_natCast, Int.toNat_natCast]
theorem bitAnd_nat (a b : Nat) : Builtin.bitAnd (a : Int) (b : Int) = ((a &&& b : Nat) : Int) := by
  have h1 : decide (0 ≤ (a : Int)) = true := decide_eq_true (by omega)
  have h2 : decide (0 ≤ (b : Int)) = true := decide_eq_true (by omega)
  unfold Builtin.bitAnd
  rw [h1, h2]
  simp only
  rw [Int.toNat_natCast, Int.toNat_natCast]
theorem bitAnd_not (a b : Nat) : Builtin.bitAnd (a : Int) (Builtin.bitNot (b : Int)) = ((a - (a &&& b) : Nat) : Int) := by
  have h1 : decide (0 ≤ (a : Int)) = true := decide_eq_true (by omega)
  have h2 : decide (0 ≤ Builtin.bitNot (b : Int)) = false := decide_eq_false (by unfold Builtin.bitNot; omega)
  have h3 : Builtin.bitNot (Builtin.bitNot (b : Int)) = (b : Int) := by unfold Builtin.bitNot; omega
  unfold Builtin.bitAnd
  rw [h1, h2]
  simp only
  rw [h3, Int.toNat_natCast, Int.toNat_natCast]
  have := Nat.and_le_left (n := a) (m := b)
  omega
theorem testBit_less (b : Nat) : ∀ (x m : Nat), (x - (x &&& m)).testBit b = (x.testBit b && !m.testBit b) := by
  induction b with
  | zero =>
    intro x m
    have h1 : (x &&& m) % 2 = (x % 2) &&& (m % 2) := by
      have := @Nat.and_mod_two_pow x m 1
      simpa using this
    have h2 := Nat.and_le_left (n := x) (m := m)
    generalize x &&& m = y at h1 h2 ⊢
    simp only [Nat.testBit_zero]
    rcases Nat.mod_two_eq_zero_or_one x with hx | hx <;> rcases Nat.mod_two_eq_zero_or_one m with hm | hm <;> rw [hx, hm] at h1 <;> simp at h1 <;> simp [hx, hm] <;> omega
  | succ b ih =>
    intro x m
    rw [Nat.testBit_succ, Nat.testBit_succ, Nat.testBit_succ, ← ih]
    refine congrArg (fun z => Nat.testBit z b) ?_
    have h1 : (x &&& m) / 2 = (x / 2) &&& (m / 2) := Nat.and_div_two
    rw [← h1]
    have h3 : (x &&& m) % 2 = (x % 2) &&& (m % 2) := by
      have := @Nat.and_mod_two_pow x m 1
      simpa using this
    have h4 : (x &&& m) % 2 ≤ x % 2 := by rw [h3]; exact Nat.and_le_left
    have h2 := Nat.and_le_left (n := x) (m := m)
    generalize x &&& m = y at h4 h2 ⊢
    omega
theorem shl_one (k : Nat) : (1 : Int) * 2 ^ ((k : Int)).toNat = ((2 ^ k : Nat) : Int) := by
  rw [Int.toNat_natCast, Int.one_mul]
  push_cast
  rfl
def deedWf : Deed → Prop
  | .jn i j => i ≠ j
  | _ => True
theorem deedOf_wf {d : D} {x : Deed} (h : deedOf d = some x) : deedWf x := by
  unfold deedOf at h
  split at h
  · split at h
    · split at h
      · cases h; trivial
      · split at h
        · cases h; trivial
        · split at h
          · cases h; trivial
          · cases h
    · cases h
  · split at h
    · split at h
      · rename_i es; cases h; exact es.2
      · cases h
    · cases h
  · cases h
theorem deedsOf_wf : ∀ {xs : List D} {r : List Deed}, deedsOf xs = some r → ∀ x ∈ r, deedWf x
  | [], r, h, x, m => by cases h; cases m
  | y :: xs, r, h, x, m => by
    unfold deedsOf at h
    split at h
    · rename_i z zs e1 e2
      cases h
      rcases List.mem_cons.mp m with rfl | m
      · exact deedOf_wf e1
      · exact deedsOf_wf e2 x m
    · cases h
theorem runOf_wf {d : D} {r : List Deed} (h : runOf d = some r) : ∀ x ∈ r, deedWf x := by
  cases d with
  | tup xs => exact deedsOf_wf h
  | _ => cases h
theorem runOf_len {d : D} {r : List Deed} (h : runOf d = some r) (hd : Dat d) : r.length ≤ 1000 := by
  have e := runOf_d h
  rw [e] at hd
  cases hd with
  | tup _ z => simpa using z
/-- what a deed asks of the herd -/
def HM.ok (h : HM) : Deed → Prop
  | .ch i => i ∈ h.ks
  | .fk i => i ∈ h.ks
  | .jn i j => i ∈ h.ks ∧ j ∈ h.ks ∧ i ≠ j
  | .ls i => i ∈ h.ks
theorem HM.lets_ok {w : Wld} {h : HM} {x : Deed} (l : h.lets w x = true) (wf : deedWf x) : h.ok x := by
  cases x with
  | ch i =>
    have l : (decide (i ∈ h.ks) && _) = true := l
    rw [Bool.and_eq_true] at l
    exact (of_decide_eq_true l.1 : i ∈ h.ks)
  | fk i =>
    have l : (decide (i ∈ h.ks) && _) = true := l
    rw [Bool.and_eq_true] at l
    exact (of_decide_eq_true l.1 : i ∈ h.ks)
  | jn i j =>
    have l : ((decide (i ∈ h.ks) && decide (j ∈ h.ks)) && _) = true := l
    rw [Bool.and_eq_true, Bool.and_eq_true] at l
    exact ⟨of_decide_eq_true l.1.1, of_decide_eq_true l.1.2, wf⟩
  | ls i =>
    have l : (decide (i ∈ h.ks) && _) = true := l
    rw [Bool.and_eq_true] at l
    exact (of_decide_eq_true l.1 : i ∈ h.ks)
theorem HM.at_eq {h : HM} {i : Nat} (m : i ∈ h.ks) : kget h.kn i = some (h.at i) := by
  obtain ⟨v, e⟩ := kget_of m
  unfold HM.at
  rw [e]; rfl
/-- never more than most copies -/
theorem HM.few {w : Wld} {h : HM} {x : Deed} {i : Nat} (l : h.lets w x = true) (hm : h.ks.length ≤ w.most) (wf : deedWf x) : (h.act i x).ks.length ≤ w.most := by
  have o := HM.lets_ok l wf
  cases x with
  | ch a =>
    show (keysN (kput h.kn a _)).length ≤ _
    have o : a ∈ h.ks := o
    rw [keys_put, if_pos o]; exact hm
  | fk a =>
    show (keysN (kput h.kn (h.forks + 1) _)).length ≤ _
    have l : (decide (a ∈ h.ks) && (decide (h.ks.length < w.most) && _)) = true := l
    rw [Bool.and_eq_true, Bool.and_eq_true] at l
    have := of_decide_eq_true l.2.1
    rw [keys_put]
    split
    · exact hm
    · rw [List.length_append]; show h.ks.length + 1 ≤ _; omega
  | jn a b =>
    show (keysN (kput (kdrop h.kn b) a _)).length ≤ _
    have o : a ∈ h.ks ∧ b ∈ h.ks ∧ a ≠ b := o
    have : a ∈ keysN (kdrop h.kn b) := by rw [keys_drop]; exact List.mem_filter.mpr ⟨o.1, decide_eq_true o.2.2⟩
    rw [keys_put, if_pos this, keys_drop]
    exact Nat.le_trans (List.length_filter_le _ _) hm
  | ls a =>
    show (keysN (kdrop h.kn a)).length ≤ _
    rw [keys_drop]
    exact Nat.le_trans (List.length_filter_le _ _) hm
theorem wld_d {w : Wld} : w.d = .tup [natD w.most, .str w.kind, .bl w.los] := rfl
theorem ch_d {i : Nat} : (Deed.ch i).d = .tup [.str "change", natD i] := rfl
theorem fk_d {i : Nat} : (Deed.fk i).d = .tup [.str "fork", natD i] := rfl
theorem ls_d {i : Nat} : (Deed.ls i).d = .tup [.str "lose", natD i] := rfl
theorem jn_d {i j : Nat} : (Deed.jn i j).d = .tup [.str "join", natD i, natD j] := rfl
theorem HM.walk_cons {w : Wld} {x : Deed} {r : List Deed} {i : Nat} {h : HM} : HM.walk w (x :: r) i h = if h.lets w x = true then HM.walk w r (i + 1) (h.act i x) else (h, some i) := rfl
/-- the true word about two copies -/
def cmpN (a b : Nat) : Str := if a = b then "same" else if a &&& b = b then "newer" else if a &&& b = a then "elder" else "apart"
theorem test_bit (m k : Nat) : (((m / 2 ^ k &&& 1 : Nat) : Int) != 0) = m.testBit k := by
  rw [Nat.testBit_eq_decide_div_mod_eq]
  have h : (m / 2 ^ k &&& 1) = m / 2 ^ k % 2 := by
    have := Nat.and_two_pow_sub_one_eq_mod (m / 2 ^ k) 1
    simpa using this
  rw [h]
  rcases Nat.mod_two_eq_zero_or_one (m / 2 ^ k) with e | e <;> rw [e] <;> rfl
theorem div_nat (m k : Nat) : (m : Int) / 2 ^ ((k : Int)).toNat = ((m / 2 ^ k : Nat) : Int) := by
  rw [Int.toNat_natCast]
  push_cast
  rfl
structure HM.Inv (h : HM) : Prop where
  nd : h.ks.Nodup
  ne : h.ks ≠ []
  le : ∀ k ∈ h.ks, k ≤ h.forks
  pe : h.pen ≤ h.forks
theorem HM.inv0 : HM.zero.Inv := ⟨by show [0].Nodup; decide, by show [0] ≠ []; decide, fun k hk => by
  have : k ∈ [0] := hk
  rw [List.mem_singleton.mp this]; exact Nat.le_refl _, Nat.le_refl _⟩
theorem HM.Inv.act {w : Wld} {h : HM} {x : Deed} {i : Nat} (l : h.lets w x = true) (H : h.Inv) (wf : deedWf x) : (h.act i x).Inv := by
  have o := HM.lets_ok l wf
  cases x with
  | ch a =>
    have o : a ∈ h.ks := o
    have e : (h.act i (.ch a)).ks = h.ks := by
      show keysN (kput h.kn a _) = _
      rw [keys_put, if_pos o]
    exact ⟨by rw [e]; exact H.nd, by rw [e]; exact H.ne, by rw [e]; exact H.le, H.pe⟩
  | fk a =>
    have nw : h.forks + 1 ∉ h.ks := fun z => by have := H.le _ z; omega
    have e : (h.act i (.fk a)).ks = h.ks ++ [h.forks + 1] := by
      show keysN (kput h.kn (h.forks + 1) _) = _
      rw [keys_put, if_neg nw]
    refine ⟨?_, by rw [e]; simp, fun k hk => ?_, Nat.le_succ_of_le H.pe⟩
    · rw [e, List.nodup_append]
      exact ⟨H.nd, by simp, fun a ha b hb => by rw [List.mem_singleton.mp hb]; exact fun z => nw (z ▸ ha)⟩
    · rw [e] at hk
      show k ≤ h.forks + 1
      rcases List.mem_append.mp hk with hk | hk
      · exact Nat.le_succ_of_le (H.le k hk)
      · rw [List.mem_singleton.mp hk]; exact Nat.le_refl _
  | jn a b =>
    have o : a ∈ h.ks ∧ b ∈ h.ks ∧ a ≠ b := o
    have : a ∈ keysN (kdrop h.kn b) := by rw [keys_drop]; exact List.mem_filter.mpr ⟨o.1, decide_eq_true o.2.2⟩
    have e : (h.act i (.jn a b)).ks = h.ks.filter fun k => decide (k ≠ b) := by
      show keysN (kput (kdrop h.kn b) a _) = _
      rw [keys_put, if_pos this, keys_drop]
    refine ⟨by rw [e]; exact H.nd.filter _, by rw [e, ← keys_drop]; exact List.ne_nil_of_mem this, fun k hk => ?_, ?_⟩
    · rw [e] at hk
      exact H.le k (List.mem_filter.mp hk).1
    · show (if h.pen = b then a else h.pen) ≤ h.forks
      split
      · exact H.le a o.1
      · exact H.pe
  | ls a =>
    have o : a ∈ h.ks := o
    have e : (h.act i (.ls a)).ks = h.ks.filter fun k => decide (k ≠ a) := by
      show keysN (kdrop h.kn a) = _
      rw [keys_drop]
    have l : (decide (a ∈ h.ks) && (w.los && decide (1 < h.ks.length))) = true := l
    rw [Bool.and_eq_true, Bool.and_eq_true] at l
    have h2 := of_decide_eq_true l.2.2
    refine ⟨by rw [e]; exact H.nd.filter _, ?_, fun k hk => ?_, H.pe⟩
    · rw [e]
      intro z
      have hall : ∀ k ∈ h.ks, k = a := fun k hk => by
        rcases Decidable.em (k = a) with q | q
        · exact q
        · have : k ∈ h.ks.filter fun k => decide (k ≠ a) := List.mem_filter.mpr ⟨hk, decide_eq_true q⟩
          rw [z] at this; cases this
      match hk : h.ks, h2 with
      | k1 :: k2 :: r, _ =>
        have e1 := hall k1 (by rw [hk]; simp)
        have e2 := hall k2 (by rw [hk]; simp)
        have := H.nd
        rw [hk] at this
        simp [e1, e2] at this
      | [k1], h2 => simp at h2
      | [], h2 => simp at h2
    · rw [e] at hk
      exact H.le k (List.mem_filter.mp hk).1
theorem walk_inv {w : Wld} : ∀ {r : List Deed} {i : Nat} {h : HM}, (∀ x ∈ r, deedWf x) → h.Inv → (HM.walk w r i h).1.Inv
  | [], i, h, wf, hz => hz
  | x :: r, i, h, wf, hz => by
    rw [HM.walk_cons]
    split
    · rename_i l
      exact walk_inv (fun y m => wf y (List.mem_cons_of_mem _ m)) (hz.act l (wf x List.mem_cons_self))
    · exact hz
end Dy
/-! lots, by plain data -/
namespace Dy
open PySem PySem.Spec PyProof.Rows L2
/-- items told by a function, a test told by a function; pairs -/
theorem o_lcG2 {ρ : Rho} {S : Store} {Q : QD} {tt : DTT} {te : DTE} {i j : Nat} {xs : List D} {live : Store → Prop} (f : D → D) (p : D → Bool) (hl : live S) (hz : xs.length ≤ sizeLine)
    (ht : ∀ x ∈ xs, ∃ u v, x = .tup [u, v] ∧ ∀ P : Bool → Store → Prop, P (p x) S → tt ((ρ.set i (some u)).set j (some v)) S P noX)
    (he : ∀ x ∈ xs, p x = true → ∀ u v, x = .tup [u, v] → ∀ P : QD, P (f x) S → te ((ρ.set i (some u)).set j (some v)) S P noX)
    (h : Q (.lst ((xs.filter p).map f)) S) : dLcK (c2 i j) tt te ρ Q xs live S := by
  refine ⟨fun k acc S' => S' = S ∧ acc = ((xs.take k).filter p).map f, ⟨rfl, by simp⟩, fun k acc S' _ hh => hh.1 ▸ hl, ?_, ?_⟩
  · rintro k x acc S' hx ⟨rfl, rfl⟩
    have m := List.mem_of_getElem? hx
    have hk : k < xs.length := (List.getElem?_eq_some_iff.mp hx).1
    obtain ⟨u, v, ex, h1⟩ := ht x m
    refine ⟨u, v, ex, h1 _ ?_⟩
    have e : (xs.take (k + 1)).filter p = (xs.take k).filter p ++ if p x = true then [x] else [] := by
      rw [List.take_succ, hx, List.filter_append]
      congr 1
      by_cases q : p x = true
      · simp [q]
      · simp [q]
    cases q : p x with
    | true =>
      rw [if_pos rfl]
      refine he x m q u v ex _ ⟨?_, rfl, by rw [e, q]; simp⟩
      have := List.length_filter_le p (xs.take k)
      have l2 : (xs.take k).length ≤ k := by simp; omega
      simp only [List.length_map]
      omega
    | false =>
      rw [if_neg (by decide)]
      exact ⟨rfl, by rw [e, q]; simp⟩
  · rintro acc S' ⟨rfl, rfl⟩
    rw [List.take_length]
    exact h
theorem o_lcM2 {ρ : Rho} {S : Store} {Q : QD} {te : DTE} {i j : Nat} {xs : List D} {live : Store → Prop} (f : D → D) (hl : live S) (hz : xs.length ≤ sizeLine)
    (he : ∀ x ∈ xs, ∃ u v, x = .tup [u, v] ∧ ∀ P : QD, P (f x) S → te ((ρ.set i (some u)).set j (some v)) S P noX) (h : Q (.lst (xs.map f)) S) : dLcK (c2 i j) dYes te ρ Q xs live S := by
  refine o_lcG2 f (fun _ => true) hl hz (fun x m => ?_) (fun x m _ u v ex P hP => ?_) (by rw [List.filter_eq_self.mpr (by simp)]; exact h)
  · obtain ⟨u, v, ex, _⟩ := he x m
    exact ⟨u, v, ex, fun P hP => hP⟩
  · obtain ⟨u', v', ex', h2⟩ := he x m
    rw [ex'] at ex
    cases ex
    exact h2 P (ex' ▸ hP)
theorem de_lc2b {F : Fam} {W : WX} {tt : DTT} {te : DTE} {ti : DTI} {elt iter : Expr} {ifs : List Expr} {scope : Scope} {x x2 : Str} {px px2 pos pos2 : Pos} {k : Nat} (i i2 : Nat) (hij : i ≠ i2) (hc : ∀ j, (F.X j).calm = true) (hN : ∀ j, (F.X j).N.Nodup) (hi : DI F W (.Tuple [.Name x px, .Name x2 px2] k pos) iter ti) (ok : ∀ j, BlkOk (F.X j).N (F.X j).env.scope scope [(x, i), (x2, i2)]) (ht : DTs (F.blk scope) W0 ifs tt) (he : DE (F.blk scope) W0 elt te)
    (hg : ∀ j, PG ((F.blk scope).X j) (.Tuple [.Name x px, .Name x2 px2] k pos) (gTup F.K 2 (gCons (gName i) (gCons (gName i2) gNil)))) (hs : ∀ j v, foldedSetIterable iter (F.X j).env v = pure v := by intro _ _; rfl) :
    DE F W (.ListComp elt [⟨.Tuple [.Name x px, .Name x2 px2] k pos, iter, ifs, 0⟩] scope pos2) (dLc ti (c2 i i2) tt te) := de_lc2 i i2 hij hc hN hi ok ht he hg (hs := hs)
abbrev Part := List Int × Nat
abbrev partD (p : Part) : D := .tup [tupI p.1, natD p.2]
def orAll (ms : List Nat) : Nat := ms.foldl (fun a b => a ||| b) 0
def insM (a : Nat) (m : Nat) (ps : List Part) : List Part := ps.map fun p => (p.1 ++ [(a : Int)], p.2 &&& m)
def outM (m : Nat) (ps : List Part) : List Part := ps.map fun p => (p.1, p.2 - (p.2 &&& m))
def stepM (a : Nat) (m : Nat) (ps : List Part) : List Part := (insM a m ps ++ outM m ps).filter fun p => decide (p.2 ≠ 0)
def partsM : List Nat → Nat → List Part → List Part
  | [], _, ps => ps
  | m :: ms, a, ps => partsM ms (a + 1) (stepM a m ps)
def lotsM (ms : List Nat) : List (List Int) := ((partsM ms 0 [([], orAll ms)]).filter fun p => decide (p.1.length < ms.length)).map (·.1)
theorem orAll_bit {b : Nat} : ∀ (ms : List Nat) (a : Nat), (ms.foldl (fun a b => a ||| b) a).testBit b = (a.testBit b || ms.any fun m => m.testBit b)
  | [], a => by simp
  | m :: ms, a => by
    rw [List.foldl_cons, orAll_bit ms, Nat.testBit_or, List.any_cons, Bool.or_assoc]
/-- what holds of the parts of the deeds, by their bits -/
structure PartOk (ms : List Nat) (i : Nat) (every : Nat) (p : Part) : Prop where
  ev : ∀ b, p.2.testBit b = true → every.testBit b = true
  kn : ∀ b, p.2.testBit b = true → ∀ k m, k < i → ms[k]? = some m → (m.testBit b = true ↔ (k : Int) ∈ p.1)
  lt : ∀ x ∈ p.1, ∃ k : Nat, x = (k : Int) ∧ k < i
theorem part_step {ms : List Nat} {i every m : Nat} {ps : List Part} (hm : ms[i]? = some m) (h : ∀ p ∈ ps, PartOk ms i every p) : ∀ p ∈ stepM i m ps, PartOk ms (i + 1) every p := by
  intro p hp
  have hp := (List.mem_filter.mp hp).1
  rcases List.mem_append.mp hp with hp | hp
  · obtain ⟨q, hq, rfl⟩ := List.mem_map.mp hp
    have H := h q hq
    refine ⟨fun b hb => ?_, fun b hb k m' hk hm' => ?_, fun x hx => ?_⟩
    · have hb : (q.2 &&& m).testBit b = true := hb
      rw [Nat.testBit_and, Bool.and_eq_true] at hb
      exact H.ev b hb.1
    · have hb2 : (q.2 &&& m).testBit b = true := hb
      rw [Nat.testBit_and, Bool.and_eq_true] at hb2
      show _ ↔ (k : Int) ∈ q.1 ++ [(i : Int)]
      rcases Nat.lt_or_ge k i with hki | hki
      · rw [H.kn b hb2.1 k m' hki hm', List.mem_append]
        constructor
        · exact .inl
        · rintro (z | z)
          · exact z
          · have := List.mem_singleton.mp z; omega
      · have : k = i := by omega
        subst this
        rw [hm] at hm'
        cases hm'
        exact ⟨fun _ => by simp, fun _ => hb2.2⟩
    · rcases List.mem_append.mp hx with hx | hx
      · obtain ⟨k, e, hk⟩ := H.lt x hx
        exact ⟨k, e, by omega⟩
      · exact ⟨i, List.mem_singleton.mp hx, by omega⟩
  · obtain ⟨q, hq, rfl⟩ := List.mem_map.mp hp
    have H := h q hq
    refine ⟨fun b hb => ?_, fun b hb k m' hk hm' => ?_, fun x hx => ?_⟩
    · have hb : (q.2 - (q.2 &&& m)).testBit b = true := hb
      rw [testBit_less, Bool.and_eq_true] at hb
      exact H.ev b hb.1
    · have hb2 : (q.2 - (q.2 &&& m)).testBit b = true := hb
      rw [testBit_less, Bool.and_eq_true] at hb2
      show _ ↔ (k : Int) ∈ q.1
      rcases Nat.lt_or_ge k i with hki | hki
      · exact H.kn b hb2.1 k m' hki hm'
      · have : k = i := by omega
        subst this
        rw [hm] at hm'
        cases hm'
        constructor
        · intro z; rw [z] at hb2; simp at hb2
        · intro z
          obtain ⟨k', e, hk'⟩ := H.lt _ z
          omega
    · obtain ⟨k, e, hk⟩ := H.lt x hx
      exact ⟨k, e, by omega⟩
theorem parts_ok {ms : List Nat} {every : Nat} : ∀ (l : List Nat) (i : Nat) (ps : List Part), ms.drop i = l → (∀ p ∈ ps, PartOk ms i every p) → ∀ p ∈ partsM l i ps, PartOk ms (i + l.length) every p
  | [], i, ps, _, h, p, hp => h p hp
  | m :: l, i, ps, e, h, p, hp => by
    have hm : ms[i]? = some m := by
      have := congrArg (fun l => l[0]?) e
      simpa using this
    have e2 : ms.drop (i + 1) = l := by
      have := congrArg (List.drop 1) e
      rw [List.drop_drop] at this
      simpa using this
    have := parts_ok l (i + 1) (stepM i m ps) e2 (part_step hm h) p hp
    rw [List.length_cons]
    rw [show i + (l.length + 1) = i + 1 + l.length by omega]
    exact this
theorem parts_pos : ∀ (l : List Nat) (i : Nat) (ps : List Part), (∀ p ∈ ps, l = [] → p.2 ≠ 0) → ∀ p ∈ partsM l i ps, p.2 ≠ 0
  | [], i, ps, h, p, hp => h p hp rfl
  | m :: l, i, ps, h, p, hp => parts_pos l (i + 1) _ (fun q hq _ => of_decide_eq_true (List.mem_filter.mp hq).2) p hp
theorem parts_len : ∀ (l : List Nat) (i : Nat) (ps : List Part), (partsM l i ps).length ≤ ps.length * 2 ^ l.length
  | [], i, ps => by simp [partsM]
  | m :: l, i, ps => by
    refine Nat.le_trans (parts_len l (i + 1) _) ?_
    have h1 : (stepM i m ps).length ≤ ps.length * 2 := by
      refine Nat.le_trans (List.length_filter_le _ _) ?_
      simp [insM, outM]; omega
    rw [List.length_cons, Nat.pow_succ, Nat.mul_comm (2 ^ l.length) 2, ← Nat.mul_assoc]
    exact Nat.mul_le_mul_right _ h1
/-- no lot is empty -/
theorem lots_ne {ms : List Nat} (h0 : ms ≠ []) : ∀ l ∈ lotsM ms, l ≠ [] := by
  intro l hl e
  subst e
  obtain ⟨p, hp, ep⟩ := List.mem_map.mp hl
  have hp := (List.mem_filter.mp hp).1
  have H := parts_ok (ms := ms) (every := orAll ms) ms 0 [([], orAll ms)] rfl (fun q hq => by
    rw [List.mem_singleton.mp hq]
    exact ⟨fun b hb => hb, fun b hb k m hk => by omega, fun x hx => by cases hx⟩) p hp
  have hne := parts_pos ms 0 [([], orAll ms)] (fun q hq e => absurd e h0) p hp
  obtain ⟨b, hb⟩ := Nat.exists_testBit_of_ne_zero hne
  have he := H.ev b hb
  unfold orAll at he
  rw [orAll_bit] at he
  simp only [Nat.zero_testBit, Bool.false_or] at he
  obtain ⟨m, hm, hmb⟩ := List.any_eq_true.mp he
  obtain ⟨k, hk⟩ := List.getElem?_of_mem hm
  have hkl : k < ms.length := (List.getElem?_eq_some_iff.mp hk).1
  have := (H.kn b hb k m (by omega) hk).mp hmb
  rw [ep] at this
  cases this
def insD (a : Int) (m : Nat) : D → D
  | .tup [.tup l, .int d] => .tup [.tup (l ++ [.int a]), .int (Builtin.bitAnd d m)]
  | d => d
def outD (m : Nat) : D → D
  | .tup [l, .int d] => .tup [l, .int (Builtin.bitAnd d (Builtin.bitNot (m : Int)))]
  | d => d
def hasD : D → Bool
  | .tup [_, .int d] => true ^^ decide (d = 0)
  | _ => false
def fstD : D → D
  | .tup [l, _] => l
  | d => d
def fewD (n : Nat) : D → Bool
  | .tup [.tup l, _] => decide ((l.length : Int) < (n : Int))
  | _ => false
theorem ins_map (a m : Nat) (ps : List Part) : (ps.map partD).map (insD (a : Int) m) = (insM a m ps).map partD := by
  unfold insM
  rw [List.map_map, List.map_map]
  refine List.map_congr_left fun p _ => ?_
  show D.tup [.tup (p.1.map D.int ++ [.int (a : Int)]), .int (Builtin.bitAnd (p.2 : Int) (m : Int))] = partD (p.1 ++ [(a : Int)], p.2 &&& m)
  rw [bitAnd_nat]
  show D.tup [.tup (p.1.map D.int ++ [.int (a : Int)]), natD (p.2 &&& m)] = D.tup [.tup ((p.1 ++ [(a : Int)]).map D.int), natD (p.2 &&& m)]
  rw [List.map_append]; rfl
theorem out_map (m : Nat) (ps : List Part) : (ps.map partD).map (outD m) = (outM m ps).map partD := by
  unfold outM
  rw [List.map_map, List.map_map]
  refine List.map_congr_left fun p _ => ?_
  show D.tup [tupI p.1, .int (Builtin.bitAnd (p.2 : Int) (Builtin.bitNot (m : Int)))] = partD (p.1, p.2 - (p.2 &&& m))
  rw [bitAnd_not]
theorem has_map (ps : List Part) : (ps.map partD).filter hasD = (ps.filter fun p => decide (p.2 ≠ 0)).map partD := by
  rw [List.filter_map]
  congr 1
  refine List.filter_congr fun p _ => ?_
  show (true ^^ decide ((p.2 : Int) = 0)) = decide (p.2 ≠ 0)
  by_cases h : p.2 = 0
  · simp [h]
  · simp [h]
theorem few_map (n : Nat) (ps : List Part) : ((ps.map partD).filter (fewD n)).map fstD = ((ps.filter fun p => decide (p.1.length < n)).map (·.1)).map tupI := by
  rw [List.filter_map, List.map_map, List.map_map]
  have : (fewD n ∘ partD) = fun p : Part => decide (p.1.length < n) := by
    funext p
    show decide ((((p.1.map D.int).length : Nat) : Int) < (n : Int)) = decide (p.1.length < n)
    refine decide_eq_decide.mpr ?_
    rw [List.length_map]
    omega
  rw [this]
  rfl
theorem step_few {a m k : Nat} {ps : List Part} (h : ∀ p ∈ ps, p.1.length ≤ k) : ∀ p ∈ stepM a m ps, p.1.length ≤ k + 1 := by
  intro p hp
  rcases List.mem_append.mp (List.mem_filter.mp hp).1 with hp | hp
  · obtain ⟨q, hq, rfl⟩ := List.mem_map.mp hp
    have := h q hq
    simp; omega
  · obtain ⟨q, hq, rfl⟩ := List.mem_map.mp hp
    exact Nat.le_succ_of_le (h q hq)
theorem step_len (a m : Nat) (ps : List Part) : (stepM a m ps).length ≤ ps.length * 2 := by
  refine Nat.le_trans (List.length_filter_le _ _) ?_
  simp [insM, outM]; omega
end Dy
namespace Dy
open PySem PySem.Spec PyProof.Rows L2
theorem pyDs_ints : ∀ ns : List Int, pyDs (ns.map D.int) = some (ns.map PyData.int)
  | [] => by rw [List.map_nil, pyDs]; rfl
  | n :: ns => by rw [List.map_cons, pyDs, pyDs_ints ns, pyD]; rfl
theorem depth_ints : ∀ ns : List Int, PyData.depthAll (ns.map PyData.int) = 0
  | [] => rfl
  | n :: ns => by
    show max (PyData.depth (.int n)) (PyData.depthAll (ns.map PyData.int)) = 0
    rw [depth_ints ns]; rfl
theorem eqvAll_ints : ∀ ns ms : List Int, PyData.eqvAll (ns.map PyData.int) (ms.map PyData.int) = decide (ns = ms)
  | [], [] => by simp [PyData.eqvAll]
  | [], m :: ms => by simp [PyData.eqvAll]
  | n :: ns, [] => by simp [PyData.eqvAll]
  | n :: ns, m :: ms => by
    rw [List.map_cons, List.map_cons, PyData.eqvAll, eqvAll_ints ns ms, PyData.eqv]
    by_cases h : n = m
    · subst h; simp
    · have : (n == m) = false := by simpa using h
      rw [this]; simp [h]
/-- two lists of ints are compared -/
theorem o_eqLI {S : Store} {Q : QD} {neg : Bool} {ns ms : List Int} (h : Q (.bl (neg ^^ decide (ns = ms))) S) : dEqN neg (.lst (ns.map .int)) (.lst (ms.map .int)) S Q := by
  show ∃ d e, pyS S (.lst (ns.map .int)) = some d ∧ pyS S (.lst (ms.map .int)) = some e ∧ min d.depth e.depth ≤ 60 ∧ Q (.bl (neg ^^ PyData.eqv d e)) S
  refine ⟨.list (ns.map .int), .list (ms.map .int), ?_, ?_, ?_, ?_⟩
  · show pyD (.lst (ns.map .int)) = _
    rw [pyD, pyDs_ints]; rfl
  · show pyD (.lst (ms.map .int)) = _
    rw [pyD, pyDs_ints]; rfl
  · show min (PyData.depthAll (ns.map PyData.int) + 1) (PyData.depthAll (ms.map PyData.int) + 1) ≤ 60
    rw [depth_ints, depth_ints]; decide
  · have e : PyData.eqv (.list (ns.map .int)) (.list (ms.map .int)) = decide (ns = ms) := by
      rw [PyData.eqv, eqvAll_ints]
    rw [e]; exact h
/-- two tuples of ints are compared -/
theorem o_eqTI {S : Store} {Q : QD} {neg : Bool} {ns ms : List Int} (h : Q (.bl (neg ^^ decide (ns = ms))) S) : dEqN neg (.tup (ns.map .int)) (.tup (ms.map .int)) S Q := by
  show ∃ d e, pyS S (.tup (ns.map .int)) = some d ∧ pyS S (.tup (ms.map .int)) = some e ∧ min d.depth e.depth ≤ 60 ∧ Q (.bl (neg ^^ PyData.eqv d e)) S
  refine ⟨.tuple (ns.map .int), .tuple (ms.map .int), ?_, ?_, ?_, ?_⟩
  · show pyD (.tup (ns.map .int)) = _
    rw [pyD, pyDs_ints]; rfl
  · show pyD (.tup (ms.map .int)) = _
    rw [pyD, pyDs_ints]; rfl
  · show min (PyData.depthAll (ns.map PyData.int) + 1) (PyData.depthAll (ms.map PyData.int) + 1) ≤ 60
    rw [depth_ints, depth_ints]; decide
  · have e : PyData.eqv (.tuple (ns.map .int)) (.tuple (ms.map .int)) = decide (ns = ms) := by
      rw [PyData.eqv, eqvAll_ints]
    rw [e]; exact h
/-- two sorted lists of the same -/
theorem sorted_eq {ns ms : List Int} (h : ns.Perm ms) (a : ns.Pairwise (· ≤ ·)) (b : ms.Pairwise (· ≤ ·)) : ns = ms := h.eq_of_pairwise (fun a b _ _ h1 h2 => Int.le_antisymm h1 h2) a b
theorem int_inj : ∀ {ns ms : List Int}, ns.map D.int = ms.map D.int → ns = ms
  | [], [], _ => rfl
  | [], _ :: _, h => by simp at h
  | _ :: _, [], h => by simp at h
  | n :: ns, m :: ms, h => by
    simp only [List.map_cons, List.cons.injEq, D.int.injEq] at h
    rw [h.1, int_inj h.2]
end Dy
/-! the laws' own state: who knows what, by sets -/
namespace Dy
open PySem PySem.Spec PyProof.Rows L2
abbrev tupNs (l : List Nat) : D := .tup (l.map natD)
structure LM where
  kn : List (Nat × List Nat)
  born : Nat
  done : Nat
  mark : Int
abbrev LM.ks (l : LM) : List Nat := keysN l.kn
def LM.at (l : LM) (i : Nat) : List Nat := (kget l.kn i).getD []
/-- the ascending list of what stands in either -/
def mergeN (a b : List Nat) : List Nat := (List.range ((a ++ b).foldl max 0 + 1)).filter fun k => decide (k ∈ a ++ b)
theorem le_fold {l : List Nat} : ∀ {a : Nat}, a ≤ l.foldl max a ∧ ∀ k ∈ l, k ≤ l.foldl max a := by
  induction l with
  | nil => intro a; exact ⟨Nat.le_refl _, fun k hk => by cases hk⟩
  | cons x l ih =>
    intro a
    rw [List.foldl_cons]
    have h := ih (a := max a x)
    refine ⟨Nat.le_trans (Nat.le_max_left _ _) h.1, fun k hk => ?_⟩
    rcases List.mem_cons.mp hk with rfl | hk
    · exact Nat.le_trans (Nat.le_max_right _ _) h.1
    · exact h.2 k hk
theorem mem_merge {a b : List Nat} {k : Nat} : k ∈ mergeN a b ↔ k ∈ a ∨ k ∈ b := by
  unfold mergeN
  rw [List.mem_filter, List.mem_range, decide_eq_true_eq, List.mem_append]
  constructor
  · exact fun h => h.2
  · intro h
    have := (le_fold (l := a ++ b) (a := 0)).2 k (List.mem_append.mpr h)
    exact ⟨by omega, h⟩
theorem merge_lt (a b : List Nat) : (mergeN a b).Pairwise (· < ·) := List.pairwise_lt_range.filter _
/-- an ascending list is told by its members -/
theorem asc_eq : ∀ {xs ys : List Nat}, xs.Pairwise (· < ·) → ys.Pairwise (· < ·) → (∀ k, k ∈ xs ↔ k ∈ ys) → xs = ys
  | [], [], _, _, _ => rfl
  | [], y :: ys, _, _, h => by have := (h y).mpr List.mem_cons_self; cases this
  | x :: xs, [], _, _, h => by have := (h x).mp List.mem_cons_self; cases this
  | x :: xs, y :: ys, a, b, h => by
    have a1 := List.pairwise_cons.mp a
    have b1 := List.pairwise_cons.mp b
    have e : x = y := by
      have hx := (h x).mp List.mem_cons_self
      have hy := (h y).mpr List.mem_cons_self
      rcases List.mem_cons.mp hx with e | hx
      · exact e
      · rcases List.mem_cons.mp hy with e | hy
        · exact e.symm
        · have h1 := a1.1 y hy
          have h2 := b1.1 x hx
          omega
    subst e
    rw [asc_eq a1.2 b1.2 fun k => ?_]
    constructor
    · intro hk
      rcases List.mem_cons.mp ((h k).mp (List.mem_cons_of_mem _ hk)) with e | hk2
      · subst e; have := a1.1 k hk; omega
      · exact hk2
    · intro hk
      rcases List.mem_cons.mp ((h k).mpr (List.mem_cons_of_mem _ hk)) with e | hk2
      · subst e; have := b1.1 k hk; omega
      · exact hk2
def LM.lets (w : Wld) (l : LM) : Deed → Bool
  | .ch i => decide (i ∈ l.ks) && (!decide (w.kind = "pen") || decide (l.mark = (i : Int)))
  | .fk i => decide (i ∈ l.ks) && (decide (l.ks.length < w.most) && (!decide (w.kind = "trunk") || decide (i = 0)))
  | .jn i j => decide (i ∈ l.ks) && decide (j ∈ l.ks) && (decide (i ≠ j) && (!decide (w.kind = "trunk") || decide (i = 0)))
  | .ls i => decide (i ∈ l.ks) && (w.los && decide (1 < l.ks.length))
def LM.act (l : LM) : Deed → LM
  | .ch i => ⟨kput l.kn i (l.at i ++ [l.done]), l.born, l.done + 1, l.mark⟩
  | .fk i => ⟨kput l.kn l.born (l.at i), l.born + 1, l.done + 1, l.mark⟩
  | .jn i j => ⟨kput (kdrop l.kn j) i (mergeN (l.at i) (l.at j)), l.born, l.done + 1, if l.mark = (j : Int) then (i : Int) else l.mark⟩
  | .ls i => ⟨kdrop l.kn i, l.born, l.done + 1, if l.mark = (i : Int) then -1 else l.mark⟩
def LM.zero (w : Wld) : LM := ⟨[(0, [])], 1, 0, if w.kind = "free" then -1 else 0⟩
def LM.ok (l : LM) : Deed → Prop
  | .ch i => i ∈ l.ks
  | .fk i => i ∈ l.ks
  | .jn i j => i ∈ l.ks ∧ j ∈ l.ks ∧ i ≠ j
  | .ls i => i ∈ l.ks
theorem LM.lets_ok {w : Wld} {l : LM} {x : Deed} (h : l.lets w x = true) : l.ok x := by
  cases x with
  | ch i =>
    have h : (decide (i ∈ l.ks) && _) = true := h
    rw [Bool.and_eq_true] at h
    exact (of_decide_eq_true h.1 : i ∈ l.ks)
  | fk i =>
    have h : (decide (i ∈ l.ks) && _) = true := h
    rw [Bool.and_eq_true] at h
    exact (of_decide_eq_true h.1 : i ∈ l.ks)
  | jn i j =>
    have h : ((decide (i ∈ l.ks) && decide (j ∈ l.ks)) && (decide (i ≠ j) && _)) = true := h
    rw [Bool.and_eq_true, Bool.and_eq_true, Bool.and_eq_true] at h
    exact ⟨of_decide_eq_true h.1.1, of_decide_eq_true h.1.2, of_decide_eq_true h.2.1⟩
  | ls i =>
    have h : (decide (i ∈ l.ks) && _) = true := h
    rw [Bool.and_eq_true] at h
    exact (of_decide_eq_true h.1 : i ∈ l.ks)
theorem LM.at_eq {l : LM} {i : Nat} (m : i ∈ l.ks) : kget l.kn i = some (l.at i) := by
  obtain ⟨v, e⟩ := kget_of m
  unfold LM.at
  rw [e]; rfl
/-- the program's herd and the law's state tell the same -/
structure Rel (w : Wld) (h : HM) (l : LM) : Prop where
  ks : l.ks = h.ks
  born : l.born = h.forks + 1
  bits : ∀ i ∈ h.ks, ∀ b, (h.at i).testBit b = decide (b ∈ l.at i)
  asc : ∀ i ∈ h.ks, (l.at i).Pairwise (· < ·)
  lt : ∀ i ∈ h.ks, ∀ b ∈ l.at i, b < l.done
  mark : w.kind ≠ "free" → (l.mark = (h.pen : Int) ∧ h.pen ∈ h.ks) ∨ (l.mark = -1 ∧ h.pen ∉ h.ks)
  free : w.kind = "free" → l.mark = -1
theorem rel0 (w : Wld) : Rel w HM.zero (LM.zero w) := by
  have a0 : ∀ i ∈ HM.zero.ks, i = 0 := fun i hi => by
    have : i ∈ [0] := hi
    exact List.mem_singleton.mp this
  refine ⟨rfl, rfl, fun i hi b => ?_, fun i hi => ?_, fun i hi b hb => ?_, fun hk => .inl ⟨?_, ?_⟩, fun hk => ?_⟩
  · rw [a0 i hi]
    show (0 : Nat).testBit b = decide (b ∈ ([] : List Nat))
    simp
  · rw [a0 i hi]; exact List.Pairwise.nil
  · rw [a0 i hi] at hb; cases hb
  · show (if w.kind = "free" then (-1 : Int) else 0) = _
    rw [if_neg hk]; rfl
  · show 0 ∈ [0]; simp
  · show (if w.kind = "free" then (-1 : Int) else 0) = _
    rw [if_pos hk]
theorem Rel.lets {w : Wld} {h : HM} {l : LM} {x : Deed} (r : Rel w h l) (wf : deedWf x) : l.lets w x = h.lets w x := by
  have hks := r.ks
  cases x with
  | ch i =>
    show (decide (i ∈ l.ks) && (!decide (w.kind = "pen") || decide (l.mark = (i : Int)))) = (decide (i ∈ h.ks) && (!decide (w.kind = "pen") || decide (i = h.pen)))
    rw [hks]
    by_cases hi : i ∈ h.ks
    · by_cases hk : w.kind = "pen"
      · rcases r.mark (by rw [hk]; decide) with ⟨e, _⟩ | ⟨e, hn⟩
        · rw [e]
          congr 2
          exact decide_eq_decide.mpr (by omega)
        · have h1 : ¬ (i = h.pen) := fun z => hn (z ▸ hi)
          have h2 : ¬ (l.mark = (i : Int)) := by rw [e]; omega
          simp [h1, h2]
      · simp [hk]
    · simp [hi]
  | fk i =>
    show (decide (i ∈ l.ks) && (decide (l.ks.length < w.most) && _)) = (decide (i ∈ h.ks) && (decide (h.ks.length < w.most) && _))
    rw [hks]
  | jn i j =>
    have wf : i ≠ j := wf
    show (decide (i ∈ l.ks) && decide (j ∈ l.ks) && (decide (i ≠ j) && _)) = (decide (i ∈ h.ks) && decide (j ∈ h.ks) && _)
    rw [hks, decide_eq_true wf, Bool.true_and]
  | ls i =>
    show (decide (i ∈ l.ks) && (w.los && decide (1 < l.ks.length))) = (decide (i ∈ h.ks) && (w.los && decide (1 < h.ks.length)))
    rw [hks]
theorem HM.at_put {kn : List (Nat × Nat)} {i j v f p f' p' : Nat} : HM.at ⟨kput kn i v, f, p⟩ j = if i = j then v else HM.at ⟨kn, f', p'⟩ j := by
  unfold HM.at
  rw [kget_put]
  split <;> rfl
theorem LM.at_put {kn : List (Nat × List Nat)} {i j : Nat} {v : List Nat} {a b a' b' : Nat} {m m' : Int} : LM.at ⟨kput kn i v, a, b, m⟩ j = if i = j then v else LM.at ⟨kn, a', b', m'⟩ j := by
  unfold LM.at
  rw [kget_put]
  split <;> rfl
theorem HM.at_drop {kn : List (Nat × Nat)} {i j f p f' p' : Nat} (h : i ≠ j) : HM.at ⟨kdrop kn i, f, p⟩ j = HM.at ⟨kn, f', p'⟩ j := by
  unfold HM.at
  rw [kget_drop, if_neg h]
theorem LM.at_drop {kn : List (Nat × List Nat)} {i j a b a' b' : Nat} {m m' : Int} (h : i ≠ j) : LM.at ⟨kdrop kn i, a, b, m⟩ j = LM.at ⟨kn, a', b', m'⟩ j := by
  unfold LM.at
  rw [kget_drop, if_neg h]
theorem Rel.act {w : Wld} {h : HM} {l : LM} {x : Deed} (r : Rel w h l) (H : h.Inv) (ok : h.ok x) : Rel w (h.act l.done x) (l.act x) := by
  obtain ⟨kn, forks, pen⟩ := h
  obtain ⟨ln, born, done, mark⟩ := l
  obtain ⟨hks0, hborn0, hbits, hasc, hlt, hmark, hfree⟩ := r
  obtain rfl : born = forks + 1 := hborn0
  have hks : keysN ln = keysN kn := hks0
  clear hks0
  cases x with
  | ch i =>
    have o : i ∈ keysN kn := ok
    have ek : (HM.act ⟨kn, forks, pen⟩ done (.ch i)).ks = keysN kn := by
      show keysN (kput kn i _) = _
      rw [keys_put, if_pos o]
    refine ⟨?_, rfl, fun j hj b => ?_, fun j hj => ?_, fun j hj b hb => ?_, fun hk => ?_, hfree⟩
    · rw [ek]
      show keysN (kput ln i _) = _
      rw [keys_put, if_pos (hks ▸ o), hks]
    · rw [ek] at hj
      have e1 : HM.at (HM.act ⟨kn, forks, pen⟩ done (.ch i)) j = if i = j then HM.at ⟨kn, forks, pen⟩ i ||| 2 ^ done else HM.at ⟨kn, forks, pen⟩ j := HM.at_put
      have e2 : LM.at (LM.act ⟨ln, forks + 1, done, mark⟩ (.ch i)) j = if i = j then LM.at ⟨ln, forks + 1, done, mark⟩ i ++ [done] else LM.at ⟨ln, forks + 1, done, mark⟩ j := LM.at_put
      rw [e1, e2]
      split
      · rw [Nat.testBit_or, hbits i o b, Nat.testBit_two_pow]
        by_cases hb : b = done
        · subst hb; simp
        · simp [hb, Ne.symm hb]
      · exact hbits j hj b
    · rw [ek] at hj
      have e2 : LM.at (LM.act ⟨ln, forks + 1, done, mark⟩ (.ch i)) j = if i = j then LM.at ⟨ln, forks + 1, done, mark⟩ i ++ [done] else LM.at ⟨ln, forks + 1, done, mark⟩ j := LM.at_put
      rw [e2]
      split
      · exact List.pairwise_append.mpr ⟨hasc i o, List.pairwise_singleton _ _, fun a ha b hb => by rw [List.mem_singleton.mp hb]; exact hlt i o a ha⟩
      · exact hasc j hj
    · rw [ek] at hj
      have e2 : LM.at (LM.act ⟨ln, forks + 1, done, mark⟩ (.ch i)) j = if i = j then LM.at ⟨ln, forks + 1, done, mark⟩ i ++ [done] else LM.at ⟨ln, forks + 1, done, mark⟩ j := LM.at_put
      rw [e2] at hb
      show b < done + 1
      split at hb
      · rcases List.mem_append.mp hb with hb | hb
        · exact Nat.lt_succ_of_lt (hlt i o b hb)
        · rw [List.mem_singleton.mp hb]; omega
      · exact Nat.lt_succ_of_lt (hlt j hj b hb)
    · rw [ek]; exact hmark hk
  | fk i =>
    have o : i ∈ keysN kn := ok
    have nw : forks + 1 ∉ keysN kn := fun z => by have : forks + 1 ≤ forks := H.le _ z; omega
    have ek : (HM.act ⟨kn, forks, pen⟩ done (.fk i)).ks = keysN kn ++ [forks + 1] := by
      show keysN (kput kn (forks + 1) _) = _
      rw [keys_put, if_neg nw]
    have e1 : ∀ j, HM.at (HM.act ⟨kn, forks, pen⟩ done (.fk i)) j = if forks + 1 = j then HM.at ⟨kn, forks, pen⟩ i else HM.at ⟨kn, forks, pen⟩ j := fun j => HM.at_put
    have e2 : ∀ j, LM.at (LM.act ⟨ln, forks + 1, done, mark⟩ (.fk i)) j = if forks + 1 = j then LM.at ⟨ln, forks + 1, done, mark⟩ i else LM.at ⟨ln, forks + 1, done, mark⟩ j := fun j => LM.at_put
    have old : ∀ j ∈ keysN kn ++ [forks + 1], ¬ forks + 1 = j → j ∈ keysN kn := fun j hj ne => by
      rcases List.mem_append.mp hj with hj | hj
      · exact hj
      · exact absurd (List.mem_singleton.mp hj).symm ne
    refine ⟨?_, rfl, fun j hj b => ?_, fun j hj => ?_, fun j hj b hb => ?_, fun hk => ?_, hfree⟩
    · rw [ek]
      show keysN (kput ln (forks + 1) _) = _
      rw [keys_put, if_neg (hks ▸ nw), hks]
    · rw [ek] at hj
      rw [e1, e2]
      split
      · exact hbits i o b
      · rename_i ne; exact hbits j (old j hj ne) b
    · rw [ek] at hj
      rw [e2]
      split
      · exact hasc i o
      · rename_i ne; exact hasc j (old j hj ne)
    · rw [ek] at hj
      rw [e2] at hb
      show b < done + 1
      split at hb
      · exact Nat.lt_succ_of_lt (hlt i o b hb)
      · rename_i ne; exact Nat.lt_succ_of_lt (hlt j (old j hj ne) b hb)
    · rw [ek]
      rcases hmark hk with ⟨e, m⟩ | ⟨e, m⟩
      · exact .inl ⟨e, List.mem_append_left _ m⟩
      · refine .inr ⟨e, fun z => ?_⟩
        rcases List.mem_append.mp z with z | z
        · exact m z
        · have e3 : pen = forks + 1 := List.mem_singleton.mp z
          have : pen ≤ forks := H.pe
          omega
  | jn i j =>
    have o : i ∈ keysN kn ∧ j ∈ keysN kn ∧ i ≠ j := ok
    have hi' : i ∈ keysN (kdrop kn j) := by rw [keys_drop]; exact List.mem_filter.mpr ⟨o.1, decide_eq_true o.2.2⟩
    have ek : (HM.act ⟨kn, forks, pen⟩ done (.jn i j)).ks = (keysN kn).filter fun k => decide (k ≠ j) := by
      show keysN (kput (kdrop kn j) i _) = _
      rw [keys_put, if_pos hi', keys_drop]
    have e1 : ∀ k, k ≠ j → HM.at (HM.act ⟨kn, forks, pen⟩ done (.jn i j)) k = if i = k then HM.at ⟨kn, forks, pen⟩ i ||| HM.at ⟨kn, forks, pen⟩ j else HM.at ⟨kn, forks, pen⟩ k := fun k hk => by
      have : HM.at (HM.act ⟨kn, forks, pen⟩ done (.jn i j)) k = if i = k then HM.at ⟨kn, forks, pen⟩ i ||| HM.at ⟨kn, forks, pen⟩ j else HM.at ⟨kdrop kn j, forks, pen⟩ k := HM.at_put
      rw [this, HM.at_drop (Ne.symm hk)]
    have e2 : ∀ k, k ≠ j → LM.at (LM.act ⟨ln, forks + 1, done, mark⟩ (.jn i j)) k = if i = k then mergeN (LM.at ⟨ln, forks + 1, done, mark⟩ i) (LM.at ⟨ln, forks + 1, done, mark⟩ j) else LM.at ⟨ln, forks + 1, done, mark⟩ k := fun k hk => by
      have : LM.at (LM.act ⟨ln, forks + 1, done, mark⟩ (.jn i j)) k = if i = k then mergeN (LM.at ⟨ln, forks + 1, done, mark⟩ i) (LM.at ⟨ln, forks + 1, done, mark⟩ j) else LM.at ⟨kdrop ln j, forks + 1, done, mark⟩ k := LM.at_put
      rw [this, LM.at_drop (Ne.symm hk)]
    have old : ∀ k ∈ (keysN kn).filter (fun k => decide (k ≠ j)), k ∈ keysN kn ∧ k ≠ j := fun k hk => ⟨(List.mem_filter.mp hk).1, of_decide_eq_true (List.mem_filter.mp hk).2⟩
    refine ⟨?_, rfl, fun k hk b => ?_, fun k hk => ?_, fun k hk b hb => ?_, fun hk => ?_, fun hk => ?_⟩
    · rw [ek]
      show keysN (kput (kdrop ln j) i _) = _
      have : i ∈ keysN (kdrop ln j) := by rw [keys_drop, hks]; exact List.mem_filter.mpr ⟨o.1, decide_eq_true o.2.2⟩
      rw [keys_put, if_pos this, keys_drop, hks]
    · rw [ek] at hk
      obtain ⟨k1, k2⟩ := old k hk
      rw [e1 k k2, e2 k k2]
      split
      · rw [Nat.testBit_or, hbits i o.1 b, hbits j o.2.1 b]
        rw [← Bool.decide_or]
        exact decide_eq_decide.mpr mem_merge.symm
      · exact hbits k k1 b
    · rw [ek] at hk
      obtain ⟨k1, k2⟩ := old k hk
      rw [e2 k k2]
      split
      · exact merge_lt _ _
      · exact hasc k k1
    · rw [ek] at hk
      obtain ⟨k1, k2⟩ := old k hk
      rw [e2 k k2] at hb
      show b < done + 1
      split at hb
      · rcases mem_merge.mp hb with hb | hb
        · exact Nat.lt_succ_of_lt (hlt i o.1 b hb)
        · exact Nat.lt_succ_of_lt (hlt j o.2.1 b hb)
      · exact Nat.lt_succ_of_lt (hlt k k1 b hb)
    · rw [ek]
      show ((if mark = (j : Int) then (i : Int) else mark) = (((if pen = j then i else pen : Nat)) : Int) ∧ (if pen = j then i else pen) ∈ _) ∨ ((if mark = (j : Int) then (i : Int) else mark) = -1 ∧ (if pen = j then i else pen) ∉ _)
      rcases hmark hk with ⟨e, m⟩ | ⟨e, m⟩
      · have e : mark = (pen : Int) := e
        have m : pen ∈ keysN kn := m
        left
        by_cases hp : pen = j
        · rw [if_pos hp, if_pos (by omega)]
          exact ⟨rfl, List.mem_filter.mpr ⟨o.1, decide_eq_true o.2.2⟩⟩
        · rw [if_neg hp, if_neg (by omega)]
          exact ⟨e, List.mem_filter.mpr ⟨m, decide_eq_true hp⟩⟩
      · have e : mark = -1 := e
        have m : pen ∉ keysN kn := m
        right
        have hp : ¬ pen = j := fun z => m (z ▸ o.2.1)
        rw [if_neg hp, if_neg (by omega)]
        exact ⟨e, fun z => m (List.mem_filter.mp z).1⟩
    · have e : mark = -1 := hfree hk
      show (if mark = (j : Int) then (i : Int) else mark) = -1
      rw [if_neg (by omega)]; exact e
  | ls i =>
    have o : i ∈ keysN kn := ok
    have ek : (HM.act ⟨kn, forks, pen⟩ done (.ls i)).ks = (keysN kn).filter fun k => decide (k ≠ i) := by
      show keysN (kdrop kn i) = _
      rw [keys_drop]
    have e1 : ∀ k, k ≠ i → HM.at (HM.act ⟨kn, forks, pen⟩ done (.ls i)) k = HM.at ⟨kn, forks, pen⟩ k := fun k hk => HM.at_drop (Ne.symm hk)
    have e2 : ∀ k, k ≠ i → LM.at (LM.act ⟨ln, forks + 1, done, mark⟩ (.ls i)) k = LM.at ⟨ln, forks + 1, done, mark⟩ k := fun k hk => LM.at_drop (Ne.symm hk)
    have old : ∀ k ∈ (keysN kn).filter (fun k => decide (k ≠ i)), k ∈ keysN kn ∧ k ≠ i := fun k hk => ⟨(List.mem_filter.mp hk).1, of_decide_eq_true (List.mem_filter.mp hk).2⟩
    refine ⟨?_, rfl, fun k hk b => ?_, fun k hk => ?_, fun k hk b hb => ?_, fun hk => ?_, fun hk => ?_⟩
    · rw [ek]
      show keysN (kdrop ln i) = _
      rw [keys_drop, hks]
    · rw [ek] at hk
      obtain ⟨k1, k2⟩ := old k hk
      rw [e1 k k2, e2 k k2]
      exact hbits k k1 b
    · rw [ek] at hk
      obtain ⟨k1, k2⟩ := old k hk
      rw [e2 k k2]
      exact hasc k k1
    · rw [ek] at hk
      obtain ⟨k1, k2⟩ := old k hk
      rw [e2 k k2] at hb
      exact Nat.lt_succ_of_lt (hlt k k1 b hb)
    · rw [ek]
      show ((if mark = (i : Int) then -1 else mark) = ((pen : Nat) : Int) ∧ pen ∈ _) ∨ ((if mark = (i : Int) then -1 else mark) = -1 ∧ pen ∉ _)
      rcases hmark hk with ⟨e, m⟩ | ⟨e, m⟩
      · have e : mark = (pen : Int) := e
        have m : pen ∈ keysN kn := m
        by_cases hp : pen = i
        · right
          rw [if_pos (by omega)]
          exact ⟨rfl, fun z => (old pen z).2 hp⟩
        · left
          rw [if_neg (by omega)]
          exact ⟨e, List.mem_filter.mpr ⟨m, decide_eq_true hp⟩⟩
      · have e : mark = -1 := e
        have m : pen ∉ keysN kn := m
        right
        rw [if_neg (by omega)]
        exact ⟨e, fun z => m (List.mem_filter.mp z).1⟩
    · have e : mark = -1 := hfree hk
      show (if mark = (i : Int) then -1 else mark) = -1
      rw [if_neg (by omega)]; exact e
end Dy
namespace Dy
open PySem PySem.Spec PyProof.Rows L2
theorem merge_ints {a b : List Nat} {ns : List Int} (hp : ns.Pairwise (· < ·)) (hm : ∀ k, k ∈ ns ↔ k ∈ (a ++ b).map fun (k : Nat) => (k : Int)) : ns = (mergeN a b).map fun (k : Nat) => (k : Int) := by
  have e : ns = (ns.map Int.toNat).map (fun (k : Nat) => (k : Int)) := by
    rw [List.map_map]
    conv => lhs; rw [← List.map_id ns]
    refine List.map_congr_left fun x hx => ?_
    obtain ⟨k, _, rfl⟩ := List.mem_map.mp ((hm x).mp hx)
    show (k : Int) = (((k : Int).toNat : Nat) : Int)
    omega
  rw [e]
  congr 1
  refine asc_eq ?_ (merge_lt a b) fun k => ?_
  · rw [e] at hp
    have := List.pairwise_map.mp hp
    exact this.imp fun {x y} h => by omega
  · rw [mem_merge]
    constructor
    · intro hk
      obtain ⟨x, hx, rfl⟩ := List.mem_map.mp hk
      obtain ⟨k, hk, e2⟩ := List.mem_map.mp ((hm x).mp hx)
      rw [← e2]
      simpa using List.mem_append.mp hk
    · intro hk
      refine List.mem_map.mpr ⟨(k : Int), (hm _).mpr (List.mem_map.mpr ⟨k, List.mem_append.mpr hk, rfl⟩), by omega⟩
theorem map_nat (js : List Nat) : (js.map fun (k : Nat) => (k : Int)).map D.int = js.map natD := by rw [List.map_map]; rfl
abbrev stKeys : List Key := [.inr "knows", .inr "born", .inr "done", .inr "mark"]
/-- d is the laws' state l -/
def StAt (S : Store) (d : D) (l : LM) : Prop := ∃ kd, d = .dic stKeys [kd, natD l.born, natD l.done, .int l.mark] ∧ dvOf S kd = some (kvsF tupNs l.kn)
/-- dicts stand as they did -/
def DKept (S S' : Store) : Prop := ∀ (m : Nat) (kvs : KVD), S[m]? = some (.dK kvs) → S'[m]? = some (.dK kvs)
theorem dv_kept {S S' : Store} {d : D} {kvs : KVD} (h : dvOf S d = some kvs) (k : DKept S S') : dvOf S' d = some kvs := by
  cases d with
  | dic ks xs => exact h
  | ref n =>
    have h : (match S[n]? with | some (.dK kvs) => some kvs | _ => none) = some kvs := h
    cases e : S[n]? with
    | none => rw [e] at h; cases h
    | some o =>
      rw [e] at h
      cases o with
      | dK kvs2 =>
        cases h
        exact dv_ref (k n _ e)
      | _ => cases h
  | _ => cases h
theorem StAt.kept {S S' : Store} {d : D} {l : LM} (h : StAt S d l) (k : DKept S S') : StAt S' d l := by
  obtain ⟨kd, e, h⟩ := h
  exact ⟨kd, e, dv_kept h k⟩
theorem merge4 {a b c d : D} : dmergeK [(.inr "knows", a), (.inr "born", b), (.inr "done", c), (.inr "mark", d)] = [(.inr "knows", a), (.inr "born", b), (.inr "done", c), (.inr "mark", d)] := rfl
theorem o_ext {S : Store} {Q : QD} {n : Nat} {xs ys : List D} {e : D} (e1 : S[n]? = some (.lst xs)) (e2 : lsM S e = some ys) (c : xs.length + ys.length ≤ sizeLine)
    (h : ∀ S', S'.length = S.length → S'[n]? = some (.lst (xs ++ ys)) → (∀ m : Nat, m ≠ n → S'[m]? = S[m]?) → Q .non S') : mExt (.ref n) [e] S Q :=
  ⟨n, xs, e, ys, rfl, rfl, e1, e2, c, put_at e1 h⟩
theorem deedOf_dd {y : Deed} (h : deedWf y) : deedOf y.d = some y := by
  cases y with
  | ch i =>
    simp only [Deed.d, deedOf, natOf_n]
    exact if_pos trivial
  | fk i =>
    simp only [Deed.d, deedOf, natOf_n]
    exact (if_neg (by decide)).trans (if_pos trivial)
  | ls i =>
    simp only [Deed.d, deedOf, natOf_n]
    exact (if_neg (by decide)).trans ((if_neg (by decide)).trans (if_pos trivial))
  | jn i j =>
    have h : i ≠ j := h
    simp only [Deed.d, deedOf, natOf_n]
    exact if_pos ⟨trivial, h⟩
end Dy
/-! except suites for a list of errors -/
namespace Dy
open PySem PySem.Spec PyProof.Rows L2
def emTab (l : List Addr) (C : Addr) : Option Bool := if C ∈ l then some true else none
theorem em_tab {K : PySem.W.Frag} {c : Addr} {l : List Addr} (h : ∀ C ∈ l, PySem.W.exmOne K (.ref C) (.ref c) = some true) : ∀ C b, emTab l C = some b → PySem.W.exmOne K (.ref C) (.ref c) = some b := fun C b e => by
  unfold emTab at e
  by_cases q : C ∈ l
  · rw [if_pos q] at e
    cases e
    exact h C q
  · rw [if_neg q] at e; cases e
/-- errors of these classes; those at F have fields -/
def pErr (l : List Addr) (f : Addr) (C : Addr) (d : Option Addr) : Bool := decide (C ∈ l) && (decide (C = f) == d.isSome)
theorem pErr_mem {l : List Addr} {f C : Addr} {d : Option Addr} (h : pErr l f C d = true) : C ∈ l := by
  unfold pErr at h
  rw [Bool.and_eq_true] at h
  exact of_decide_eq_true h.1
def dXi (b : Bool) (a : Addr) (d : Option Addr) (f : Str) (te : DTE) : DTE := if b = true then dXa a d f te else fun _ _ _ _ => False
theorem de_xi {F : Fam} {W : WX} {a C c : Addr} {d : Option Addr} {f : Str} {e : Expr} {te : DTE} {pos : Pos} (T : XfC F.K c) (hno : PySem.W.findIn F.K (.ref c) f = some none) (he : DE (F.su a (.ref C) d) W e te)
    (hb : ∀ i, attributeBase e f ((F.su a (.ref C) d).X i).env (eval e ((F.su a (.ref C) d).X i).env) = eval e ((F.su a (.ref C) d).X i).env := by intro _; rfl) : DE (F.su a (.ref C) d) W (.Attribute e f pos) (dXi (decide (C = c)) a d f te) := by
  by_cases q : C = c
  · subst q
    unfold dXi
    rw [if_pos (decide_eq_true rfl)]
    exact de_xa T hno he hb
  · unfold dXi
    rw [if_neg (by rw [decide_eq_false q]; decide)]
    exact de_no
theorem c_xi {a dd c : Addr} {f : Str} {te : DTE} {ρ : Rho} {S : Store} {Q : QD} {E : XQ} (h : te ρ S (fun v S1 => oXe a dd f v S1 Q) E) : dXi (decide (c = c)) a (some dd) f te ρ S Q E := by
  unfold dXi
  rw [if_pos (decide_eq_true rfl)]
  exact h
theorem kt_cls {l : List (D × Bool)} {n : Addr} {b : Bool} {m : Addr} (h : m ≠ n) : ktTab ((.cls m, b) :: l) (.cls n) = ktTab l (.cls n) := by
  unfold ktTab
  simp only [List.find?_cons, decide_eq_false h]
theorem kt_hit {l : List (D × Bool)} {n : Addr} {b : Bool} : ktTab ((.cls n, b) :: l) (.cls n) = some b := by
  unfold ktTab
  simp only [List.find?_cons, decide_true, Option.map_some]
theorem kt_ty {l : List (D × Bool)} {n : Addr} {b : Bool} {m : String} : ktTab ((.ty m, b) :: l) (.cls n) = ktTab l (.cls n) := by
  unfold ktTab
  simp only [List.find?_cons]
theorem kt_tyhit {l : List (D × Bool)} {b : Bool} {m : String} : ktTab ((.ty m, b) :: l) (.ty m) = some b := by
  unfold ktTab
  simp only [List.find?_cons, decide_true, Option.map_some]
/-- == of ints, that asks no room -/
abbrev dEqI : D2 := dI0 fun i j => .bl (decide (i = j))
theorem lk_eqI {K : PySem.W.Frag} : Lk K dEqI rEq := by
  rintro φ S H Q' Q d1 d2 v1 v2 r r1 r2 q ⟨i, j, rfl, rfl, h⟩
  rw [RD] at r1 r2
  subst r1 r2
  refine ⟨rfl, ?_⟩
  have e : decide (V.int i = V.int j) = decide (i = j) := decide_eq_decide.mpr (by constructor <;> intro h <;> first | exact V.int.inj h | rw [h])
  rw [e]
  exact q φ H S _ _ .refl r rd_bl h
theorem with_ex {tb : DTS} {nx bk ct : Rho → Store → Prop} {rt : D → Store → Prop} {ex : Exc → Rho → Store → Prop} {ρ : Rho} {S : Store} (P : (Exc → Rho → Store → Prop) → Prop) (h1 : ∀ EX, P EX → tb ⟨nx, rt, bk, ct, EX⟩ ρ S) (h2 : P ex) : tb ⟨nx, rt, bk, ct, ex⟩ ρ S := h1 _ h2
end Dy
namespace Dy
open PySem PySem.Spec PyProof.Rows L2
theorem exm_of {K : PySem.W.Frag} {C S : Addr} (h1 : PySem.W.subIn K (.ref S) (.type "BaseException") = some true) (h2 : PySem.W.isClsIn K S = true) (h3 : PySem.W.typeIn K (.ref S) = some (.type "type")) {b : Bool} (h4 : PySem.W.subIn K (.ref C) (.ref S) = some b) : PySem.W.exmOne K (.ref C) (.ref S) = some b := by
  have e1 : (PySem.W.subIn K (.ref S) (.type "BaseException") == some true) = true := by rw [h1]; rfl
  have e2 : ((PySem.W.clsIn K S).isSome && PySem.W.typeIn K (.ref S) == some (.type "type")) = true := by
    have h2' : (PySem.W.clsIn K S).isSome = true := h2
    rw [h2', h3]; rfl
  unfold PySem.W.exmOne
  rw [if_pos e1]
  unfold PySem.W.kitCls
  exact (if_pos e2).trans h4
end Dy
/-! in among ints, among tuples of ints; lots told exactly -/
namespace Dy
open PySem PySem.Spec PyProof.Rows L2
theorem any_int (i : Int) : ∀ ns : List Int, ((ns.map PyData.int).any fun z => PyData.eqv z (.int i)) = decide (i ∈ ns)
  | [] => by simp
  | n :: ns => by
    rw [List.map_cons, List.any_cons, any_int i ns, PyData.eqv]
    by_cases h : n = i
    · subst h; simp
    · have : (n == i) = false := by simpa using h
      rw [this]; simp [Ne.symm h]
/-- an int among ints -/
theorem o_inI {S : Store} {Q : QD} {neg : Bool} {i : Int} {y : D} {ns : List Int} (e : sqOf S y = some (ns.map .int)) (h : Q (.bl (neg ^^ decide (i ∈ ns))) S) : dInX neg (.int i) y S Q := by
  refine .inl ⟨.int i, ns.map .int, ns.map .int, rfl, e, pyDs_ints ns, ?_, ?_⟩
  · rw [depth_ints]; exact Nat.le_trans (Nat.min_le_left _ _) (by decide)
  · rw [any_int]; exact h
theorem pyDs_tups : ∀ ls : List (List Int), pyDs (ls.map tupI) = some (ls.map fun l => PyData.tuple (l.map .int))
  | [] => by rw [List.map_nil, pyDs]; rfl
  | l :: ls => by rw [List.map_cons, pyDs, pyDs_tups ls, pyD, pyDs_ints]; rfl
theorem any_tup (x : List Int) : ∀ ls : List (List Int), ((ls.map fun l => PyData.tuple (l.map .int)).any fun z => PyData.eqv z (.tuple (x.map .int))) = decide (x ∈ ls)
  | [] => by simp
  | l :: ls => by
    rw [List.map_cons, List.any_cons, any_tup x ls, PyData.eqv, eqvAll_ints]
    by_cases h : l = x
    · subst h; simp
    · simp [h, Ne.symm h]
/-- a tuple of ints among such -/
theorem o_inT {S : Store} {Q : QD} {neg : Bool} {x : List Int} {y : D} {ls : List (List Int)} (e : sqOf S y = some (ls.map tupI)) (h : Q (.bl (neg ^^ decide (x ∈ ls))) S) : dInX neg (tupI x) y S Q := by
  refine .inl ⟨.tuple (x.map .int), ls.map tupI, _, ?_, e, pyDs_tups ls, ?_, ?_⟩
  · show pyD (.tup (x.map .int)) = _
    rw [pyD, pyDs_ints]; rfl
  · refine Nat.le_trans (Nat.min_le_right _ _) ?_
    show PyData.depthAll (x.map PyData.int) + 1 ≤ 60
    rw [depth_ints]; decide
  · rw [any_tup]; exact h
theorem lex_anti : ∀ {x y : List Int}, HT.lexLt x y = false → HT.lexLt y x = false → x = y
  | [], [], _, _ => rfl
  | [], y :: ys, h, _ => by rw [HT.lexLt_nil_cons] at h; cases h
  | x :: xs, [], _, h => by rw [HT.lexLt_nil_cons] at h; cases h
  | x :: xs, y :: ys, h1, h2 => by
    rw [HT.lexLt_cons] at h1 h2
    by_cases e : x = y
    · subst e
      rw [if_pos rfl] at h1 h2
      rw [lex_anti h1 h2]
    · rw [if_neg e] at h1
      rw [if_neg (Ne.symm e)] at h2
      have a := of_decide_eq_false h1
      have b := of_decide_eq_false h2
      omega
theorem lex_eq {ls ms : List (List Int)} (h : ls.Perm ms) (a : ls.Pairwise (fun p q => HT.lexLt q p = false)) (b : ms.Pairwise (fun p q => HT.lexLt q p = false)) : ls = ms :=
  h.eq_of_pairwise (fun _ _ _ _ h1 h2 => lex_anti h2 h1) a b
/-- the places of the numbers that have the bit -/
def lotB (ms : List Nat) (b : Nat) : List Int := ((List.range ms.length).filter fun k => (ms.getD k 0).testBit b).map fun (k : Nat) => (k : Int)
theorem part_full {ms : List Nat} {b : Nat} (hev : (orAll ms).testBit b = true) : ∀ (l : List Nat) (i : Nat) (ps : List Part), ms.drop i = l → (∃ p ∈ ps, p.2.testBit b = true ∧ p.1 = ((List.range i).filter fun k => (ms.getD k 0).testBit b).map fun (k : Nat) => (k : Int)) →
    ∃ p ∈ partsM l i ps, p.2.testBit b = true ∧ p.1 = ((List.range (i + l.length)).filter fun k => (ms.getD k 0).testBit b).map fun (k : Nat) => (k : Int)
  | [], i, ps, _, h => h
  | m :: l, i, ps, e, ⟨p, hp, hb, hl⟩ => by
    have hm : ms[i]? = some m := by
      have := congrArg (fun l => l[0]?) e
      simpa using this
    have hg : ms.getD i 0 = m := by rw [List.getD_eq_getElem?_getD, hm]; rfl
    have e2 : ms.drop (i + 1) = l := by
      have := congrArg (List.drop 1) e
      rw [List.drop_drop] at this
      simpa using this
    have step : ∃ q ∈ stepM i m ps, q.2.testBit b = true ∧ q.1 = ((List.range (i + 1)).filter fun k => (ms.getD k 0).testBit b).map fun (k : Nat) => (k : Int) := by
      rw [List.range_succ, List.filter_append, List.map_append, ← hl]
      by_cases hmb : m.testBit b = true
      · refine ⟨(p.1 ++ [(i : Int)], p.2 &&& m), List.mem_filter.mpr ⟨List.mem_append_left _ (List.mem_map.mpr ⟨p, hp, rfl⟩), decide_eq_true ?_⟩, ?_, ?_⟩
        · intro z
          have : (p.2 &&& m).testBit b = true := by rw [Nat.testBit_and, hb, hmb]; rfl
          have z : p.2 &&& m = 0 := z
          rw [z] at this; simp at this
        · show (p.2 &&& m).testBit b = true
          rw [Nat.testBit_and, hb, hmb]; rfl
        · show p.1 ++ [(i : Int)] = _
          rw [List.filter_cons, hg, if_pos hmb]; rfl
      · have hmb : m.testBit b = false := by simpa using hmb
        refine ⟨(p.1, p.2 - (p.2 &&& m)), List.mem_filter.mpr ⟨List.mem_append_right _ (List.mem_map.mpr ⟨p, hp, rfl⟩), decide_eq_true ?_⟩, ?_, ?_⟩
        · intro z
          have : (p.2 - (p.2 &&& m)).testBit b = true := by rw [testBit_less, hb, hmb]; rfl
          have z : p.2 - (p.2 &&& m) = 0 := z
          rw [z] at this; simp at this
        · show (p.2 - (p.2 &&& m)).testBit b = true
          rw [testBit_less, hb, hmb]; rfl
        · show p.1 = _
          rw [List.filter_cons, hg, if_neg (by rw [hmb]; decide)]; simp
    have := part_full hev l (i + 1) (stepM i m ps) e2 step
    rw [List.length_cons, show i + (l.length + 1) = i + 1 + l.length by omega]
    exact this
theorem part_nd {ms : List Nat} : ∀ (l : List Nat) (i : Nat) (ps : List Part), (∀ p ∈ ps, ∀ x ∈ p.1, x < (i : Int)) → (ps.map (·.1)).Nodup → ((partsM l i ps).map (·.1)).Nodup
  | [], i, ps, _, h => h
  | m :: l, i, ps, hlt, h => by
    refine part_nd (ms := ms) l (i + 1) (stepM i m ps) (fun p hp x hx => ?_) ?_
    · rcases List.mem_append.mp (List.mem_filter.mp hp).1 with hp | hp
      · obtain ⟨q, hq, rfl⟩ := List.mem_map.mp hp
        rcases List.mem_append.mp hx with hx | hx
        · have := hlt q hq x hx; omega
        · rw [List.mem_singleton.mp hx]; omega
      · obtain ⟨q, hq, rfl⟩ := List.mem_map.mp hp
        have := hlt q hq x hx; omega
    · have h0 : ((insM i m ps ++ outM m ps).map (·.1)).Nodup := by
        rw [List.map_append, List.nodup_append]
        refine ⟨?_, ?_, ?_⟩
        · unfold insM
          rw [List.map_map]
          show (ps.map fun p => p.1 ++ [(i : Int)]).Nodup
          have e : (ps.map fun p : Part => p.1 ++ [(i : Int)]) = (ps.map (·.1)).map fun l => l ++ [(i : Int)] := by rw [List.map_map]; rfl
          rw [e]
          refine List.pairwise_map.mpr (h.imp fun {a b} hab z => hab ?_)
          exact List.append_cancel_right z
        · unfold outM
          rw [List.map_map]
          exact h
        · intro a ha b hb e
          subst e
          obtain ⟨p, hp, rfl⟩ := List.mem_map.mp ha
          obtain ⟨q, hq, rfl⟩ := List.mem_map.mp hp
          obtain ⟨r, hr, er⟩ := List.mem_map.mp hb
          obtain ⟨t, ht, rfl⟩ := List.mem_map.mp hr
          have er : t.1 = q.1 ++ [(i : Int)] := er
          have := hlt t ht (i : Int) (by rw [er]; simp)
          omega
      unfold stepM
      exact (List.Sublist.map _ (List.filter_sublist (l := insM i m ps ++ outM m ps))).nodup h0
theorem part_asc {ms : List Nat} : ∀ (l : List Nat) (i : Nat) (ps : List Part), (∀ p ∈ ps, p.1.Pairwise (· < ·) ∧ ∀ x ∈ p.1, x < (i : Int)) → ∀ p ∈ partsM l i ps, p.1.Pairwise (· < ·)
  | [], i, ps, h, p, hp => (h p hp).1
  | m :: l, i, ps, h, p, hp => by
    refine part_asc (ms := ms) l (i + 1) (stepM i m ps) (fun p hp => ?_) p hp
    rcases List.mem_append.mp (List.mem_filter.mp hp).1 with hp | hp
    · obtain ⟨q, hq, rfl⟩ := List.mem_map.mp hp
      refine ⟨List.pairwise_append.mpr ⟨(h q hq).1, List.pairwise_singleton _ _, fun a ha b hb => by rw [List.mem_singleton.mp hb]; exact (h q hq).2 a ha⟩, fun x hx => ?_⟩
      rcases List.mem_append.mp hx with hx | hx
      · have := (h q hq).2 x hx; omega
      · rw [List.mem_singleton.mp hx]; omega
    · obtain ⟨q, hq, rfl⟩ := List.mem_map.mp hp
      exact ⟨(h q hq).1, fun x hx => by have := (h q hq).2 x hx; omega⟩
theorem asc_eqI : ∀ {xs ys : List Int}, xs.Pairwise (· < ·) → ys.Pairwise (· < ·) → (∀ k, k ∈ xs ↔ k ∈ ys) → xs = ys
  | [], [], _, _, _ => rfl
  | [], y :: ys, _, _, h => by have := (h y).mpr List.mem_cons_self; cases this
  | x :: xs, [], _, _, h => by have := (h x).mp List.mem_cons_self; cases this
  | x :: xs, y :: ys, a, b, h => by
    have a1 := List.pairwise_cons.mp a
    have b1 := List.pairwise_cons.mp b
    have e : x = y := by
      have hx := (h x).mp List.mem_cons_self
      have hy := (h y).mpr List.mem_cons_self
      rcases List.mem_cons.mp hx with e | hx
      · exact e
      · rcases List.mem_cons.mp hy with e | hy
        · exact e.symm
        · have h1 := a1.1 y hy
          have h2 := b1.1 x hx
          omega
    subst e
    rw [asc_eqI a1.2 b1.2 fun k => ?_]
    constructor
    · intro hk
      rcases List.mem_cons.mp ((h k).mp (List.mem_cons_of_mem _ hk)) with e | hk2
      · subst e; have := a1.1 k hk; omega
      · exact hk2
    · intro hk
      rcases List.mem_cons.mp ((h k).mpr (List.mem_cons_of_mem _ hk)) with e | hk2
      · subst e; have := b1.1 k hk; omega
      · exact hk2
/-- which lots there are -/
theorem mem_lots {ms : List Nat} (h0 : ms ≠ []) {x : List Int} : x ∈ lotsM ms ↔ ∃ b, (ms.any fun m => m.testBit b) = true ∧ x = lotB ms b ∧ x.length < ms.length := by
  have start : ∀ p ∈ ([([], orAll ms)] : List Part), PartOk ms 0 (orAll ms) p := fun q hq => by
    rw [List.mem_singleton.mp hq]
    exact ⟨fun b hb => hb, fun b hb k m hk => by omega, fun x hx => by cases hx⟩
  have ev : ∀ b, (orAll ms).testBit b = (ms.any fun m => m.testBit b) := fun b => by
    unfold orAll
    rw [orAll_bit]; simp
  constructor
  · intro hx
    obtain ⟨p, hp, rfl⟩ := List.mem_map.mp hx
    obtain ⟨hp, hl⟩ := List.mem_filter.mp hp
    have hl := of_decide_eq_true hl
    have H := parts_ok (ms := ms) (every := orAll ms) ms 0 _ rfl start p hp
    have hne := parts_pos ms 0 [([], orAll ms)] (fun q hq e => absurd e h0) p hp
    obtain ⟨b, hb⟩ := Nat.exists_testBit_of_ne_zero hne
    obtain ⟨q, hq, hqb, hql⟩ := part_full (ms := ms) (b := b) (H.ev b hb) ms 0 [([], orAll ms)] rfl ⟨_, List.mem_singleton.mpr rfl, H.ev b hb, by simp⟩
    have hq1 : q.1 = lotB ms b := by rw [hql]; simp [lotB]
    have nd := part_nd (ms := ms) ms 0 [([], orAll ms)] (fun p hp x hx => by rw [List.mem_singleton.mp hp] at hx; cases hx) (by simp)
    refine ⟨b, by rw [← ev]; exact H.ev b hb, ?_, hl⟩
    rw [← hq1]
    have Hq := parts_ok (ms := ms) (every := orAll ms) ms 0 _ rfl start q hq
    have same : ∀ k : Nat, k < ms.length → ((k : Int) ∈ p.1 ↔ (k : Int) ∈ q.1) := fun k hk => by
      have hm := List.getElem?_eq_getElem hk
      rw [← H.kn b hb k _ (by omega) hm, ← Hq.kn b hqb k _ (by omega) hm]
    have a0 : ∀ p ∈ ([([], orAll ms)] : List Part), p.1.Pairwise (· < ·) ∧ ∀ x ∈ p.1, x < ((0 : Nat) : Int) := fun p hp => by
      rw [List.mem_singleton.mp hp]
      exact ⟨List.Pairwise.nil, fun x hx => by cases hx⟩
    refine asc_eqI (part_asc (ms := ms) ms 0 _ a0 p hp) (part_asc (ms := ms) ms 0 _ a0 q hq) fun x => ?_
    constructor
    · intro z
      obtain ⟨k, rfl, hk⟩ := H.lt x z
      exact (same k (by omega)).mp z
    · intro z
      obtain ⟨k, rfl, hk⟩ := Hq.lt x z
      exact (same k (by omega)).mpr z
  · rintro ⟨b, hb, rfl, hl⟩
    rw [← ev] at hb
    obtain ⟨q, hq, hqb, hql⟩ := part_full (ms := ms) (b := b) hb ms 0 [([], orAll ms)] rfl ⟨_, List.mem_singleton.mpr rfl, hb, by simp⟩
    have hq1 : q.1 = lotB ms b := by rw [hql]; simp [lotB]
    exact List.mem_map.mpr ⟨q, List.mem_filter.mpr ⟨hq, decide_eq_true (by rw [hq1]; exact hl)⟩, hq1⟩
theorem lots_nd {ms : List Nat} : (lotsM ms).Nodup := by
  have nd := part_nd (ms := ms) ms 0 [([], orAll ms)] (fun p hp x hx => by rw [List.mem_singleton.mp hp] at hx; cases hx) (by simp)
  exact (List.Sublist.map _ (List.filter_sublist (l := partsM ms 0 [([], orAll ms)]))).nodup nd
end Dy
namespace Dy
open PySem PySem.Spec PyProof.Rows L2
/-- a list so many times: a new one that is not changed any more -/
def dRepL : D2 := fun x y S Q => ∃ xs k, lsM S x = some xs ∧ y = .int k ∧ 0 ≤ k ∧ k ≤ 1000 ∧ xs.length ≤ 100 ∧ Q (.lst (List.replicate k.toNat xs).flatten) S
theorem lk_repL {K : PySem.W.Frag} : Lk K dRepL rRep := by
  rintro φ S H Q' Q d1 d2 v1 v2 r r1 r2 q ⟨xs, k, e1, rfl, c1, c2, c3, h⟩
  obtain ⟨a, vs, rfl, h1, h2⟩ := ls_m r r1 e1
  rw [RD] at r2
  subst r2
  refine ⟨a, k, vs, rfl, rfl, h1, by omega, by omega, ?_, fun p hp => q.lst r hp (h2.rep _) h⟩
  rw [h2.length]
  refine small (Nat.le_trans (Nat.mul_le_mul c3 (show k.toNat ≤ 1000 by omega)) (by decide))
theorem de_repL {F : Fam} {W : WX} {a b : Expr} {pos : Pos} {ta tb : DTE} (ha : DE F W a ta) (hb : DE F W b tb) : DE F W (.BinOp a .Mult b pos) (dOp dRepL ta tb) := de_op (fun _ => op_rep) lk_repL ha hb
theorem o_repL {S : Store} {Q : QD} {x : D} {k : Int} {xs : List D} (e : lsM S x = some xs) (h0 : 0 ≤ k) (h1 : k ≤ 1000) (hz : xs.length ≤ 100) (h : Q (.lst (List.replicate k.toNat xs).flatten) S) : dRepL x (.int k) S Q := ⟨xs, k, e, rfl, h0, h1, hz, h⟩
/-- a list of the store and a list of ints are compared -/
theorem o_eqRL {S : Store} {Q : QD} {neg : Bool} {n : Nat} {ns ms : List Int} (e1 : S[n]? = some (.lst (ns.map .int))) (h : Q (.bl (neg ^^ decide (ns = ms))) S) : dEqN neg (.ref n) (.lst (ms.map .int)) S Q := by
  show ∃ d e, pyS S (.ref n) = some d ∧ pyS S (.lst (ms.map .int)) = some e ∧ min d.depth e.depth ≤ 60 ∧ Q (.bl (neg ^^ PyData.eqv d e)) S
  refine ⟨.list (ns.map .int), .list (ms.map .int), ?_, ?_, ?_, ?_⟩
  · show (match S[n]? with | some (.lst xs) => (pyDs xs).map PyData.list | _ => none) = _
    rw [e1]
    show (pyDs (ns.map .int)).map PyData.list = _
    rw [pyDs_ints]; rfl
  · show pyD (.lst (ms.map .int)) = _
    rw [pyD, pyDs_ints]; rfl
  · show min (PyData.depthAll (ns.map PyData.int) + 1) (PyData.depthAll (ms.map PyData.int) + 1) ≤ 60
    rw [depth_ints, depth_ints]; decide
  · have e : PyData.eqv (.list (ns.map .int)) (.list (ms.map .int)) = decide (ns = ms) := by
      rw [PyData.eqv, eqvAll_ints]
    rw [e]; exact h
theorem dy_walkX (x : Str) {l : PySem.W.OpenLaw} {k : Nat} {q : Program} {loose : List Str} {XP : (Str → Option Value) → Heap → Prop} {YP : World → Heap → Prop} {d : DefRec} {K : Params → PySem.W.Frag} (hn : l.most = some 63) (hdf : d.params.defaults = []) (hr : Room k PySem.callerA)
    (hY : ∀ (w : World) (h : Heap), YP w h → (K w.params).In h)
    (F : ∀ (w : World) (mg : Str → Option Value) (fa : Addr) (h : Heap), (K w.params).In h → h.Ns mainGlobals mg → mg d.name = some (.ref fa) →
      ∃ fd : FuncData, (∀ (s : Shared) (u : Value), BindsTo s fd ⟨[u], []⟩ [(x, u)]) ∧ ∀ base : Heap, (K w.params).In base → base.Ns mainGlobals mg → FnOk l.prog w (K w.params) mg base (L2.CX l.prog w) k fa fd [x] (liftSp (K w.params) spLaw)) :
    PySem.W.WalkO q loose XP YP l.row.toRowW d [] (fun f vs => PySem.call f vs) :=
  L2.walk_of (n := 63) (x := x) (CX := fun w => L2.CX l.prog w) (sp := fun w => liftSp (K w.params) spLaw) hn (by decide) hdf hr hY F (fun _ _ a ns hl o h => law_starts o h) fun _ _ _ _ _ z => by
    obtain ⟨_, _, _, _, _, _, _, _, _, _, _, _, z⟩ := z
    exact z
end Dy
/-! herds with the same columns of bits -/
namespace Dy
open PySem PySem.Spec PyProof.Rows L2
/-- all bits from idx on are off -/
def HM.Low (h : HM) (idx : Nat) : Prop := ∀ i ∈ h.ks, ∀ b, idx ≤ b → (h.at i).testBit b = false
structure Sim (f : Nat → Nat) (h h' : HM) : Prop where
  inj : ∀ a b, f a = f b → a = b
  zero : f 0 = 0
  up : ∀ k, h.forks < k → f (k + 1) = f k + 1
  ks : h'.ks = h.ks.map f
  born : h'.forks + 1 = f (h.forks + 1)
  pen1 : h.pen ∈ h.ks → h'.pen = f h.pen
  pen2 : h.pen ∉ h.ks → h'.pen ∉ h'.ks
  to : ∀ b, ∃ b', ∀ i ∈ h.ks, (h.at i).testBit b = (h'.at (f i)).testBit b'
  fro : ∀ b', ∃ b, ∀ i ∈ h.ks, (h.at i).testBit b = (h'.at (f i)).testBit b'
def Deed.re (f : Nat → Nat) : Deed → Deed
  | .ch i => .ch (f i)
  | .fk i => .fk (f i)
  | .jn i j => .jn (f i) (f j)
  | .ls i => .ls (f i)
theorem Sim.mem {f : Nat → Nat} {h h' : HM} (s : Sim f h h') {i : Nat} : f i ∈ h'.ks ↔ i ∈ h.ks := by
  rw [s.ks, List.mem_map]
  constructor
  · rintro ⟨k, hk, e⟩
    exact s.inj _ _ e ▸ hk
  · exact fun hk => ⟨i, hk, rfl⟩
theorem at_put {kn : List (Nat × Nat)} {i j : Nat} {v : Nat} {fo pe : Nat} : HM.at ⟨kput kn i v, fo, pe⟩ j = if i = j then v else ((kget kn j).getD 0) := by
  unfold HM.at
  rw [kget_put]
  split <;> rfl
theorem at_drop {kn : List (Nat × Nat)} {i j : Nat} (h : i ≠ j) : (kget (kdrop kn i) j).getD 0 = (kget kn j).getD 0 := by
  rw [kget_drop, if_neg h]
theorem Sim.lets {f : Nat → Nat} {h h' : HM} {v : Wld} {x : Deed} (s : Sim f h h') : h'.lets v (x.re f) = h.lets v x := by
  have hm : ∀ i, decide (f i ∈ h'.ks) = decide (i ∈ h.ks) := fun i => decide_eq_decide.mpr s.mem
  have hz : ∀ i, decide (f i = 0) = decide (i = 0) := fun i => decide_eq_decide.mpr ⟨fun e => s.inj _ _ (e.trans s.zero.symm), fun e => e ▸ s.zero⟩
  have hl : h'.ks.length = h.ks.length := by rw [s.ks, List.length_map]
  cases x with
  | ch i =>
    show (decide (f i ∈ h'.ks) && (!decide (v.kind = "pen") || decide (f i = h'.pen))) = (decide (i ∈ h.ks) && (!decide (v.kind = "pen") || decide (i = h.pen)))
    rw [hm]
    by_cases hi : i ∈ h.ks
    · have : decide (f i = h'.pen) = decide (i = h.pen) := by
        refine decide_eq_decide.mpr ?_
        by_cases hp : h.pen ∈ h.ks
        · rw [s.pen1 hp]
          exact ⟨s.inj _ _, fun e => by rw [e]⟩
        · constructor
          · intro e
            exact absurd (e ▸ s.mem.mpr hi) (s.pen2 hp)
          · intro e
            exact absurd (e ▸ hi) hp
      rw [this]
    · rw [decide_eq_false hi]; rfl
  | fk i =>
    show (decide (f i ∈ h'.ks) && (decide (h'.ks.length < v.most) && (!decide (v.kind = "trunk") || decide (f i = 0)))) = (decide (i ∈ h.ks) && (decide (h.ks.length < v.most) && (!decide (v.kind = "trunk") || decide (i = 0))))
    rw [hm, hz, hl]
  | jn i j =>
    show (decide (f i ∈ h'.ks) && decide (f j ∈ h'.ks) && (!decide (v.kind = "trunk") || decide (f i = 0))) = (decide (i ∈ h.ks) && decide (j ∈ h.ks) && (!decide (v.kind = "trunk") || decide (i = 0)))
    rw [hm, hm, hz]
  | ls i =>
    show (decide (f i ∈ h'.ks) && (v.los && decide (1 < h'.ks.length))) = (decide (i ∈ h.ks) && (v.los && decide (1 < h.ks.length)))
    rw [hm, hl]
theorem filter_map_ne {f : Nat → Nat} (inj : ∀ a b, f a = f b → a = b) (l : List Nat) (j : Nat) : (l.map f).filter (fun k => decide (k ≠ f j)) = (l.filter fun k => decide (k ≠ j)).map f := by
  rw [List.filter_map]
  congr 1
  refine List.filter_congr fun k _ => ?_
  show decide (f k ≠ f j) = decide (k ≠ j)
  exact decide_eq_decide.mpr ⟨fun a e => a (by rw [e]), fun a e => a (inj _ _ e)⟩
theorem bit_or_pow (a n b : Nat) : (a ||| 2 ^ n).testBit b = (a.testBit b || decide (n = b)) := by
  rw [Nat.testBit_or, Nat.testBit_two_pow]
theorem Sim.act {f : Nat → Nat} {h h' : HM} {v : Wld} {x : Deed} {i i' : Nat} (s : Sim f h h') (l : h.lets v x = true) (wf : deedWf x) (lo : h.Low i) (lo' : h'.Low i') (iv : h.Inv) (iv' : h'.Inv) : Sim f (h.act i x) (h'.act i' (x.re f)) := by
  have ok := HM.lets_ok l wf
  have nb : h.forks + 1 ∉ h.ks := fun m => by
    have := iv.le _ m
    omega
  have ipe := iv.pe
  have pe' := iv'.pe
  cases x with
  | ch c =>
    have hc : c ∈ h.ks := ok
    have k1 : (h.act i (.ch c)).ks = h.ks := by
      show keysN (kput h.kn c _) = _
      rw [keys_put, if_pos hc]
    have k2 : (h'.act i' (.ch (f c))).ks = h'.ks := by
      show keysN (kput h'.kn (f c) _) = _
      rw [keys_put, if_pos (s.mem.mpr hc)]
    have a1 : ∀ j, (h.act i (.ch c)).at j = if c = j then h.at c ||| 2 ^ i else h.at j := fun j => at_put
    have a2 : ∀ j, (h'.act i' (.ch (f c))).at (f j) = if c = j then h'.at (f c) ||| 2 ^ i' else h'.at (f j) := fun j => by
      refine at_put.trans ?_
      by_cases e : c = j
      · rw [if_pos e, if_pos (by rw [e])]
      · rw [if_neg e, if_neg fun z => e (s.inj _ _ z)]; rfl
    refine ⟨s.inj, s.zero, s.up, by rw [k1]; exact k2.trans s.ks, s.born, fun hp => s.pen1 (by rw [k1] at hp; exact hp), fun hp => ?_, fun b => ?_, fun b' => ?_⟩
    · show h'.pen ∉ (h'.act i' (.ch (f c))).ks
      rw [k2]
      exact s.pen2 (by rw [k1] at hp; exact hp)
    · rw [k1]
      show ∃ b', ∀ j ∈ h.ks, ((h.act i (.ch c)).at j).testBit b = ((h'.act i' (.ch (f c))).at (f j)).testBit b'
      by_cases e : b = i
      · refine ⟨i', fun j hj => ?_⟩
        rw [a1, a2, e]
        by_cases ec : c = j
        · rw [if_pos ec, if_pos ec, bit_or_pow, bit_or_pow, decide_eq_true rfl, decide_eq_true rfl, Bool.or_true, Bool.or_true]
        · rw [if_neg ec, if_neg ec, lo j hj i (Nat.le_refl _), lo' (f j) (s.mem.mpr hj) i' (Nat.le_refl _)]
      · obtain ⟨b', hb⟩ := s.to b
        by_cases e' : b' = i'
        · refine ⟨i' + 1, fun j hj => ?_⟩
          have z1 := hb j hj
          rw [e', lo' (f j) (s.mem.mpr hj) i' (Nat.le_refl _)] at z1
          have z2 := lo' (f j) (s.mem.mpr hj) (i' + 1) (by omega)
          rw [a1, a2]
          by_cases ec : c = j
          · subst ec
            rw [if_pos rfl, if_pos rfl, bit_or_pow, bit_or_pow, z1, z2, decide_eq_false (fun z => e z.symm), decide_eq_false (by omega)]
          · rw [if_neg ec, if_neg ec, z1, z2]
        · refine ⟨b', fun j hj => ?_⟩
          have z1 := hb j hj
          rw [a1, a2]
          by_cases ec : c = j
          · subst ec
            rw [if_pos rfl, if_pos rfl, bit_or_pow, bit_or_pow, z1, decide_eq_false (fun z => e z.symm), decide_eq_false (fun z => e' z.symm)]
          · rw [if_neg ec, if_neg ec, z1]
    · rw [k1]
      show ∃ b, ∀ j ∈ h.ks, ((h.act i (.ch c)).at j).testBit b = ((h'.act i' (.ch (f c))).at (f j)).testBit b'
      by_cases e : b' = i'
      · refine ⟨i, fun j hj => ?_⟩
        rw [a1, a2, e]
        by_cases ec : c = j
        · rw [if_pos ec, if_pos ec, bit_or_pow, bit_or_pow, decide_eq_true rfl, decide_eq_true rfl, Bool.or_true, Bool.or_true]
        · rw [if_neg ec, if_neg ec, lo j hj i (Nat.le_refl _), lo' (f j) (s.mem.mpr hj) i' (Nat.le_refl _)]
      · obtain ⟨b, hb⟩ := s.fro b'
        by_cases e' : b = i
        · refine ⟨i + 1, fun j hj => ?_⟩
          have z1 := hb j hj
          rw [e', lo j hj i (Nat.le_refl _)] at z1
          have z2 := lo j hj (i + 1) (by omega)
          rw [a1, a2]
          by_cases ec : c = j
          · subst ec
            rw [if_pos rfl, if_pos rfl, bit_or_pow, bit_or_pow, ← z1, z2, decide_eq_false (show ¬ (i = i + 1) by omega), decide_eq_false (fun z => e z.symm)]
          · rw [if_neg ec, if_neg ec, ← z1, z2]
        · refine ⟨b, fun j hj => ?_⟩
          have z1 := hb j hj
          rw [a1, a2]
          by_cases ec : c = j
          · subst ec
            rw [if_pos rfl, if_pos rfl, bit_or_pow, bit_or_pow, z1, decide_eq_false (fun z => e' z.symm), decide_eq_false (fun z => e z.symm)]
          · rw [if_neg ec, if_neg ec, z1]
  | fk c =>
    have hc : c ∈ h.ks := ok
    have nb : h.forks + 1 ∉ h.ks := nb
    have nb' : h'.forks + 1 ∉ h'.ks := fun m => nb (s.mem.mp (by rw [← s.born]; exact m))
    have k1 : (h.act i (.fk c)).ks = h.ks ++ [h.forks + 1] := by
      show keysN (kput h.kn (h.forks + 1) _) = _
      rw [keys_put, if_neg nb]
    have k2 : (h'.act i' (.fk (f c))).ks = h'.ks ++ [h'.forks + 1] := by
      show keysN (kput h'.kn (h'.forks + 1) _) = _
      rw [keys_put, if_neg nb']
    have a1 : ∀ j, (h.act i (.fk c)).at j = if h.forks + 1 = j then h.at c else h.at j := fun j => at_put
    have a2 : ∀ j, (h'.act i' (.fk (f c))).at (f j) = if h.forks + 1 = j then h'.at (f c) else h'.at (f j) := fun j => by
      refine at_put.trans ?_
      by_cases e : h.forks + 1 = j
      · rw [if_pos e, if_pos (by rw [s.born, e])]
      · rw [if_neg e, if_neg fun z => e (s.inj _ _ (s.born ▸ z))]; rfl
    refine ⟨s.inj, s.zero, fun k hk => s.up k (by have : h.forks + 1 < k := hk; omega), ?_, ?_, fun hp => ?_, fun hp => ?_, fun b => ?_, fun b' => ?_⟩
    · rw [k1, List.map_append]
      refine k2.trans ?_
      rw [s.ks, s.born]; rfl
    · show h'.forks + 1 + 1 = f (h.forks + 1 + 1)
      rw [s.up (h.forks + 1) (by omega), s.born]
    · show h'.pen = f h.pen
      rw [k1, List.mem_append, List.mem_singleton] at hp
      rcases hp with hp | hp
      · exact s.pen1 hp
      · have hp : h.pen = h.forks + 1 := hp
        omega
    · show h'.pen ∉ (h'.act i' (.fk (f c))).ks
      rw [k2, List.mem_append, List.mem_singleton]
      rw [k1, List.mem_append, List.mem_singleton] at hp
      rintro (m | m)
      · exact s.pen2 (fun z => hp (.inl z)) m
      · omega
    · obtain ⟨b', hb⟩ := s.to b
      refine ⟨b', fun j hj => ?_⟩
      rw [k1, List.mem_append, List.mem_singleton] at hj
      show ((h.act i (.fk c)).at j).testBit b = ((h'.act i' (.fk (f c))).at (f j)).testBit b'
      rw [a1, a2]
      by_cases e : h.forks + 1 = j
      · rw [if_pos e, if_pos e]; exact hb c hc
      · rw [if_neg e, if_neg e]; exact hb j (hj.resolve_right fun z => e z.symm)
    · obtain ⟨b, hb⟩ := s.fro b'
      refine ⟨b, fun j hj => ?_⟩
      rw [k1, List.mem_append, List.mem_singleton] at hj
      show ((h.act i (.fk c)).at j).testBit b = ((h'.act i' (.fk (f c))).at (f j)).testBit b'
      rw [a1, a2]
      by_cases e : h.forks + 1 = j
      · rw [if_pos e, if_pos e]; exact hb c hc
      · rw [if_neg e, if_neg e]; exact hb j (hj.resolve_right fun z => e z.symm)
  | jn c d =>
    have hc : c ∈ h.ks ∧ d ∈ h.ks ∧ c ≠ d := ok
    obtain ⟨hc, hd, hcd⟩ := hc
    have hfcd : f c ≠ f d := fun z => hcd (s.inj _ _ z)
    have k1 : (h.act i (.jn c d)).ks = h.ks.filter fun k => decide (k ≠ d) := by
      show keysN (kput (kdrop h.kn d) c _) = _
      rw [keys_put, keys_drop, if_pos (List.mem_filter.mpr ⟨hc, decide_eq_true hcd⟩)]
    have k2 : (h'.act i' (.jn (f c) (f d))).ks = h'.ks.filter fun k => decide (k ≠ f d) := by
      show keysN (kput (kdrop h'.kn (f d)) (f c) _) = _
      rw [keys_put, keys_drop, if_pos (List.mem_filter.mpr ⟨s.mem.mpr hc, decide_eq_true hfcd⟩)]
    have a1 : ∀ j, j ≠ d → (h.act i (.jn c d)).at j = if c = j then h.at c ||| h.at d else h.at j := fun j hj => by
      refine at_put.trans ?_
      by_cases e : c = j
      · rw [if_pos e, if_pos e]
      · rw [if_neg e, if_neg e, at_drop (fun z => hj z.symm)]; rfl
    have a2 : ∀ j, j ≠ d → (h'.act i' (.jn (f c) (f d))).at (f j) = if c = j then h'.at (f c) ||| h'.at (f d) else h'.at (f j) := fun j hj => by
      refine at_put.trans ?_
      by_cases e : c = j
      · rw [if_pos e, if_pos (by rw [e])]
      · rw [if_neg e, if_neg fun z => e (s.inj _ _ z), at_drop (fun z => hj (s.inj _ _ z.symm))]; rfl
    have mk : ∀ {j}, j ∈ (h.act i (.jn c d)).ks → j ∈ h.ks ∧ j ≠ d := fun {j} m => by
      rw [k1] at m
      exact ⟨(List.mem_filter.mp m).1, of_decide_eq_true (List.mem_filter.mp m).2⟩
    have p1 : (h.act i (.jn c d)).pen = if h.pen = d then c else h.pen := rfl
    have p2 : (h'.act i' (.jn (f c) (f d))).pen = if h'.pen = f d then f c else h'.pen := rfl
    refine ⟨s.inj, s.zero, s.up, ?_, s.born, fun hp => ?_, fun hp => ?_, fun b => ?_, fun b' => ?_⟩
    · refine k2.trans ?_
      rw [k1, s.ks, filter_map_ne s.inj]
    · show (h'.act i' (.jn (f c) (f d))).pen = f (h.act i (.jn c d)).pen
      rw [p1, p2]
      by_cases e : h.pen = d
      · have := s.pen1 (e ▸ hd)
        rw [if_pos e, if_pos (by rw [this, e])]
      · rw [p1, if_neg e] at hp
        have := s.pen1 (mk hp).1
        rw [if_neg e, if_neg (fun z => e (s.inj _ _ (this ▸ z))), this]
    · show (h'.act i' (.jn (f c) (f d))).pen ∉ (h'.act i' (.jn (f c) (f d))).ks
      rw [k2, p2]
      by_cases e : h.pen = d
      · rw [p1, if_pos e, k1] at hp
        exact absurd (List.mem_filter.mpr ⟨hc, decide_eq_true hcd⟩) hp
      · rw [p1, if_neg e, k1] at hp
        have hn : h.pen ∉ h.ks := fun m => hp (List.mem_filter.mpr ⟨m, decide_eq_true e⟩)
        have hn' := s.pen2 hn
        have e' : ¬ (h'.pen = f d) := fun z => hn' (z ▸ s.mem.mpr hd)
        rw [if_neg e']
        exact fun m => hn' (List.mem_filter.mp m).1
    · obtain ⟨b', hb⟩ := s.to b
      refine ⟨b', fun j hj => ?_⟩
      obtain ⟨hj, hjd⟩ := mk hj
      show ((h.act i (.jn c d)).at j).testBit b = ((h'.act i' (.jn (f c) (f d))).at (f j)).testBit b'
      rw [a1 j hjd, a2 j hjd]
      by_cases e : c = j
      · rw [if_pos e, if_pos e, Nat.testBit_or, Nat.testBit_or, hb c hc, hb d hd]
      · rw [if_neg e, if_neg e]; exact hb j hj
    · obtain ⟨b, hb⟩ := s.fro b'
      refine ⟨b, fun j hj => ?_⟩
      obtain ⟨hj, hjd⟩ := mk hj
      show ((h.act i (.jn c d)).at j).testBit b = ((h'.act i' (.jn (f c) (f d))).at (f j)).testBit b'
      rw [a1 j hjd, a2 j hjd]
      by_cases e : c = j
      · rw [if_pos e, if_pos e, Nat.testBit_or, Nat.testBit_or, hb c hc, hb d hd]
      · rw [if_neg e, if_neg e]; exact hb j hj
  | ls d =>
    have hd : d ∈ h.ks := ok
    have k1 : (h.act i (.ls d)).ks = h.ks.filter fun k => decide (k ≠ d) := keys_drop
    have k2 : (h'.act i' (.ls (f d))).ks = h'.ks.filter fun k => decide (k ≠ f d) := keys_drop
    have a1 : ∀ j, j ≠ d → (h.act i (.ls d)).at j = h.at j := fun j hj => at_drop (fun z => hj z.symm)
    have a2 : ∀ j, j ≠ d → (h'.act i' (.ls (f d))).at (f j) = h'.at (f j) := fun j hj => at_drop (fun z => hj (s.inj _ _ z.symm))
    have mk : ∀ {j}, j ∈ (h.act i (.ls d)).ks → j ∈ h.ks ∧ j ≠ d := fun {j} m => by
      rw [k1] at m
      exact ⟨(List.mem_filter.mp m).1, of_decide_eq_true (List.mem_filter.mp m).2⟩
    refine ⟨s.inj, s.zero, s.up, ?_, s.born, fun hp => s.pen1 (mk hp).1, fun hp => ?_, fun b => ?_, fun b' => ?_⟩
    · refine k2.trans ?_
      rw [k1, s.ks, filter_map_ne s.inj]
    · show h'.pen ∉ (h'.act i' (.ls (f d))).ks
      rw [k2]
      intro m
      have m := List.mem_filter.mp m
      have m2 : h'.pen ≠ f d := of_decide_eq_true m.2
      by_cases e : h.pen ∈ h.ks
      · have e2 := s.pen1 e
        refine hp ?_
        show h.pen ∈ (h.act i (.ls d)).ks
        rw [k1]
        exact List.mem_filter.mpr ⟨e, decide_eq_true fun z => m2 (by rw [e2, z])⟩
      · exact s.pen2 e m.1
    · obtain ⟨b', hb⟩ := s.to b
      refine ⟨b', fun j hj => ?_⟩
      obtain ⟨hj, hjd⟩ := mk hj
      show ((h.act i (.ls d)).at j).testBit b = ((h'.act i' (.ls (f d))).at (f j)).testBit b'
      rw [a1 j hjd, a2 j hjd]
      exact hb j hj
    · obtain ⟨b, hb⟩ := s.fro b'
      refine ⟨b, fun j hj => ?_⟩
      obtain ⟨hj, hjd⟩ := mk hj
      show ((h.act i (.ls d)).at j).testBit b = ((h'.act i' (.ls (f d))).at (f j)).testBit b'
      rw [a1 j hjd, a2 j hjd]
      exact hb j hj
end Dy
/-! runs of like herds -/
namespace Dy
open PySem PySem.Spec PyProof.Rows L2
theorem HM.Low.mono {h : HM} {i k : Nat} (l : h.Low i) (e : i ≤ k) : h.Low k := fun j hj b hb => l j hj b (by omega)
theorem HM.Low.act {h : HM} {v : Wld} {x : Deed} {i : Nat} (lo : h.Low i) (l : h.lets v x = true) (wf : deedWf x) : (h.act i x).Low (i + 1) := by
  have ok := HM.lets_ok l wf
  intro j hj b hb
  cases x with
  | ch c =>
    have hc : c ∈ h.ks := ok
    have k1 : (h.act i (.ch c)).ks = h.ks := by
      show keysN (kput h.kn c _) = _
      rw [keys_put, if_pos hc]
    rw [k1] at hj
    have a1 : (h.act i (.ch c)).at j = if c = j then h.at c ||| 2 ^ i else h.at j := Dy.at_put
    rw [a1]
    by_cases e : c = j
    · rw [if_pos e, bit_or_pow, lo c hc b (by omega), decide_eq_false (by omega)]; rfl
    · rw [if_neg e]; exact lo j hj b (by omega)
  | fk c =>
    have hc : c ∈ h.ks := ok
    have a1 : (h.act i (.fk c)).at j = if h.forks + 1 = j then h.at c else h.at j := Dy.at_put
    rw [a1]
    by_cases e : h.forks + 1 = j
    · rw [if_pos e]; exact lo c hc b (by omega)
    · rw [if_neg e]
      have hj : j ∈ keysN (kput h.kn (h.forks + 1) (h.at c)) := hj
      rw [keys_put] at hj
      refine lo j ?_ b (by omega)
      split at hj
      · exact hj
      · rcases List.mem_append.mp hj with m | m
        · exact m
        · exact absurd (List.mem_singleton.mp m).symm e
  | jn c d =>
    obtain ⟨hc, hd, hcd⟩ : c ∈ h.ks ∧ d ∈ h.ks ∧ c ≠ d := ok
    have k1 : (h.act i (.jn c d)).ks = h.ks.filter fun k => decide (k ≠ d) := by
      show keysN (kput (kdrop h.kn d) c _) = _
      rw [keys_put, keys_drop, if_pos (List.mem_filter.mpr ⟨hc, decide_eq_true hcd⟩)]
    rw [k1] at hj
    have m := List.mem_filter.mp hj
    have mj : j ≠ d := of_decide_eq_true m.2
    have a1 : (h.act i (.jn c d)).at j = if c = j then h.at c ||| h.at d else h.at j := by
      have a0 : (h.act i (.jn c d)).at j = if c = j then h.at c ||| h.at d else (kget (kdrop h.kn d) j).getD 0 := Dy.at_put
      rw [a0]
      by_cases e : c = j
      · rw [if_pos e, if_pos e]
      · rw [if_neg e, if_neg e, Dy.at_drop (fun z => mj z.symm)]; rfl
    rw [a1]
    by_cases e : c = j
    · rw [if_pos e, Nat.testBit_or, lo c hc b (by omega), lo d hd b (by omega)]; rfl
    · rw [if_neg e]; exact lo j m.1 b (by omega)
  | ls d =>
    have k1 : (h.act i (.ls d)).ks = h.ks.filter fun k => decide (k ≠ d) := keys_drop
    rw [k1] at hj
    have m := List.mem_filter.mp hj
    have mj : j ≠ d := of_decide_eq_true m.2
    have a1 : (h.act i (.ls d)).at j = h.at j := Dy.at_drop (fun z => mj z.symm)
    rw [a1]
    exact lo j m.1 b (by omega)
theorem low0 : HM.zero.Low 0 := fun j hj b _ => by
  have : j ∈ [0] := hj
  rw [List.mem_singleton.mp this]
  show (0 : Nat).testBit b = false
  simp
theorem walk_low {v : Wld} : ∀ {r : List Deed} {i : Nat} {h : HM}, (∀ x ∈ r, deedWf x) → h.Low i → (HM.walk v r i h).2 = none → (HM.walk v r i h).1.Low (i + r.length)
  | [], i, h, _, l, _ => l
  | x :: r, i, h, wf, l, e => by
    rw [HM.walk_cons] at e ⊢
    by_cases c : h.lets v x = true
    · rw [if_pos c] at e ⊢
      have := walk_low (fun y m => wf y (List.mem_cons_of_mem _ m)) (l.act c (wf x List.mem_cons_self)) e
      rw [List.length_cons]
      exact this.mono (by omega)
    · rw [if_neg c] at e; cases e
theorem re_wf {f : Nat → Nat} (inj : ∀ a b, f a = f b → a = b) {x : Deed} (h : deedWf x) : deedWf (x.re f) := by
  cases x with
  | jn i j =>
    have h : i ≠ j := h
    show f i ≠ f j
    exact fun e => h (inj _ _ e)
  | _ => trivial
theorem walk_sim {v : Wld} {f : Nat → Nat} : ∀ {r : List Deed} {i i' : Nat} {h h' : HM}, (∀ x ∈ r, deedWf x) → Sim f h h' → h.Low i → h'.Low i' → h.Inv → h'.Inv → (HM.walk v r i h).2 = none →
    (HM.walk v (r.map (Deed.re f)) i' h').2 = none ∧ Sim f (HM.walk v r i h).1 (HM.walk v (r.map (Deed.re f)) i' h').1
  | [], i, i', h, h', _, s, _, _, _, _, _ => ⟨rfl, s⟩
  | x :: r, i, i', h, h', wf, s, lo, lo', iv, iv', e => by
    rw [List.map_cons, HM.walk_cons, HM.walk_cons]
    rw [HM.walk_cons] at e
    by_cases c : h.lets v x = true
    · rw [if_pos c] at e ⊢
      have wx := wf x List.mem_cons_self
      have c' : h'.lets v (x.re f) = true := s.lets.trans c
      rw [if_pos c']
      exact walk_sim (fun y m => wf y (List.mem_cons_of_mem _ m)) (s.act c wx lo lo' iv iv') (lo.act c wx) (lo'.act c' (re_wf s.inj wx)) (iv.act c wx) (iv'.act c' (re_wf s.inj wx)) e
    · rw [if_neg c] at e; cases e
theorem sub_eq {A B : Nat} : A &&& B = A ↔ ∀ k, A.testBit k = true → B.testBit k = true := by
  constructor
  · intro e k hk
    have h1 : (A &&& B).testBit k = A.testBit k := by rw [e]
    rw [Nat.testBit_and, hk, Bool.true_and] at h1
    exact h1
  · intro h
    refine Nat.eq_of_testBit_eq fun k => ?_
    rw [Nat.testBit_and]
    cases e : A.testBit k
    · rfl
    · rw [h k e]; rfl
theorem Sim.sub {f : Nat → Nat} {h h' : HM} (s : Sim f h h') {a b : Nat} (ha : a ∈ h.ks) (hb : b ∈ h.ks) : h.at a &&& h.at b = h.at a ↔ h'.at (f a) &&& h'.at (f b) = h'.at (f a) := by
  rw [sub_eq, sub_eq]
  constructor
  · intro z k hk
    obtain ⟨k', q⟩ := s.fro k
    rw [← q b hb]
    exact z k' (by rw [q a ha]; exact hk)
  · intro z k hk
    obtain ⟨k', q⟩ := s.to k
    rw [q b hb]
    exact z k' (by rw [← q a ha]; exact hk)
theorem cmp_iff {a b a' b' : Nat} (h1 : a &&& b = a ↔ a' &&& b' = a') (h2 : b &&& a = b ↔ b' &&& a' = b') : cmpN a b = cmpN a' b' := by
  rw [Nat.and_comm b a, Nat.and_comm b' a'] at h2
  have e0 : a = b ↔ a' = b' := by
    constructor
    · rintro rfl
      rw [Nat.and_self] at h1 h2
      exact (h1.mp rfl).symm.trans (h2.mp rfl)
    · rintro rfl
      rw [Nat.and_self] at h1 h2
      exact (h1.mpr rfl).symm.trans (h2.mpr rfl)
  unfold cmpN
  by_cases q0 : a = b
  · rw [if_pos q0, if_pos (e0.mp q0)]
  · rw [if_neg q0, if_neg (fun z => q0 (e0.mpr z))]
    by_cases q1 : a &&& b = b
    · rw [if_pos q1, if_pos (h2.mp q1)]
    · rw [if_neg q1, if_neg (fun z => q1 (h2.mpr z))]
      by_cases q2 : a &&& b = a
      · rw [if_pos q2, if_pos (h1.mp q2)]
      · rw [if_neg q2, if_neg (fun z => q2 (h1.mpr z))]
theorem Sim.cmp {f : Nat → Nat} {h h' : HM} (s : Sim f h h') {a b : Nat} (ha : a ∈ h.ks) (hb : b ∈ h.ks) : cmpN (h.at a) (h.at b) = cmpN (h'.at (f a)) (h'.at (f b)) := cmp_iff (s.sub ha hb) (s.sub hb ha)
theorem lotB_eq {A A' : Nat → Nat} {f : Nat → Nat} {js : List Nat} {b b' : Nat} (h : ∀ j ∈ js, (A j).testBit b = (A' (f j)).testBit b') : lotB (js.map A) b = lotB ((js.map f).map A') b' := by
  unfold lotB
  rw [List.length_map, List.length_map, List.length_map]
  congr 1
  refine List.filter_congr fun k hk => ?_
  have hk := List.mem_range.mp hk
  rw [List.getD_eq_getElem?_getD, List.getD_eq_getElem?_getD, List.getElem?_map, List.getElem?_map, List.getElem?_map, List.getElem?_eq_getElem hk]
  exact h _ (List.getElem_mem hk)
theorem any_eq {A A' : Nat → Nat} {f : Nat → Nat} {js : List Nat} {b b' : Nat} (h : ∀ j ∈ js, (A j).testBit b = (A' (f j)).testBit b') : ((js.map A).any fun m => m.testBit b) = (((js.map f).map A').any fun m => m.testBit b') := by
  rw [List.any_map, List.any_map, List.any_map]
  induction js with
  | nil => rfl
  | cons j js ih =>
    rw [List.any_cons, List.any_cons, ih fun k m => h k (List.mem_cons_of_mem _ m)]
    congr 1
    exact h j List.mem_cons_self
theorem Sim.lots {f : Nat → Nat} {h h' : HM} {js : List Nat} (s : Sim f h h') (hj : ∀ j ∈ js, j ∈ h.ks) (h0 : js ≠ []) : (lotsM (js.map h.at)).Perm (lotsM ((js.map f).map h'.at)) := by
  refine (List.perm_ext_iff_of_nodup lots_nd lots_nd).mpr fun x => ?_
  rw [mem_lots (by simpa using h0), mem_lots (by simpa using h0)]
  simp only [List.length_map]
  constructor
  · rintro ⟨b, hb, q1, q2⟩
    obtain ⟨b', q⟩ := s.to b
    have q' := fun j m => q j (hj j m)
    exact ⟨b', (any_eq q').symm.trans hb, q1.trans (lotB_eq q'), q2⟩
  · rintro ⟨b', hb, q1, q2⟩
    obtain ⟨b, q⟩ := s.fro b'
    have q' := fun j m => q j (hj j m)
    exact ⟨b, (any_eq q').trans hb, q1.trans (lotB_eq q').symm, q2⟩
end Dy
/-! deeds exchanged, doubled, forks that are joined again -/
namespace Dy
open PySem PySem.Spec PyProof.Rows L2
def Deed.cs : Deed → List Nat
  | .ch c => [c]
  | .fk c => [c]
  | .jn c d => [c, d]
  | .ls c => [c]
def Deed.gone : Deed → Option Nat
  | .jn _ d => some d
  | .ls d => some d
  | _ => none
def Deed.pn (p : Nat) : Deed → Nat
  | .jn c d => if p = d then c else p
  | _ => p
def Deed.nofk : Deed → Prop
  | .fk _ => False
  | _ => True
def rawB (x : Deed) (idx : Nat) (F : Nat → Nat → Bool) : Nat → Nat → Bool := match x with
  | .ch c => fun j b => F j b || (decide (c = j) && decide (idx = b))
  | .jn c d => fun j b => F j b || (decide (c = j) && F d b)
  | _ => F
def bitsOf (h : HM) : Nat → Nat → Bool := fun j b => (h.at j).testBit b
theorem raw_ks {h : HM} {x : Deed} {i : Nat} (ok : h.ok x) (nf : x.nofk) : (h.act i x).ks = h.ks.filter fun k => decide (x.gone ≠ some k) := by
  cases x with
  | ch c =>
    have hc : c ∈ h.ks := ok
    show keysN (kput h.kn c _) = _
    rw [keys_put, if_pos hc]
    exact (List.filter_eq_self.mpr fun k _ => by simp [Deed.gone]).symm
  | fk c => exact nf.elim
  | jn c d =>
    obtain ⟨hc, hd, hcd⟩ : c ∈ h.ks ∧ d ∈ h.ks ∧ c ≠ d := ok
    show keysN (kput (kdrop h.kn d) c _) = _
    rw [keys_put, keys_drop, if_pos (List.mem_filter.mpr ⟨hc, decide_eq_true hcd⟩)]
    refine List.filter_congr fun k _ => decide_eq_decide.mpr ?_
    simp [Deed.gone, eq_comm]
  | ls d =>
    show keysN (kdrop h.kn d) = _
    rw [keys_drop]
    refine List.filter_congr fun k _ => decide_eq_decide.mpr ?_
    simp [Deed.gone, eq_comm]
theorem raw_pen {h : HM} {x : Deed} {i : Nat} : (h.act i x).pen = x.pn h.pen := by cases x <;> rfl
theorem raw_forks {h : HM} {x : Deed} {i : Nat} (nf : x.nofk) : (h.act i x).forks = h.forks := by cases x <;> first | rfl | exact nf.elim
theorem raw_at {h : HM} {x : Deed} {i j b : Nat} (ok : h.ok x) (nf : x.nofk) (hj : j ∈ (h.act i x).ks) : bitsOf (h.act i x) j b = rawB x i (bitsOf h) j b := by
  rw [raw_ks ok nf] at hj
  have mj : x.gone ≠ some j := of_decide_eq_true (List.mem_filter.mp hj).2
  cases x with
  | ch c =>
    have a1 : (h.act i (.ch c)).at j = if c = j then h.at c ||| 2 ^ i else h.at j := Dy.at_put
    show ((h.act i (.ch c)).at j).testBit b = ((h.at j).testBit b || (decide (c = j) && decide (i = b)))
    rw [a1]
    by_cases e : c = j
    · rw [if_pos e, bit_or_pow, decide_eq_true e, Bool.true_and, e]
    · rw [if_neg e, decide_eq_false e, Bool.false_and, Bool.or_false]
  | fk c => exact nf.elim
  | jn c d =>
    have hd : j ≠ d := fun e => mj (by rw [e]; rfl)
    have a0 : (h.act i (.jn c d)).at j = if c = j then h.at c ||| h.at d else (kget (kdrop h.kn d) j).getD 0 := Dy.at_put
    show ((h.act i (.jn c d)).at j).testBit b = ((h.at j).testBit b || (decide (c = j) && (h.at d).testBit b))
    rw [a0]
    by_cases e : c = j
    · rw [if_pos e, Nat.testBit_or, decide_eq_true e, Bool.true_and, e]
    · rw [if_neg e, decide_eq_false e, Bool.false_and, Bool.or_false, Dy.at_drop (fun z => hd z.symm)]; rfl
  | ls d =>
    have hd : j ≠ d := fun e => mj (by rw [e]; rfl)
    have a1 : (h.act i (.ls d)).at j = h.at j := Dy.at_drop (fun z => hd z.symm)
    show ((h.act i (.ls d)).at j).testBit b = (h.at j).testBit b
    rw [a1]
theorem ok_cs {h : HM} {x : Deed} (ok : h.ok x) : ∀ c ∈ x.cs, c ∈ h.ks := by
  cases x with
  | jn c d =>
    obtain ⟨hc, hd, hcd⟩ : c ∈ h.ks ∧ d ∈ h.ks ∧ c ≠ d := ok
    intro k m
    have m : k ∈ [c, d] := m
    simp only [List.mem_cons, List.not_mem_nil, or_false] at m
    rcases m with rfl | rfl
    · exact hc
    · exact hd
  | ch c => exact fun k m => List.mem_singleton.mp m ▸ (ok : c ∈ h.ks)
  | fk c => exact fun k m => List.mem_singleton.mp m ▸ (ok : c ∈ h.ks)
  | ls c => exact fun k m => List.mem_singleton.mp m ▸ (ok : c ∈ h.ks)
theorem raw_two {h : HM} {x y : Deed} {i j b k : Nat} (ox : h.ok x) (nx : x.nofk) (oy : (h.act i x).ok y) (ny : y.nofk) (hj : j ∈ ((h.act i x).act k y).ks) : bitsOf ((h.act i x).act k y) j b = rawB y k (rawB x i (bitsOf h)) j b := by
  rw [raw_at oy ny hj]
  rw [raw_ks oy ny] at hj
  have hj2 : j ∈ (h.act i x).ks := (List.mem_filter.mp hj).1
  clear hj
  have cs := ok_cs oy
  cases y with
  | jn c d =>
    have hd : d ∈ (h.act i x).ks := cs d (by simp [Deed.cs])
    show (bitsOf (h.act i x) j b || (decide (c = j) && bitsOf (h.act i x) d b)) = (rawB x i (bitsOf h) j b || (decide (c = j) && rawB x i (bitsOf h) d b))
    rw [raw_at ox nx hj2, raw_at ox nx hd]
  | ch c =>
    show (bitsOf (h.act i x) j b || _) = (rawB x i (bitsOf h) j b || _)
    rw [raw_at ox nx hj2]
  | fk c => exact ny.elim
  | ls c => exact raw_at ox nx hj2
def swp (i b : Nat) : Nat := if b = i then i + 1 else if b = i + 1 then i else b
theorem swp_swp (i b : Nat) : swp i (swp i b) = b := by
  unfold swp
  by_cases e : b = i
  · subst e; simp
  · by_cases e2 : b = i + 1
    · subst e2; simp
    · simp [e, e2]
theorem exch_bits {x y : Deed} {F : Nat → Nat → Bool} {i b j : Nat} (nx : x.nofk) (ny : y.nofk) (dis : ∀ c ∈ x.cs, c ∉ y.cs) (z0 : ∀ k, k = j ∨ k ∈ x.cs ∨ k ∈ y.cs → F k i = false) (z1 : ∀ k, k = j ∨ k ∈ x.cs ∨ k ∈ y.cs → F k (i + 1) = false) :
    rawB y (i + 1) (rawB x i F) j b = rawB x (i + 1) (rawB y i F) j (swp i b) := by
  have hF : ∀ k, k = j ∨ k ∈ x.cs ∨ k ∈ y.cs → F k (swp i b) = F k b := fun k m => by
    unfold swp
    by_cases e : b = i
    · rw [if_pos e, z1 k m, e, z0 k m]
    · rw [if_neg e]
      by_cases e2 : b = i + 1
      · rw [if_pos e2, z0 k m, e2, z1 k m]
      · rw [if_neg e2]
  have d0 : decide (i + 1 = swp i b) = decide (i = b) := decide_eq_decide.mpr (by unfold swp; split <;> (try split) <;> omega)
  have d1 : decide (i = swp i b) = decide (i + 1 = b) := decide_eq_decide.mpr (by unfold swp; split <;> (try split) <;> omega)
  have hj := hF j (.inl rfl)
  cases x with
  | fk c => exact nx.elim
  | ch c =>
    cases y with
    | fk c => exact ny.elim
    | ch d =>
      simp only [rawB, hj, d0, d1]
      cases F j b <;> cases decide (c = j) <;> cases decide (d = j) <;> cases decide (i = b) <;> cases decide (i + 1 = b) <;> rfl
    | jn p q =>
      have hq := hF q (.inr (.inr (by simp [Deed.cs])))
      have nq : decide (c = q) = false := decide_eq_false fun e => dis c (by simp [Deed.cs]) (by simp [Deed.cs, e])
      simp only [rawB, hj, hq, d0, d1, nq]
      cases F j b <;> cases F q b <;> cases decide (c = j) <;> cases decide (p = j) <;> cases decide (i = b) <;> cases decide (i + 1 = b) <;> rfl
    | ls d =>
      simp only [rawB, hj, d0, d1]
  | jn p q =>
    have hq := hF q (.inr (.inl (by simp [Deed.cs])))
    cases y with
    | fk c => exact ny.elim
    | ch c =>
      have nq : decide (c = q) = false := decide_eq_false fun e => dis q (by simp [Deed.cs]) (by simp [Deed.cs, e])
      simp only [rawB, hj, hq, d0, d1, nq]
      cases F j b <;> cases F q b <;> cases decide (c = j) <;> cases decide (p = j) <;> cases decide (i = b) <;> cases decide (i + 1 = b) <;> rfl
    | jn p2 q2 =>
      have hq2 := hF q2 (.inr (.inr (by simp [Deed.cs])))
      have n1 : decide (p = q2) = false := decide_eq_false fun e => dis p (by simp [Deed.cs]) (by simp [Deed.cs, e])
      have n2 : decide (p2 = q) = false := decide_eq_false fun e => dis q (by simp [Deed.cs]) (by simp [Deed.cs, e])
      simp only [rawB, hj, hq, hq2, n1, n2]
      cases F j b <;> cases F q b <;> cases F q2 b <;> cases decide (p = j) <;> cases decide (p2 = j) <;> rfl
    | ls d =>
      simp only [rawB, hj, hq]
  | ls d =>
    cases y with
    | fk c => exact ny.elim
    | ch c => simp only [rawB, hj, d0, d1]
    | jn p q =>
      have hq := hF q (.inr (.inr (by simp [Deed.cs])))
      simp only [rawB, hj, hq]
    | ls e => exact hj.symm
theorem pn_comm {x y : Deed} {p : Nat} (dis : ∀ c ∈ x.cs, c ∉ y.cs) : y.pn (x.pn p) = x.pn (y.pn p) := by
  cases x with
  | jn a b =>
    cases y with
    | jn c d =>
      have n1 : a ≠ d := fun e => dis a (by simp [Deed.cs]) (by simp [Deed.cs, e])
      have n2 : b ≠ c := fun e => dis b (by simp [Deed.cs]) (by simp [Deed.cs, e])
      have n3 : b ≠ d := fun e => dis b (by simp [Deed.cs]) (by simp [Deed.cs, e])
      show (if (if p = b then a else p) = d then c else (if p = b then a else p)) = (if (if p = d then c else p) = b then a else (if p = d then c else p))
      by_cases e1 : p = b
      · rw [if_pos e1, if_neg n1, if_neg (show ¬ p = d from fun z => n3 (e1 ▸ z)), if_pos e1]
      · rw [if_neg e1]
        by_cases e2 : p = d
        · rw [if_pos e2, if_neg (fun z => n2 z.symm)]
        · rw [if_neg e2, if_neg e1]
    | _ => rfl
  | _ => rfl
theorem sim_exch {h : HM} {x y : Deed} {i : Nat} (lo : h.Low i) (nx : x.nofk) (ny : y.nofk) (dis : ∀ c ∈ x.cs, c ∉ y.cs) (ox : h.ok x) (oy1 : (h.act i x).ok y) (oy : h.ok y) (ox1 : (h.act i y).ok x) :
    Sim id ((h.act i x).act (i + 1) y) ((h.act i y).act (i + 1) x) := by
  have kk : ((h.act i y).act (i + 1) x).ks = ((h.act i x).act (i + 1) y).ks := by
    rw [raw_ks ox1 nx, raw_ks oy ny, raw_ks oy1 ny, raw_ks ox nx, List.filter_filter, List.filter_filter]
    refine List.filter_congr fun k _ => ?_
    rw [Bool.and_comm]
  have pp : ((h.act i y).act (i + 1) x).pen = ((h.act i x).act (i + 1) y).pen := by
    rw [raw_pen, raw_pen, raw_pen, raw_pen, pn_comm dis]
  have ff : ((h.act i y).act (i + 1) x).forks = ((h.act i x).act (i + 1) y).forks := by
    rw [raw_forks nx, raw_forks ny, raw_forks ny, raw_forks nx]
  have bb : ∀ b, ∀ j ∈ ((h.act i x).act (i + 1) y).ks, bitsOf ((h.act i x).act (i + 1) y) j b = bitsOf ((h.act i y).act (i + 1) x) j (swp i b) := fun b j hj => by
    rw [raw_two ox nx oy1 ny hj, raw_two oy ny ox1 nx (by rw [kk]; exact hj)]
    have hjk : j ∈ h.ks := by
      rw [raw_ks oy1 ny, raw_ks ox nx] at hj
      exact (List.mem_filter.mp (List.mem_filter.mp hj).1).1
    have ak : ∀ k, k = j ∨ k ∈ x.cs ∨ k ∈ y.cs → k ∈ h.ks := fun k m => by
      rcases m with rfl | m | m
      · exact hjk
      · exact ok_cs ox k m
      · exact ok_cs oy k m
    exact exch_bits nx ny dis (fun k m => lo k (ak k m) i (Nat.le_refl _)) (fun k m => lo k (ak k m) (i + 1) (by omega))
  refine ⟨fun _ _ e => e, rfl, fun _ _ => rfl, by rw [kk, List.map_id], by rw [ff]; rfl, fun _ => pp, fun hp => by rw [pp, kk]; exact hp, fun b => ⟨swp i b, fun j hj => bb b j hj⟩, fun b' => ⟨swp i b', fun j hj => ?_⟩⟩
  have := bb (swp i b') j hj
  rw [swp_swp] at this
  exact this
theorem sim_dbl {h : HM} {c i : Nat} (lo : h.Low i) (ok : c ∈ h.ks) : Sim id (h.act i (.ch c)) ((h.act i (.ch c)).act (i + 1) (.ch c)) := by
  have o1 : h.ok (.ch c) := ok
  have kk : (h.act i (.ch c)).ks = h.ks := by
    show keysN (kput h.kn c _) = _
    rw [keys_put, if_pos ok]
  have o2 : (h.act i (.ch c)).ok (.ch c) := by show c ∈ (h.act i (.ch c)).ks; rw [kk]; exact ok
  have kk2 : ((h.act i (.ch c)).act (i + 1) (.ch c)).ks = (h.act i (.ch c)).ks := by
    show keysN (kput (h.act i (.ch c)).kn c _) = _
    rw [keys_put, if_pos (by have := o2; exact this)]
  have b1 : ∀ j ∈ (h.act i (.ch c)).ks, ∀ b, bitsOf (h.act i (.ch c)) j b = (bitsOf h j b || (decide (c = j) && decide (i = b))) := fun j hj b => raw_at o1 trivial hj
  have b2 : ∀ j ∈ (h.act i (.ch c)).ks, ∀ b, bitsOf ((h.act i (.ch c)).act (i + 1) (.ch c)) j b = (bitsOf h j b || (decide (c = j) && decide (i = b)) || (decide (c = j) && decide (i + 1 = b))) := fun j hj b => by
    rw [raw_at o2 trivial (by rw [kk2]; exact hj)]
    show (bitsOf (h.act i (.ch c)) j b || _) = _
    rw [b1 j hj]
  have z0 : ∀ j ∈ (h.act i (.ch c)).ks, ∀ b, i ≤ b → bitsOf h j b = false := fun j hj b hb => lo j (by rw [kk] at hj; exact hj) b hb
  refine ⟨fun _ _ e => e, rfl, fun _ _ => rfl, by rw [kk2, List.map_id], rfl, fun _ => rfl, fun hp => by rw [kk2]; exact hp, fun b => ?_, fun b' => ?_⟩
  · by_cases e : b = i + 1
    · refine ⟨i + 2, fun j hj => ?_⟩
      show bitsOf _ j b = bitsOf _ j (i + 2)
      rw [b1 j hj, b2 j hj, e, z0 j hj (i + 1) (by omega), z0 j hj (i + 2) (by omega), decide_eq_false (show ¬ i = i + 1 by omega), decide_eq_false (show ¬ i = i + 2 by omega), decide_eq_false (show ¬ i + 1 = i + 2 by omega)]
      cases decide (c = j) <;> rfl
    · refine ⟨b, fun j hj => ?_⟩
      show bitsOf _ j b = bitsOf _ j b
      rw [b1 j hj, b2 j hj, decide_eq_false (show ¬ i + 1 = b from fun z => e z.symm)]
      cases bitsOf h j b <;> cases decide (c = j) <;> cases decide (i = b) <;> rfl
  · by_cases e : b' = i + 1
    · refine ⟨i, fun j hj => ?_⟩
      show bitsOf _ j i = bitsOf _ j b'
      rw [b1 j hj, b2 j hj, e, z0 j hj (i + 1) (by omega), z0 j hj i (by omega), decide_eq_true (rfl : i = i), decide_eq_true (rfl : i + 1 = i + 1), decide_eq_false (show ¬ i = i + 1 by omega)]
      cases decide (c = j) <;> rfl
    · refine ⟨b', fun j hj => ?_⟩
      show bitsOf _ j b' = bitsOf _ j b'
      rw [b1 j hj, b2 j hj, decide_eq_false (show ¬ i + 1 = b' from fun z => e z.symm)]
      cases bitsOf h j b' <;> cases decide (c = j) <;> cases decide (i = b') <;> rfl
end Dy
/-! whole runs with deeds exchanged, doubled, forks that are joined again -/
namespace Dy
open PySem PySem.Spec PyProof.Rows L2
def shf (p k : Nat) : Nat := if p ≤ k then k + 1 else k
theorem shf_inj (p : Nat) : ∀ a b, shf p a = shf p b → a = b := fun a b e => by
  unfold shf at e
  split at e <;> split at e <;> omega
theorem sim_det {h : HM} {v : Wld} {c i : Nat} (lo : h.Low i) (iv : h.Inv) (l : h.lets v (.fk c) = true) :
    (h.act i (.fk c)).lets v (.jn c (h.forks + 1)) = true ∧ Sim (shf (h.forks + 1)) h ((h.act i (.fk c)).act (i + 1) (.jn c (h.forks + 1))) := by
  have hc : c ∈ h.ks := HM.lets_ok l trivial
  have nb : h.forks + 1 ∉ h.ks := fun m => by
    have := iv.le _ m
    omega
  have hcb : c ≠ h.forks + 1 := fun e => nb (e ▸ hc)
  have k1 : (h.act i (.fk c)).ks = h.ks ++ [h.forks + 1] := by
    show keysN (kput h.kn (h.forks + 1) _) = _
    rw [keys_put, if_neg nb]
  have a1 : ∀ j, (h.act i (.fk c)).at j = if h.forks + 1 = j then h.at c else h.at j := fun j => Dy.at_put
  have oj : (h.act i (.fk c)).ok (.jn c (h.forks + 1)) := by
    show c ∈ (h.act i (.fk c)).ks ∧ h.forks + 1 ∈ (h.act i (.fk c)).ks ∧ c ≠ h.forks + 1
    rw [k1]
    exact ⟨List.mem_append_left _ hc, List.mem_append_right _ (List.mem_singleton.mpr rfl), hcb⟩
  have k2 : ((h.act i (.fk c)).act (i + 1) (.jn c (h.forks + 1))).ks = h.ks := by
    rw [raw_ks oj trivial, k1, List.filter_append]
    have e1 : h.ks.filter (fun k => decide ((Deed.jn c (h.forks + 1)).gone ≠ some k)) = h.ks := List.filter_eq_self.mpr fun k hk => decide_eq_true fun z => nb (by
      have : h.forks + 1 = k := Option.some.inj z
      rw [this]; exact hk)
    rw [e1]
    simp [Deed.gone]
  have bb : ∀ j ∈ h.ks, ∀ b, bitsOf ((h.act i (.fk c)).act (i + 1) (.jn c (h.forks + 1))) j b = bitsOf h j b := fun j hj b => by
    rw [raw_at oj trivial (by rw [k2]; exact hj)]
    have hn : h.forks + 1 ≠ j := fun e => nb (e ▸ hj)
    show (((h.act i (.fk c)).at j).testBit b || (decide (c = j) && ((h.act i (.fk c)).at (h.forks + 1)).testBit b)) = (h.at j).testBit b
    rw [a1, a1, if_neg hn, if_pos rfl]
    by_cases e : c = j
    · subst e
      rw [decide_eq_true rfl]
      cases (h.at c).testBit b <;> rfl
    · rw [decide_eq_false e]
      cases (h.at j).testBit b <;> rfl
  have sf : ∀ j ∈ h.ks, shf (h.forks + 1) j = j := fun j hj => by
    have := iv.le _ hj
    unfold shf
    rw [if_neg (by omega)]
  have pe : ((h.act i (.fk c)).act (i + 1) (.jn c (h.forks + 1))).pen = h.pen := by
    show (if h.pen = h.forks + 1 then c else h.pen) = h.pen
    have := iv.pe
    rw [if_neg (by omega)]
  refine ⟨?_, shf_inj _, ?_, fun k hk => ?_, ?_, ?_, fun hp => ?_, fun hp => ?_, fun b => ⟨b, fun j hj => ?_⟩, fun b => ⟨b, fun j hj => ?_⟩⟩
  · show (decide (c ∈ (h.act i (.fk c)).ks) && decide (h.forks + 1 ∈ (h.act i (.fk c)).ks) && (!decide (v.kind = "trunk") || decide (c = 0))) = true
    have l : (decide (c ∈ h.ks) && (decide (h.ks.length < v.most) && (!decide (v.kind = "trunk") || decide (c = 0)))) = true := l
    rw [Bool.and_eq_true, Bool.and_eq_true] at l
    rw [decide_eq_true oj.1, decide_eq_true oj.2.1, l.2.2]; rfl
  · unfold shf; rw [if_neg (by omega)]
  · unfold shf; rw [if_pos (by omega), if_pos (by omega)]
  · rw [k2]
    conv => lhs; rw [← List.map_id h.ks]
    exact List.map_congr_left fun j hj => (sf j hj).symm
  · show h.forks + 1 + 1 = shf (h.forks + 1) (h.forks + 1)
    unfold shf; rw [if_pos (Nat.le_refl _)]
  · rw [pe, sf _ hp]
  · rw [pe, k2]; exact hp
  · rw [sf j hj]; exact (bb j hj b).symm
  · rw [sf j hj]; exact (bb j hj b).symm
theorem re_id : ∀ r : List Deed, r.map (Deed.re id) = r
  | [] => rfl
  | x :: r => by
    rw [List.map_cons, re_id r]
    cases x <;> rfl
theorem walk_split {v : Wld} {r s : List Deed} {i : Nat} {h : HM} (e : (HM.walk v (r ++ s) i h).2 = none) : (HM.walk v r i h).2 = none ∧ HM.walk v (r ++ s) i h = HM.walk v s (i + r.length) (HM.walk v r i h).1 := by
  induction r generalizing i h with
  | nil => exact ⟨rfl, rfl⟩
  | cons x r ih =>
    have e : (HM.walk v (x :: (r ++ s)) i h).2 = none := e
    show (HM.walk v (x :: r) i h).2 = none ∧ HM.walk v (x :: (r ++ s)) i h = _
    rw [HM.walk_cons] at e ⊢
    rw [HM.walk_cons]
    by_cases c : h.lets v x = true
    · rw [if_pos c] at e ⊢
      rw [if_pos c]
      obtain ⟨q1, q2⟩ := ih e
      refine ⟨q1, q2.trans ?_⟩
      congr 1
      rw [List.length_cons]; omega
    · rw [if_neg c] at e; cases e
theorem walk_join {v : Wld} {r s : List Deed} {i : Nat} {h : HM} (e : (HM.walk v r i h).2 = none) : HM.walk v (r ++ s) i h = HM.walk v s (i + r.length) (HM.walk v r i h).1 := by
  induction r generalizing i h with
  | nil => rfl
  | cons x r ih =>
    show HM.walk v (x :: (r ++ s)) i h = _
    rw [HM.walk_cons] at e ⊢
    rw [HM.walk_cons]
    by_cases c : h.lets v x = true
    · rw [if_pos c] at e ⊢
      rw [if_pos c]
      refine (ih e).trans ?_
      congr 1
      rw [List.length_cons]; omega
    · rw [if_neg c] at e; cases e
theorem walk_one {v : Wld} {x : Deed} {s : List Deed} {i : Nat} {h : HM} (e : (HM.walk v (x :: s) i h).2 = none) : h.lets v x = true ∧ HM.walk v (x :: s) i h = HM.walk v s (i + 1) (h.act i x) := by
  rw [HM.walk_cons] at e ⊢
  by_cases c : h.lets v x = true
  · rw [if_pos c]; exact ⟨c, rfl⟩
  · rw [if_neg c] at e; cases e
section
variable {v : Wld} {r1 r2 : List Deed}
theorem run_exch {x y : Deed} (w1 : ∀ z ∈ r1, deedWf z) (w2 : ∀ z ∈ r2, deedWf z) (wx : deedWf x) (wy : deedWf y) (nx : x.nofk) (ny : y.nofk) (dis : ∀ c ∈ x.cs, c ∉ y.cs)
    (e1 : (HM.walk v (r1 ++ x :: y :: r2) 0 HM.zero).2 = none) (e2 : (HM.walk v (r1 ++ y :: x :: r2) 0 HM.zero).2 = none) :
    Sim id (HM.walk v (r1 ++ x :: y :: r2) 0 HM.zero).1 (HM.walk v (r1 ++ y :: x :: r2) 0 HM.zero).1 := by
  obtain ⟨a1, q1⟩ := walk_split e1
  obtain ⟨_, q2⟩ := walk_split e2
  have lo := walk_low w1 low0 a1
  have iv := walk_inv (w := v) (i := 0) w1 HM.inv0
  rw [q1] at e1 ⊢
  rw [q2] at e2 ⊢
  generalize (HM.walk v r1 0 HM.zero).1 = h at *
  generalize 0 + r1.length = i at *
  obtain ⟨lx, p1⟩ := walk_one e1
  rw [p1] at e1 ⊢
  obtain ⟨ly1, p2⟩ := walk_one e1
  rw [p2] at e1 ⊢
  obtain ⟨ly, p3⟩ := walk_one e2
  rw [p3] at e2 ⊢
  obtain ⟨lx1, p4⟩ := walk_one e2
  rw [p4] at e2 ⊢
  have s := sim_exch lo nx ny dis (HM.lets_ok lx wx) (HM.lets_ok ly1 wy) (HM.lets_ok ly wy) (HM.lets_ok lx1 wx)
  have := (walk_sim (i := i + 1 + 1) (i' := i + 1 + 1) w2 s ((lo.act lx wx).act ly1 wy) ((lo.act ly wy).act lx1 wx) ((iv.act lx wx).act ly1 wy) ((iv.act ly wy).act lx1 wx) e1).2
  rw [re_id] at this
  exact this
theorem run_dbl {c : Nat} (w1 : ∀ z ∈ r1, deedWf z) (w2 : ∀ z ∈ r2, deedWf z) (e1 : (HM.walk v (r1 ++ .ch c :: r2) 0 HM.zero).2 = none) :
    (HM.walk v (r1 ++ .ch c :: .ch c :: r2) 0 HM.zero).2 = none ∧ Sim id (HM.walk v (r1 ++ .ch c :: r2) 0 HM.zero).1 (HM.walk v (r1 ++ .ch c :: .ch c :: r2) 0 HM.zero).1 := by
  obtain ⟨a1, q1⟩ := walk_split e1
  have q2 := walk_join (s := .ch c :: .ch c :: r2) a1
  have lo := walk_low w1 low0 a1
  have iv := walk_inv (w := v) (i := 0) w1 HM.inv0
  rw [q1] at e1 ⊢
  rw [q2]
  generalize (HM.walk v r1 0 HM.zero).1 = h at *
  generalize 0 + r1.length = i at *
  obtain ⟨lx, p1⟩ := walk_one e1
  rw [p1] at e1 ⊢
  have s := sim_dbl lo (HM.lets_ok lx trivial : c ∈ h.ks)
  have hck : c ∈ h.ks := HM.lets_ok lx trivial
  have lx2 : (h.act i (.ch c)).lets v (.ch c) = true := by
    have kk : (h.act i (.ch c)).ks = h.ks := by
      show keysN (kput h.kn c _) = _
      rw [keys_put, if_pos hck]
    show (decide (c ∈ (h.act i (.ch c)).ks) && (!decide (v.kind = "pen") || decide (c = h.pen))) = true
    rw [kk]; exact lx
  rw [HM.walk_cons, if_pos lx, HM.walk_cons, if_pos lx2]
  have := walk_sim (i := i + 1) (i' := i + 1 + 1) w2 s (lo.act lx trivial) ((lo.act lx trivial).act lx2 trivial) (iv.act lx trivial) ((iv.act lx trivial).act lx2 trivial) e1
  rw [re_id] at this
  exact this
theorem run_det {c : Nat} (w1 : ∀ z ∈ r1, deedWf z) (w2 : ∀ z ∈ r2, deedWf z) (e1 : (HM.walk v (r1 ++ r2) 0 HM.zero).2 = none) (lf : (HM.walk v r1 0 HM.zero).1.lets v (.fk c) = true) :
    (HM.walk v (r1 ++ .fk c :: .jn c ((HM.walk v r1 0 HM.zero).1.forks + 1) :: r2.map (Deed.re (shf ((HM.walk v r1 0 HM.zero).1.forks + 1)))) 0 HM.zero).2 = none ∧
    Sim (shf ((HM.walk v r1 0 HM.zero).1.forks + 1)) (HM.walk v (r1 ++ r2) 0 HM.zero).1 (HM.walk v (r1 ++ .fk c :: .jn c ((HM.walk v r1 0 HM.zero).1.forks + 1) :: r2.map (Deed.re (shf ((HM.walk v r1 0 HM.zero).1.forks + 1)))) 0 HM.zero).1 := by
  obtain ⟨a1, q1⟩ := walk_split e1
  have q2 := walk_join (s := .fk c :: .jn c ((HM.walk v r1 0 HM.zero).1.forks + 1) :: r2.map (Deed.re (shf ((HM.walk v r1 0 HM.zero).1.forks + 1)))) a1
  have lo := walk_low w1 low0 a1
  have iv := walk_inv (w := v) (i := 0) w1 HM.inv0
  rw [q1] at e1 ⊢
  rw [q2]
  generalize (HM.walk v r1 0 HM.zero).1 = h at *
  generalize 0 + r1.length = i at *
  obtain ⟨lj, s⟩ := sim_det lo iv lf
  have hc : c ∈ h.ks := HM.lets_ok lf trivial
  have wj : deedWf (.jn c (h.forks + 1)) := fun e => by
    have := iv.le _ hc
    omega
  rw [HM.walk_cons, if_pos lf, HM.walk_cons, if_pos lj]
  exact walk_sim (i := i) (i' := i + 1 + 1) w2 s lo ((lo.act lf trivial).act lj wj) iv ((iv.act lf trivial).act lj wj) e1
end
end Dy
namespace Dy
open PySem PySem.Spec PyProof.Rows L2
/-- two lists of the store of like data are like -/
theorem o_eqRR {S : Store} {Q : QD} {neg : Bool} {xs : List D} {n m k : Nat} (e1 : S[n]? = some (.lst xs)) (e2 : S[m]? = some (.lst xs)) (h : okD k (.tup xs) = true) (hn : k ≤ 60) (q : Q (.bl (neg ^^ true)) S) : dEqN neg (.ref n) (.ref m) S Q := by
  obtain ⟨p, e, hd, hp⟩ := py_ok k _ h
  rw [pyD] at e
  obtain ⟨ps, ep, rfl⟩ := Option.map_eq_some_iff.mp e
  have q1 : ∀ a : Nat, S[a]? = some (.lst xs) → pyS S (.ref a) = some (.list ps) := fun a ea => by
    show (match S[a]? with | some (.lst xs) => (pyDs xs).map PyData.list | _ => none) = _
    rw [ea]
    show (pyDs xs).map PyData.list = _
    rw [ep]; rfl
  show ∃ d e, pyS S (.ref n) = some d ∧ pyS S (.ref m) = some e ∧ min d.depth e.depth ≤ 60 ∧ Q (.bl (neg ^^ PyData.eqv d e)) S
  have pl : (PyData.list ps).plain = true := hp
  have dl : (PyData.list ps).depth ≤ k := hd
  exact ⟨_, _, q1 n e1, q1 m e2, by omega, by rw [PySem.SeqAt.eqv_refl_plain _ pl]; exact q⟩
/-- items told by a function, a test told by a function; the items change the store -/
theorem o_lcGR {ρ : Rho} {S : Store} {Q : QD} {tt : DTT} {te : DTE} {i : Nat} {xs : List D} {live : Store → Prop} (R : Store → Prop) (f : D → D) (p : D → Bool) (hl : ∀ S', R S' → live S') (h0 : R S) (hz : xs.length ≤ sizeLine)
    (ht : ∀ x ∈ xs, ∀ S', R S' → ∀ P : Bool → Store → Prop, P (p x) S' → tt (ρ.set i (some x)) S' P noX) (he : ∀ x ∈ xs, p x = true → ∀ S', R S' → ∀ P : QD, (∀ S2, R S2 → P (f x) S2) → te (ρ.set i (some x)) S' P noX)
    (h : ∀ S', R S' → Q (.lst ((xs.filter p).map f)) S') : dLcK (c1 i) tt te ρ Q xs live S := by
  refine ⟨fun k acc S' => R S' ∧ acc = ((xs.take k).filter p).map f, ⟨h0, by simp⟩, fun k acc S' _ hh => hl S' hh.1, fun k x acc S' hx hh => ?_, fun acc S' hh => ?_⟩
  · obtain ⟨hR, ea⟩ := hh
    subst ea
    have m := List.mem_of_getElem? hx
    refine ht x m S' hR _ ?_
    have st : xs.take (k + 1) = xs.take k ++ [x] := by rw [List.take_succ, hx]; rfl
    cases e : p x with
    | false =>
      rw [if_neg Bool.false_ne_true]
      refine ⟨hR, ?_⟩
      rw [st, List.filter_append]
      simp [e]
    | true =>
      rw [if_pos rfl]
      refine he x m e S' hR _ fun S2 R2 => ⟨?_, R2, ?_⟩
      · have h1 : k < xs.length := (List.getElem?_eq_some_iff.mp hx).1
        have h2 := List.length_filter_le p (xs.take k)
        rw [List.length_take] at h2
        rw [List.length_map]
        omega
      · rw [st, List.filter_append]
        simp [e]
  · obtain ⟨hR, ea⟩ := hh
    subst ea
    rw [List.take_length]
    exact h S' hR
end Dy
/-! texts -/
namespace Dy
open PySem PySem.Spec PyProof.Rows L2
section
variable {K : PySem.W.Frag} {φ : Al} {H : Hp} {S : Store}
theorem strs_inv : ∀ {ys : List Str} {vs : List V}, RDs K φ H (ys.map D.str) vs → vs = ys.map V.str
  | [], vs, h => by rw [List.map_nil, RDs] at h; rw [h]; rfl
  | y :: ys, vs, h => by
    rw [List.map_cons, RDs] at h
    obtain ⟨v, r, rfl, h1, h2⟩ := h
    rw [RD] at h1
    rw [h1, strs_inv h2]; rfl
theorem strs_rd : ∀ {ys : List Str}, RDs K φ H (ys.map D.str) (ys.map V.str)
  | [] => RDs.nil
  | y :: ys => .cons rd_str strs_rd
end
section
variable {F : Fam} {W : WX} {o e i a b : Expr} {es : List Expr} {to te ti ta tb : DTE} {t : DTA} {pos apos p : Pos}
/-! ### methods of texts, one argument -/
def dSM1 (r : DM) (to te : DTE) : DTE := fun ρ S Q E => to ρ S (fun o S1 => (∃ a, o = .str a) ∧ te ρ S1 (fun d S2 => r o [d] S2 Q) E) E
theorem de_sm1 {id : String} {name : Str} {r : V → List V → Hp → VK → Prop} {r' : DM} (slot : Slot "str" name id) (ty : typeOf (.builtin id) = pure (.type "method_descriptor")) (rule : ∀ i, MtR (F.X i) id r) (lk : LkM F.K r' r) (ho : DE F W o to) (he : DE F W e te)
    (hs : ∀ i, starEach [e] (F.X i).env = [(false, eval e (F.X i).env)] := by intro _; rfl) (hbase : ∀ i, attributeBase o name (F.X i).env (eval o (F.X i).env) = eval o (F.X i).env := by intro _; rfl) (hline : (apos.endLine == pos.line) = true := by rfl) :
    DE F W (.Call (.Attribute o name apos) [e] [] pos) (dSM1 r' to te) := by
  obtain ⟨t1, p1, k1⟩ := ho
  obtain ⟨t2, p2, k2⟩ := he
  refine ⟨_, fun i => pe_m1 slot ty (rule i) (p1 i) (p2 i) (hs i) (hbase i) hline, fun σ ρ φ S H E Q' Q o q h => ?_⟩
  refine k1 σ ρ φ S H E _ _ o (fun φ1 H1 S1 d v s1 r1 rd h1 => ?_) h
  obtain ⟨⟨a, rfl⟩, h1⟩ := h1
  have ev : v = .str a := by rw [RD] at rd; exact rd
  subst ev
  refine ⟨⟨a, rfl⟩, k2 σ ρ φ1 S1 H1 E _ _ (o.mono s1 r1) (fun φ2 H2 S2 d2 v2 s2 r2 rd2 h2 => ?_) h1⟩
  exact lk φ2 S2 H2 _ _ _ _ _ _ r2 rd_str (.cons rd2 .nil) (q.mono (s1.trans s2)) h2
def mJoin : DM := fun o ds S Q => ∃ a d ys, o = .str a ∧ ds = [d] ∧ sqOf S d = some (ys.map D.str) ∧ (ys.map (·.length)).sum + ys.length * a.length ≤ 16777216 ∧ Q (.str (Txt.join a ys)) S
def rJoin (K : PySem.W.Frag) : V → List V → Hp → VK → Prop := fun x xs H Q => ∃ a p, ∃ ys : List Str, x = .str a ∧ xs = [.ref p] ∧ (SqL K H p (ys.map V.str) ∨ SqT K H p (ys.map V.str)) ∧
    (ys.map (·.length)).sum + ys.length * a.length ≤ 16777216 ∧ Q (.str (Txt.join a ys)) H
theorem lk_join {K : PySem.W.Frag} : LkM K mJoin (rJoin K) := by
  rintro φ S H Q' Q d v ds vs r rd rds q ⟨a, d1, ys, rfl, rfl, e, hz, h⟩
  have ev : v = .str a := by rw [RD] at rd; exact rd
  subst ev
  obtain ⟨u, rfl, ru⟩ := rds1 rds
  obtain ⟨p, us, rfl, h1, h2⟩ := sq_of r ru e
  have eu := strs_inv h2
  subst eu
  exact ⟨a, p, ys, rfl, rfl, h1, hz, q φ H S _ _ .refl r rd_str h⟩
theorem de_join (ho : DE F W o to) (he : DE F W e te) (hs : ∀ i, starEach [e] (F.X i).env = [(false, eval e (F.X i).env)] := by intro _; rfl) (hbase : ∀ i, attributeBase o "join" (F.X i).env (eval o (F.X i).env) = eval o (F.X i).env := by intro _; rfl) (hline : (apos.endLine == pos.line) = true := by rfl) :
    DE F W (.Call (.Attribute o "join" apos) [e] [] pos) (dSM1 mJoin to te) := de_sm1 PySem.F.slot_str_join PySem.F.type_str_join (fun i => F.hK i ▸ mt_join) lk_join ho he hs hbase hline
def mSplit : DM := fun o ds S Q => ∃ a b, o = .str a ∧ ds = [.str b] ∧ (b.length == 0) = false ∧ a.length + 2 ≤ sizeLine ∧ Q (.lst ((Txt.split a b).map .str)) S
def rSplit : V → List V → Hp → VK → Prop := fun x xs H Q => ∃ a b, x = .str a ∧ xs = [.str b] ∧ (b.length == 0) = false ∧ a.length + 2 ≤ sizeLine ∧ rNewStrs (Txt.split a b) H Q
theorem lk_split {K : PySem.W.Frag} : LkM K mSplit rSplit := by
  rintro φ S H Q' Q d v ds vs r rd rds q ⟨a, b, rfl, rfl, hb, hz, h⟩
  have ev : v = .str a := by rw [RD] at rd; exact rd
  subst ev
  obtain ⟨u, rfl, ru⟩ := rds1 rds
  have eu : u = .str b := by rw [RD] at ru; exact ru
  subst eu
  exact ⟨a, b, rfl, rfl, hb, hz, fun p hp => q.lst r hp strs_rd h⟩
theorem de_split (ho : DE F W o to) (he : DE F W e te) (hs : ∀ i, starEach [e] (F.X i).env = [(false, eval e (F.X i).env)] := by intro _; rfl) (hbase : ∀ i, attributeBase o "split" (F.X i).env (eval o (F.X i).env) = eval o (F.X i).env := by intro _; rfl) (hline : (apos.endLine == pos.line) = true := by rfl) :
    DE F W (.Call (.Attribute o "split" apos) [e] [] pos) (dSM1 mSplit to te) := de_sm1 PySem.F.slot_str_split PySem.F.type_str_split (fun _ => mt_split) lk_split ho he hs hbase hline
/-! ### slices, signs -/
def dSlS : D → Option Int → Option Int → Store → QD → Prop := fun x lo hi S Q => ∃ z, x = .str z ∧ z.length ≤ sizeLine ∧ Q (.str (cutS z lo hi)) S
theorem de_slS {l u : Option Expr} {tl th : DTO} {p2 : Pos} (he : DE F W e te) (hl : DO F W l tl) (hu : DO F W u th) : DE F W (.Subscript e (.Slice l u none p2) pos) (dSl dSlS te tl th) := by
  refine de_sl (fun i => sl_str) ?_ he hl hu
  rintro φ S H Q' Q d v lo hi r rd q ⟨z, rfl, hz, h⟩
  have ev : v = .str z := by rw [RD] at rd; exact rd
  subst ev
  exact ⟨z, rfl, hz, q φ H S _ _ .refl r rd_str h⟩
def dAtS : D2 := fun x y S Q => ∃ z i c, x = .str z ∧ y = .int i ∧ 0 ≤ i ∧ i < 2 ^ 63 ∧ i < z.length ∧ z.cps[i.toNat]? = some c ∧ Q (.str ⟨#[c]⟩) S
theorem de_atS (ha : DE F W a ta) (hb : DE F W b tb) (hs : PlainIxT b := by exact fun _ _ => rfl) : DE F W (.Subscript a b pos) (dOp dAtS ta tb) := by
  refine de_two (f := tOp (fun x y H Q => ∃ z i c, x = .str z ∧ y = .int i ∧ 0 ≤ i ∧ i < 2 ^ 63 ∧ i < z.length ∧ z.cps[i.toNat]? = some c ∧ Q (.str ⟨#[c]⟩) H)) (fun _ _ => rfl) ha hb (fun i t1 t2 p1 p2 => pe_item_str p1 p2 hs) ?_
  rintro φ S H Q' Q d1 d2 v1 v2 r rd1 rd2 q ⟨z, i, c, rfl, rfl, h1, h2, h3, h4, h⟩
  have e1 : v1 = .str z := by rw [RD] at rd1; exact rd1
  have e2 : v2 = .int i := by rw [RD] at rd2; exact rd2
  subst e1 e2
  exact ⟨z, i, c, rfl, rfl, h1, h2, h3, h4, q φ H S _ _ .refl r rd_str h⟩
def dInStr (neg : Bool) : D2 := fun x y S Q => ∃ (c : Nat) (z : Str), x = .str ⟨#[c]⟩ ∧ y = .str z ∧ Q (.bl (neg ^^ decide (c ∈ z.cps.toList))) S
theorem lk_inStr {K : PySem.W.Frag} : Lk K (dInStr false) rInS := by
  rintro φ S H Q' Q d1 d2 v1 v2 r rd1 rd2 q ⟨c, z, rfl, rfl, h⟩
  have e1 : v1 = .str ⟨#[c]⟩ := by rw [RD] at rd1; exact rd1
  have e2 : v2 = .str z := by rw [RD] at rd2; exact rd2
  subst e1 e2
  rw [Bool.false_xor] at h
  exact ⟨c, z, rfl, rfl, q φ H S _ _ .refl r rd_bl h⟩
/-! ### walking a text -/
def jStr (te : DTE) : DTI := fun ρ S R E => te ρ S (fun d S1 => ∃ z : Str, d = .str z ∧ R (z.cps.toList.map fun c => D.str ⟨#[c]⟩) (fun _ => True) S1) E
theorem walk_strD {K : PySem.W.Frag} {z : Str} {φ : Al} {H : Hp} : WalkD K (Its z) (z.cps.toList.map fun c => D.str ⟨#[c]⟩) (fun _ => True) φ H := fun φ2 H2 S2 i s r _ =>
  ⟨fun hi => by
    rw [List.length_map, Array.length_toList] at hi
    show z.cps.size ≤ i
    omega, fun hi => by
    rw [List.length_map, Array.length_toList] at hi
    refine ⟨hi, fun v H3 hy => ?_⟩
    obtain ⟨rfl, c, hc, rfl⟩ := hy
    refine ⟨.str ⟨#[c]⟩, ?_, .refl, r, rd_str⟩
    rw [List.getElem?_map, Array.getElem?_toList, hc]; rfl⟩
theorem di_str {tg : Expr} (he : DE F W e te) : DI F W tg e (jStr te) := by
  obtain ⟨t1, p1, k1⟩ := he
  refine ⟨_, fun i => pi_str (p1 i), fun σ ρ φ S H E R' R o q h => ?_⟩
  refine k1 σ ρ φ S H E _ _ o (fun φ1 H1 S1 d v s1 r1 rd h1 => ?_) h
  obtain ⟨z, rfl, h1⟩ := h1
  have ev : v = .str z := by rw [RD] at rd; exact rd
  subst ev
  exact ⟨z, rfl, q φ1 H1 S1 _ _ _ s1 r1 walk_strD h1⟩
/-! ### len, int, str -/
def cLenS : DR := fun ds S Q => ∃ z, ds = [.str z] ∧ z.length ≤ sizeLine ∧ Q (.int z.length) S
theorem lk_lenS {K : PySem.W.Frag} : LkC K cLenS (fun xs H Q => ∃ z, xs = [.str z] ∧ z.length ≤ sizeLine ∧ Q (.int z.length) H) := by
  rintro φ S H Q' Q ds vs r rd q ⟨z, rfl, hz, h⟩
  obtain ⟨u, rfl, ru⟩ := rds1 rd
  have eu : u = .str z := by rw [RD] at ru; exact ru
  subst eu
  exact ⟨z, rfl, hz, q φ H S _ _ .refl r rd_int h⟩
def cIntS : DR := fun ds S Q => ∃ a n, ds = [.str a] ∧ PySem.intText? a = some n ∧ a.length ≤ 640 ∧ Q (.int n) S
theorem lk_intS {K : PySem.W.Frag} : LkC K cIntS (fun xs H Q => ∃ a n, xs = [.str a] ∧ PySem.intText? a = some n ∧ a.length ≤ 640 ∧ Q (.int n) H) := by
  rintro φ S H Q' Q ds vs r rd q ⟨z, n, rfl, h1, hz, h⟩
  obtain ⟨u, rfl, ru⟩ := rds1 rd
  have eu : u = .str z := by rw [RD] at ru; exact ru
  subst eu
  exact ⟨z, n, rfl, h1, hz, q φ H S _ _ .refl r rd_int h⟩
/-- str(i), str(s) -/
def cStr : DR := fun ds S Q => (∃ i : Int, ds = [.int i] ∧ i.natAbs.log2 < 1920 ∧ Q (.str (toString i)) S) ∨ ∃ a, ds = [.str a] ∧ Q (.str a) S
theorem lk_str {K : PySem.W.Frag} : LkC K cStr (fun xs H Q => (∃ i : Int, xs = [.int i] ∧ i.natAbs.log2 < 1920 ∧ Q (.str (toString i)) H) ∨ ∃ a, xs = [.str a] ∧ Q (.str a) H) := by
  rintro φ S H Q' Q ds vs r rd q (⟨i, rfl, h1, h⟩ | ⟨a, rfl, h⟩)
  · obtain ⟨u, rfl, ru⟩ := rds1 rd
    have eu : u = .int i := by rw [RD] at ru; exact ru
    subst eu
    exact .inl ⟨i, rfl, h1, q φ H S _ _ .refl r rd_str h⟩
  · obtain ⟨u, rfl, ru⟩ := rds1 rd
    have eu : u = .str a := by rw [RD] at ru; exact ru
    subst eu
    exact .inr ⟨a, rfl, q φ H S _ _ .refl r rd_str h⟩
theorem call_strX {X : Cx} : CallR X (.type "str") (fun xs H Q => (∃ i : Int, xs = [.int i] ∧ i.natAbs.log2 < 1920 ∧ Q (.str (toString i)) H) ∨ ∃ a, xs = [.str a] ∧ Q (.str a) H) := by
  intro pins s σ H xs us Q I r h
  rcases h with h | h
  · exact call_str_int pins s σ H xs us Q I r h
  · obtain ⟨a, rfl, q⟩ := h
    obtain ⟨u, rfl, ⟨t, rfl⟩⟩ := vals1 r
    exact PySem.P.str_of_str ⟨.str a, H, I, ⟨t, rfl⟩, q⟩
/-! ### (x, *ys) -/
def dStar (te : DTE) (t : DTA) : DTA := fun ρ S Q E => te ρ S (fun d S1 => ∃ xs, sqOf S1 d = some xs ∧ t ρ S1 (fun ds S2 => Q (xs ++ ds) S2) E) E
theorem da_star (he : DE F W e te) (hr : DA F W es t) (hs : ∀ i, starEach (.Starred e p :: es) (F.X i).env = (true, eval e (F.X i).env) :: starEach es (F.X i).env := by intro _; rfl) : DA F W (.Starred e p :: es) (dStar te t) := by
  obtain ⟨t1, p1, k1⟩ := he
  obtain ⟨t2, p2, k2⟩ := hr
  refine ⟨_, fun i => F.hK i ▸ StX.pa_star (p1 i) (p2 i) (hs i), fun σ ρ φ S H E Q' Q o q h => ?_⟩
  refine k1 σ ρ φ S H E _ _ o (fun φ1 H1 S1 d v s1 r1 rd h1 => ?_) h
  obtain ⟨xs, e1, h1⟩ := h1
  obtain ⟨a, vs, rfl, hq, rs⟩ := sq_of r1 rd e1
  refine ⟨a, vs, rfl, hq.symm, k2 σ ρ φ1 S1 H1 E _ _ (o.mono s1 r1) (fun φ2 H2 S2 ds us s2 r2 rd2 h2 => ?_) h1⟩
  exact q φ2 H2 S2 _ _ (s1.trans s2) r2 (RDs.append (RDs.mono s2 r1.muts _ _ rs) rd2) h2
/-! ### xs[::-1] -/
def dRevL (te : DTE) : DTE := fun ρ S Q E => te ρ S (fun d S1 => ∃ xs, lsOf S1 d = some xs ∧ Q (.lst xs.reverse) S1) E
theorem RDs.reverse {K : PySem.W.Frag} {φ : Al} {H : Hp} : ∀ {xs : List D} {vs : List V}, RDs K φ H xs vs → RDs K φ H xs.reverse vs.reverse
  | [], vs, h => by rw [RDs] at h; subst h; exact RDs.nil
  | x :: xs, vs, h => by
    rw [RDs] at h
    obtain ⟨v, r, rfl, h1, h2⟩ := h
    rw [List.reverse_cons, List.reverse_cons]
    exact RDs.append (RDs.reverse h2) (.cons h1 .nil)
theorem de_revL {k : Nat} {p1 p2 p3 : Pos} (he : DE F W e te) : DE F W (.Subscript e (.Slice none none (some (.UnaryOp .USub (.Constant (.int 1) k p1) p2)) p3) pos) (dRevL te) := by
  obtain ⟨t1, p1, k1⟩ := he
  refine ⟨_, fun i => F.hK i ▸ pe_revL (p1 i), fun σ ρ φ S H E Q' Q o q h => ?_⟩
  refine k1 σ ρ φ S H E _ _ o (fun φ1 H1 S1 d v s1 r1 rd h1 => ?_) h
  obtain ⟨xs, e1, h1⟩ := h1
  obtain ⟨a, vs, rfl, hq, rs⟩ := ls_of r1 rd e1
  exact ⟨a, vs, rfl, hq, fun p hp => (q.mono s1).lst r1 hp rs.reverse h1⟩
end
section
variable {F : Fam} {W : WX} {e e2 : Expr} {te : DTE} {t : DTA} {p pos pos2 : Pos}
theorem dc_lenS (hm : ∀ i, (F.X i).mg "len" = none) (ha : DA F W [e] t) (hg : ∀ i, Gl (F.X i) "len" := by intro _; rfl) (he : St1 F e [] := by intro _; rfl) (hp : Pl1 F pos [] := by intro _; rfl) : DE F W (.Call (.Name "len" p) [e] [] pos) (dCB cLenS t) := de_callB (fun i => call_len_str) lk_lenS hg hm bt_len ha (he := he) (hpl := hp)
theorem dc_intS (hm : ∀ i, (F.X i).mg "int" = none) (ha : DA F W [e] t) (hg : ∀ i, Gl (F.X i) "int" := by intro _; rfl) (he : St1 F e [] := by intro _; rfl) (hp : Pl1 F pos [] := by intro _; rfl) : DE F W (.Call (.Name "int" p) [e] [] pos) (dCB cIntS t) := de_callTy (fun i => call_int_str) lk_intS hg hm bt_int ha (he := he) (hpl := hp)
theorem dc_str (hm : ∀ i, (F.X i).mg "str" = none) (ha : DA F W [e] t) (hg : ∀ i, Gl (F.X i) "str" := by intro _; rfl) (he : St1 F e [] := by intro _; rfl) (hp : Pl1 F pos [] := by intro _; rfl) : DE F W (.Call (.Name "str" p) [e] [] pos) (dCB cStr t) := de_callTy (fun i => call_strX) lk_str hg hm bt_str ha (he := he) (hpl := hp)
/-! ### isinstance(e, (A, B)) -/
def dIsi2 (A B : String) (te : DTE) : DTE := fun ρ S Q E => te ρ S (fun d S1 => ∃ tag, tagOf S1 d = some tag ∧ Q (.bl (isiT A tag || isiT B tag)) S1) E
theorem de_isi2 {A B : String} {xA xB : Str} {pA pB pT : Pos} {k : Nat} (hA : A ∈ tags) (hB : B ∈ tags) (nA : A ≠ "NoneType") (nB : B ≠ "NoneType") (hm : ∀ i, (F.X i).mg "isinstance" = none) (mA : ∀ i, (F.X i).mg xA = none) (mB : ∀ i, (F.X i).mg xB = none) (bA : bootBuiltins xA = some (.type A)) (bB : bootBuiltins xB = some (.type B)) (h0 : DE F W e te)
    (hg : ∀ i, Gl (F.X i) "isinstance" := by intro _; rfl) (gA : ∀ i, Gl (F.X i) xA := by intro _; rfl) (gB : ∀ i, Gl (F.X i) xB := by intro _; rfl) (qA : xA ≠ "__name__" := by decide) (qB : xB ≠ "__name__" := by decide) (dA : (xA == ("__debug__" : Str)) = false := by decide) (dB : (xB == ("__debug__" : Str)) = false := by decide)
    (he : St1 F e [.Tuple [.Name xA pA, .Name xB pB] k pT] := by intro _; rfl) (hp : Pl1 F pos [.Tuple [.Name xA pA, .Name xB pB] k pT] := by intro _; rfl)
    (h1 : ∀ i, starEach [.Tuple [.Name xA pA, .Name xB pB] k pT] (F.X i).env = (false, eval (.Tuple [.Name xA pA, .Name xB pB] k pT) (F.X i).env) :: starEach [] (F.X i).env := by intro _; rfl)
    (h2 : ∀ i, starEach [.Name xA pA, .Name xB pB] (F.X i).env = (false, eval (.Name xA pA) (F.X i).env) :: starEach [.Name xB pB] (F.X i).env := by intro _; rfl)
    (h3 : ∀ i, starEach [.Name xB pB] (F.X i).env = (false, eval (.Name xB pB) (F.X i).env) :: starEach [] (F.X i).env := by intro _; rfl) :
    DE F W (.Call (.Name "isinstance" p) [e, .Tuple [.Name xA pA, .Name xB pB] k pT] [] pos) (dIsi2 A B te) := by
  obtain ⟨t1, p1, k1⟩ := h0
  refine ⟨_, fun i => F.hK i ▸ pe_callB (call_isiT) (hg i) (hm i) bt_isinstance (pa_cons (p1 i) (pa_cons (pe_tup (pa_cons (pe_bltn (gA i) (mA i) bA (v := .ty A) rfl qA dA) (pa_cons (pe_bltn (gB i) (mB i) bB (v := .ty B) rfl qB dB) pa_nil (h3 i)) (h2 i))) pa_nil (h1 i)) (he i)) (by decide) (by decide) (he i) (hp i), fun σ ρ φ S H E Q' Q o q h => ?_⟩
  refine k1 σ ρ φ S H E _ _ o (fun φ1 H1 S1 d v s1 r1 rd h1 => ?_) h
  obtain ⟨tag, e1, h1⟩ := h1
  refine ⟨by show 2 ≤ sizeLine; decide, fun a ha => ?_⟩
  have st : Step φ1 φ1 H1 (upd H1 a (.tup [.ty A, .ty B])) := step_new ha
  have r2 := r1.new (ho := .tup [.ty A, .ty B]) ha
  obtain ⟨ty, ht⟩ := tag_ty r2 (RD.mono st r1.muts _ _ rd) e1
  have kA := kit_ty (K := F.K) (kit_tags tag ht A hA nA)
  have kB := kit_ty (K := F.K) (kit_tags tag ht B hB nB)
  refine ⟨v, a, [.ty A, .ty B], _, [.type A, .type B], isiT A tag || isiT B tag, rfl, upd_same, .cons (.ty A) (.cons (.ty B) .nil), ty, ?_, q.mono s1 φ1 _ S1 _ _ st r2 rd_bl h1⟩
  refine kitAny_cons kA (fun z => kitAny_cons kB (fun z2 => ?_) fun z2 => ?_) fun z => ?_
  · rw [z, z2]; exact kitAny_nil
  · rw [z2]; simp
  · rw [z]; rfl
end
/-! ### reading on -/
section
variable {ρ : Rho} {S : Store} {Q : QD} {E : XQ} {to te : DTE} {t : DTA} {d : D} {QA : List D → Store → Prop}
theorem c_sm1 {r : DM} (h : to ρ S (fun o S1 => (∃ a, o = .str a) ∧ te ρ S1 (fun d S2 => r o [d] S2 Q) E) E) : dSM1 r to te ρ S Q E := h
theorem o_strE {a : Str} {B : Prop} (h : B) : (∃ b, D.str a = .str b) ∧ B := ⟨⟨a, rfl⟩, h⟩
theorem o_join {a : Str} {ys : List Str} (e : sqOf S d = some (ys.map D.str)) (hz : (ys.map (·.length)).sum + ys.length * a.length ≤ 16777216) (h : Q (.str (Txt.join a ys)) S) : mJoin (.str a) [d] S Q := ⟨a, d, ys, rfl, rfl, e, hz, h⟩
theorem o_split {a b : Str} (hb : (b.length == 0) = false) (hz : a.length + 2 ≤ sizeLine) (h : Q (.lst ((Txt.split a b).map .str)) S) : mSplit (.str a) [.str b] S Q := ⟨a, b, rfl, rfl, hb, hz, h⟩
theorem o_slS {z : Str} {lo hi : Option Int} (hz : z.length ≤ sizeLine) (h : Q (.str (cutS z lo hi)) S) : dSlS (.str z) lo hi S Q := ⟨z, rfl, hz, h⟩
theorem o_atS {z : Str} {c : Nat} {r : List Nat} (e : z.cps.toList = c :: r) (h : Q (.str ⟨#[c]⟩) S) : dAtS (.str z) (.int 0) S Q := by
  have h0 : 0 < z.cps.size := by rw [← Array.length_toList, e]; simp
  refine ⟨z, 0, c, rfl, rfl, by decide, by decide, by show (0 : Int) < (z.cps.size : Nat); omega, ?_, h⟩
  show z.cps[0]? = some c
  rw [← Array.getElem?_toList, e]; rfl
theorem o_inStr {c : Nat} {z : Str} {neg : Bool} (h : Q (.bl (neg ^^ decide (c ∈ z.cps.toList))) S) : dInStr neg (.str ⟨#[c]⟩) (.str z) S Q := ⟨c, z, rfl, rfl, h⟩
theorem s_str {R : List D → (Store → Prop) → Store → Prop} (h : te ρ S (fun d S1 => ∃ z : Str, d = .str z ∧ R (z.cps.toList.map fun c => D.str ⟨#[c]⟩) (fun _ => True) S1) E) : jStr te ρ S R E := h
theorem o_strI {P : Str → Prop} {a : Str} (h : P a) : ∃ z : Str, D.str a = .str z ∧ P z := ⟨a, rfl, h⟩
theorem o_lenS {z : Str} (hz : z.length ≤ sizeLine) (h : Q (.int z.length) S) : cLenS [.str z] S Q := ⟨z, rfl, hz, h⟩
theorem o_intS {a : Str} {n : Int} (e : PySem.intText? a = some n) (hz : a.length ≤ 640) (h : Q (.int n) S) : cIntS [.str a] S Q := ⟨a, n, rfl, e, hz, h⟩
theorem o_strN {i : Int} (hz : i.natAbs.log2 < 1920) (h : Q (.str (toString i)) S) : cStr [.int i] S Q := .inl ⟨i, rfl, hz, h⟩
theorem o_strS {a : Str} (h : Q (.str a) S) : cStr [.str a] S Q := .inr ⟨a, rfl, h⟩
theorem c_star (h : te ρ S (fun d S1 => ∃ xs, sqOf S1 d = some xs ∧ t ρ S1 (fun ds S2 => QA (xs ++ ds) S2) E) E) : dStar te t ρ S QA E := h
theorem c_revL (h : te ρ S (fun d S1 => ∃ xs, lsOf S1 d = some xs ∧ Q (.lst xs.reverse) S1) E) : dRevL te ρ S Q E := h
theorem c_isi2 {A B : String} (h : te ρ S (fun d S1 => ∃ tag, tagOf S1 d = some tag ∧ Q (.bl (isiT A tag || isiT B tag)) S1) E) : dIsi2 A B te ρ S Q E := h
theorem o_tagP {P : String → Prop} (c : plainD d = true) (h : P (tagD d)) : ∃ tag, tagOf S d = some tag ∧ P tag := ⟨_, tag_plain c, h⟩
theorem o_lsE {xs : List D} {P : List D → Prop} (e : lsOf S d = some xs) (h : P xs) : ∃ ys, lsOf S d = some ys ∧ P ys := ⟨xs, e, h⟩
end
/-- a list so many times: a new one of the store -/
def dRepLN : D2 := fun x y S Q => ∃ xs k, lsM S x = some xs ∧ y = .int k ∧ 0 ≤ k ∧ k ≤ 1000 ∧ xs.length ≤ 100 ∧ Q (.ref S.length) (S ++ [.lst (List.replicate k.toNat xs).flatten])
theorem lk_repLN {K : PySem.W.Frag} : Lk K dRepLN rRep := by
  rintro φ S H Q' Q d1 d2 v1 v2 r r1 r2 q ⟨xs, k, e1, rfl, c1, c2, c3, h⟩
  obtain ⟨a, vs, rfl, h1, h2⟩ := ls_m r r1 e1
  rw [RD] at r2
  subst r2
  refine ⟨a, k, vs, rfl, rfl, h1, by omega, by omega, ?_, fun p hp => q.newL r hp (h2.rep _) h⟩
  rw [h2.length]
  refine small (Nat.le_trans (Nat.mul_le_mul c3 (show k.toNat ≤ 1000 by omega)) (by decide))
theorem de_repLN {F : Fam} {W : WX} {a b : Expr} {pos : Pos} {ta tb : DTE} (ha : DE F W a ta) (hb : DE F W b tb) : DE F W (.BinOp a .Mult b pos) (dOp dRepLN ta tb) := de_op (fun _ => op_rep) lk_repLN ha hb
theorem o_repLN {S : Store} {Q : QD} {x : D} {k : Int} {xs : List D} (e : lsM S x = some xs) (h0 : 0 ≤ k) (h1 : k ≤ 1000) (hz : xs.length ≤ 100) (h : Q (.ref S.length) (S ++ [.lst (List.replicate k.toNat xs).flatten])) : dRepLN x (.int k) S Q := ⟨xs, k, e, rfl, h0, h1, hz, h⟩
theorem ds_no {F : Fam} {W : WX} {st : Stmt} : DS F W st (fun _ _ _ => False) := ⟨fun _ _ _ => False, fun i => ⟨fun pins s σ H D I h => h.elim⟩, fun _ _ _ _ _ _ _ _ _ _ h => h.elim⟩
end Dy
/-! numbers, lines, runs in texts: by plain data -/
namespace Dy
open PySem PySem.Spec PyProof.Rows L2 TL
theorem mem_digs {c : Nat} : c ∈ ("0123456789" : Str).cps.toList ↔ 48 ≤ c ∧ c ≤ 57 := by
  have e : ("0123456789" : Str).cps.toList = [48, 49, 50, 51, 52, 53, 54, 55, 56, 57] := tl_ofString "0123456789"
  rw [e]
  simp only [List.mem_cons, List.not_mem_nil, or_false]
  omega
def isNum (z : Str) : Bool := (decide (1 ≤ z.length ∧ z.length ≤ 9) && z.cps.toList.all fun c => decide (48 ≤ c ∧ c ≤ 57)) && !(decide (z.cps.toList.head? = some 48) && decide (1 < z.length))
def figOf (z : Str) : Option Nat := if isNum z = true then some (NumText.digitsVal z.cps.toList) else none
def optD : Option Nat → D
  | none => .non
  | some i => natD i
def strN (n : Nat) : Str := Str.ofString (toString (n : Int))
theorem tl_strN (n : Nat) : (strN n).cps.toList = numL n := tl_num n
theorem fold_lt : ∀ (l : List Nat) (a : Nat), NumText.AllDigits l → l.foldl (fun acc c => acc * 10 + (c - 48)) a < (a + 1) * 10 ^ l.length
  | [], a, _ => by simp
  | c :: l, a, h => by
    have h2 := h.head
    rw [List.foldl_cons]
    refine Nat.lt_of_lt_of_le (fold_lt l _ h.tail) ?_
    rw [List.length_cons, Nat.pow_succ, Nat.mul_comm (10 ^ l.length) 10, ← Nat.mul_assoc]
    exact Nat.mul_le_mul_right _ (by omega)
theorem digitsVal_lt (l : List Nat) (h : NumText.AllDigits l) : NumText.digitsVal l < 10 ^ l.length := by
  have := fold_lt l 0 h
  rw [Nat.zero_add, Nat.one_mul] at this
  exact this
theorem isNum_iff {z : Str} : isNum z = true ↔ (1 ≤ z.length ∧ z.length ≤ 9) ∧ NumText.AllDigits z.cps.toList ∧ ¬ (z.cps.toList.head? = some 48 ∧ 1 < z.length) := by
  unfold isNum
  rw [Bool.and_eq_true, Bool.and_eq_true, decide_eq_true_eq, List.all_eq_true, Bool.not_eq_true', and_assoc]
  refine and_congr Iff.rfl (and_congr ?_ ?_)
  · exact ⟨fun h c m => of_decide_eq_true (h c m), fun h c m => decide_eq_true (h c m)⟩
  · rw [← Bool.not_eq_true, Bool.and_eq_true, decide_eq_true_eq, decide_eq_true_eq]
theorem figOf_lt {z : Str} {n : Nat} (h : figOf z = some n) : n < 10 ^ 9 := by
  unfold figOf at h
  split at h
  · rename_i e
    obtain ⟨⟨_, h1⟩, h2, _⟩ := isNum_iff.mp e
    cases h
    refine Nat.lt_of_lt_of_le (digitsVal_lt _ h2) (Nat.pow_le_pow_right (by decide) ?_)
    rw [Array.length_toList]; exact h1
  · cases h
theorem numL_head {n : Nat} : 1 ≤ n → (numL n).head? ≠ some 48 := by
  induction n using Nat.strongRecOn with
  | _ n ih =>
    intro hn
    by_cases h : n < 10
    · rw [numL_lt h]
      simp
      omega
    · rw [numL_step (by omega)]
      have := ih (n / 10) (by omega) (by omega)
      cases e : numL (n / 10) with
      | nil => exact absurd e (numL_ne _)
      | cons c r =>
        rw [e] at this
        simpa using this
theorem figOf_num {n : Nat} (h : n < 10 ^ 9) : figOf (strN n) = some n := by
  unfold figOf
  have hl : (strN n).length = (numL n).length := by
    show (strN n).cps.size = _
    rw [← Array.length_toList, tl_strN]
  have h1 : 0 < (numL n).length := List.length_pos_iff.mpr (numL_ne n)
  have h2 := numL_len (n := n) (k := 9) (by decide) h
  rw [if_pos (isNum_iff.mpr ⟨by omega, by rw [tl_strN]; exact numL_digits n, ?_⟩), tl_strN, numL_val]
  rintro ⟨z1, z2⟩
  rw [tl_strN] at z1
  by_cases h0 : 1 ≤ n
  · exact numL_head h0 z1
  · have : n = 0 := by omega
    subst this
    rw [hl] at z2
    revert z2
    decide
theorem int_of_num {z : Str} {n : Nat} (h : figOf z = some n) : intText? z = some (n : Int) ∧ z.length ≤ 640 := by
  unfold figOf at h
  split at h
  · rename_i e
    obtain ⟨⟨h0, h1⟩, h2, _⟩ := isNum_iff.mp e
    cases h
    refine ⟨intText_digits h2 (fun z0 => ?_) (by omega), by omega⟩
    have : z.length = z.cps.toList.length := (Array.length_toList).symm
    rw [z0] at this
    simp at this
    omega
  · cases h
/-! lengths -/
def sumL (ys : List Str) : Nat := (ys.map (·.length)).sum
theorem joinL_len (S : List Nat) : ∀ ps : List (List Nat), (joinL S ps).length = (ps.map (·.length)).sum + (ps.length - 1) * S.length
  | [] => by simp [joinL]
  | [p] => by simp [joinL]
  | p :: q :: r => by
    have ih := joinL_len S (q :: r)
    show (p ++ (S ++ joinL S (q :: r))).length = _
    rw [List.length_append, List.length_append, ih]
    simp only [List.map_cons, List.sum_cons, List.length_cons, Nat.add_sub_cancel]
    rw [Nat.add_mul]
    omega
theorem str_len (z : Str) : z.length = z.cps.toList.length := (Array.length_toList).symm
theorem join_len (y : Str) (ys : List Str) : (Txt.join y ys).length = sumL ys + (ys.length - 1) * y.length := by
  have e : tl (Txt.join y ys) = joinL (tl y) (ys.map tl) := by rw [join_eq, tl_join]
  rw [len_tl, e, joinL_len, List.length_map, List.map_map]
  have e2 : (ys.map ((fun x => x.length) ∘ tl)) = ys.map (·.length) := List.map_congr_left fun z _ => (len_tl z).symm
  rw [e2, ← len_tl]; rfl
theorem join_le (y : Str) (ys : List Str) : (Txt.join y ys).length ≤ sumL ys + ys.length * y.length := by
  rw [join_len]
  have : (ys.length - 1) * y.length ≤ ys.length * y.length := Nat.mul_le_mul_right _ (by omega)
  omega
theorem split_sum (x y : Str) : sumL (Txt.split x y) + ((Txt.split x y).length - 1) * y.length = x.length := by
  have e : Txt.join y (Txt.split x y) = x := (join_eq _ _).trans (PySem.StrLaws.join_split x y)
  have := join_len y (Txt.split x y)
  rw [e] at this
  exact this.symm
theorem split_ne (x y : Str) : Txt.split x y ≠ [] := fun e => by
  have h : 1 ≤ (Txt.split x y).length := by
    unfold Txt.split
    split
    · show 1 ≤ 1; omega
    · split
      · show 1 ≤ 1; omega
      · rw [len_partsBetween]; omega
  rw [e] at h
  cases h
theorem nl_eq : ("\n" : Str) = ⟨#[10]⟩ := by decide
theorem bl_eq : (" " : Str) = ⟨#[32]⟩ := by decide
theorem sum_sub {ys zs : List Str} (h : zs.Sublist ys) : sumL zs ≤ sumL ys := by
  unfold sumL
  induction h with
  | slnil => exact Nat.le_refl _
  | cons a _ ih => simp only [List.map_cons, List.sum_cons]; omega
  | cons_cons a _ ih => simp only [List.map_cons, List.sum_cons]; omega
theorem cut_strs (ys : List Str) (lo hi : Option Int) : ∃ zs : List Str, cutD (ys.map D.str) lo hi = zs.map D.str ∧ sumL zs ≤ sumL ys ∧ zs.length ≤ ys.length := by
  unfold cutD
  refine ⟨(ys.drop (HT.sIx (ys.map D.str).length 0 lo)).take (HT.sIx (ys.map D.str).length (ys.map D.str).length hi - HT.sIx (ys.map D.str).length 0 lo), by rw [List.map_take, List.map_drop], ?_, ?_⟩
  · exact sum_sub ((List.take_sublist _ _).trans (List.drop_sublist _ _))
  · exact ((List.take_sublist _ _).trans (List.drop_sublist _ _)).length_le
theorem sum_app (ys zs : List Str) : sumL (ys ++ zs) = sumL ys + sumL zs := by
  unfold sumL
  rw [List.map_append, List.sum_append]
theorem sum_rev (ys : List Str) : sumL ys.reverse = sumL ys := by
  induction ys with
  | nil => rfl
  | cons y ys ih =>
    rw [List.reverse_cons, sum_app, ih]
    unfold sumL
    simp
    omega
theorem app_len (x y : Str) : (x ++ y).length = x.length + y.length := by
  rw [len_tl, tl_append, List.length_append, ← len_tl, ← len_tl]
/-! deeds, runs -/
def wordsD : Deed → List Str
  | .ch i => ["change", strN i]
  | .fk i => ["fork", strN i]
  | .jn i j => ["join", strN i, strN j]
  | .ls i => ["lose", strN i]
def lineS (x : Deed) : Str := Txt.join " " (wordsD x)
def textS (r : List Deed) : Str := Txt.join "\n" (r.map lineS)
def lnW : List Str → D
  | [] => .tup []
  | w :: ws => .tup (.str w :: ws.map fun z => optD (figOf z))
def lnD (l : Str) : D := lnW (Txt.split l " ")
def readR : List Str → Nat → Nat ⊕ List Deed
  | [], _ => .inr []
  | l :: ls, i => match deedOf (lnD l) with
    | some x => (match readR ls (i + 1) with
      | .inl k => .inl k
      | .inr r => .inr (x :: r))
    | none => .inl i
def readS (z : Str) : Nat ⊕ List Deed := if z = "" then .inr [] else readR (Txt.split z "\n") 0
/-- the copies of a deed below 10 ** 9 -/
def deedSm : Deed → Prop
  | .ch i => i < 10 ^ 9
  | .fk i => i < 10 ^ 9
  | .jn i j => i < 10 ^ 9 ∧ j < 10 ^ 9 ∧ i ≠ j
  | .ls i => i < 10 ^ 9
theorem strN_free {n s : Nat} (h : s < 48 ∨ 57 < s) : s ∉ tl (strN n) := by
  show s ∉ (strN n).cps.toList
  rw [tl_strN]
  exact numL_free h
theorem word_free {x : Str} (h : x = "change" ∨ x = "fork" ∨ x = "join" ∨ x = "lose") : 32 ∉ tl x ∧ 10 ∉ tl x := by
  rcases h with rfl | rfl | rfl | rfl <;> (rw [tl_ofString]; decide)
theorem words_free {x : Deed} : ∀ z ∈ wordsD x, 32 ∉ tl z ∧ 10 ∉ tl z := fun z m => by
  have n1 : ∀ n, 32 ∉ tl (strN n) ∧ 10 ∉ tl (strN n) := fun n => ⟨strN_free (by omega), strN_free (by omega)⟩
  cases x <;> simp only [wordsD, List.mem_cons, List.not_mem_nil, or_false] at m
  · rcases m with rfl | rfl
    · exact word_free (by simp)
    · exact n1 _
  · rcases m with rfl | rfl
    · exact word_free (by simp)
    · exact n1 _
  · rcases m with rfl | rfl | rfl
    · exact word_free (by simp)
    · exact n1 _
    · exact n1 _
  · rcases m with rfl | rfl
    · exact word_free (by simp)
    · exact n1 _
theorem words_ne {x : Deed} : wordsD x ≠ [] := by cases x <;> simp [wordsD]
theorem line_back {x : Deed} : Txt.split (lineS x) " " = wordsD x := by
  unfold lineS
  exact split_join (y := " ") (s := 32) (S := []) (tl_ofString " ") (by decide +kernel) words_ne fun z m => (words_free z m).1
theorem deed2 {s : Str} {a : D} : deedOf (.tup [.str s, a]) = match natOf a with
    | some i => if s = "change" then some (.ch i) else if s = "fork" then some (.fk i) else if s = "lose" then some (.ls i) else none
    | none => none := rfl
theorem deed3 {s : Str} {a b : D} : deedOf (.tup [.str s, a, b]) = match natOf a, natOf b with
    | some i, some j => if s = "join" ∧ i ≠ j then some (.jn i j) else none
    | _, _ => none := rfl
theorem deed_back {x : Deed} (h : deedSm x) : deedOf (lnD (lineS x)) = some x := by
  unfold lnD
  rw [line_back]
  cases x with
  | ch i =>
    show deedOf (.tup [.str "change", optD (figOf (strN i))]) = _
    rw [figOf_num h, deed2]
    show (match natOf (natD i) with | some i => (if _ then _ else _ : Option Deed) | none => none) = _
    rw [natOf_n]; rfl
  | fk i =>
    show deedOf (.tup [.str "fork", optD (figOf (strN i))]) = _
    rw [figOf_num h, deed2]
    show (match natOf (natD i) with | some i => (if _ then _ else _ : Option Deed) | none => none) = _
    rw [natOf_n]; rfl
  | ls i =>
    show deedOf (.tup [.str "lose", optD (figOf (strN i))]) = _
    rw [figOf_num h, deed2]
    show (match natOf (natD i) with | some i => (if _ then _ else _ : Option Deed) | none => none) = _
    rw [natOf_n]; rfl
  | jn i j =>
    show deedOf (.tup [.str "join", optD (figOf (strN i)), optD (figOf (strN j))]) = _
    rw [figOf_num h.1, figOf_num h.2.1, deed3]
    show (match natOf (natD i), natOf (natD j) with | some i, some j => (if _ then _ else _ : Option Deed) | _, _ => none) = _
    rw [natOf_n, natOf_n]
    exact if_pos ⟨rfl, h.2.2⟩
theorem joinL_free {s : Nat} {S : List Nat} (hs : s ∉ S) : ∀ ps : List (List Nat), (∀ p ∈ ps, s ∉ p) → s ∉ joinL S ps
  | [], _ => by simp [joinL]
  | [p], h => by simpa [joinL] using h p (by simp)
  | p :: q :: r, h => by
    have ih := joinL_free hs (q :: r) fun x m => h x (List.mem_cons_of_mem _ m)
    show s ∉ p ++ (S ++ joinL S (q :: r))
    simp only [List.mem_append, not_or]
    exact ⟨h p (by simp), hs, ih⟩
theorem line_free {x : Deed} : 10 ∉ tl (lineS x) := by
  unfold lineS
  rw [join_eq, tl_join]
  refine joinL_free (by rw [tl_ofString]; decide) _ fun p m => ?_
  obtain ⟨z, mz, rfl⟩ := List.mem_map.mp m
  exact (words_free z mz).2
theorem line_len {x : Deed} : 0 < (lineS x).length := by
  unfold lineS
  rw [join_len]
  have : 0 < sumL (wordsD x) := by
    cases x <;> (unfold wordsD sumL; simp only [List.map_cons, List.sum_cons]; first | (have : 0 < ("change" : Str).length := by decide); omega | (have : 0 < ("fork" : Str).length := by decide); omega | (have : 0 < ("join" : Str).length := by decide); omega | (have : 0 < ("lose" : Str).length := by decide); omega)
  omega
theorem readR_back : ∀ {r : List Deed} {i : Nat}, (∀ x ∈ r, deedSm x) → readR (r.map lineS) i = .inr r
  | [], _, _ => rfl
  | x :: r, i, h => by
    rw [List.map_cons, readR, deed_back (h x (by simp)), readR_back fun y m => h y (List.mem_cons_of_mem _ m)]
theorem read_back {r : List Deed} (h : ∀ x ∈ r, deedSm x) : readS (textS r) = .inr r := by
  unfold readS
  cases r with
  | nil => rfl
  | cons x r =>
    have e0 : textS (x :: r) ≠ "" := fun e => by
      have h1 := join_len "\n" ((x :: r).map lineS)
      have h2 : (textS (x :: r)).length = 0 := by rw [e]; rfl
      unfold textS at h2
      rw [h2] at h1
      have h3 := line_len (x := x)
      have h4 : sumL ((x :: r).map lineS) = (lineS x).length + sumL (r.map lineS) := rfl
      omega
    rw [if_neg e0]
    unfold textS
    rw [split_join (y := "\n") (s := 10) (S := []) (tl_ofString "\n") (by decide +kernel) (by simp) fun z m => by
      obtain ⟨y, _, rfl⟩ := List.mem_map.mp m
      exact line_free]
    exact readR_back h
end Dy
namespace K53
open PySem PySem.Spec PyProof.Rows L2 Dy
local macro_rules | `(tactic| walk_at "e") => `(tactic| first | exact rfl | assumption | (apply sq_ref; assumption) | (apply ls_ref; assumption) | (apply lm_ref; assumption) | (apply tg_ref; assumption))
local macro_rules | `(tactic| walk_at "dv") => `(tactic| first | exact rfl | assumption | (apply dv_ref; assumption))
local macro_rules | `(tactic| walk_at "side") => `(tactic| first | omega | assumption | ((refine And.intro ?_ ?_); omega; assumption) | ((refine And.intro ?_ ?_) <;> decide) | ((refine Or.inl (Or.inr (And.intro ?_ ?_))) <;> omega) | ((refine Or.inl (Or.inl (And.intro ?_ ?_))) <;> omega))
local macro_rules | `(tactic| walk_at "go1") => `(tactic| first
  | with_reducible refine s_seq ?_
  | with_reducible refine s_next ?_
  | with_reducible refine s_asg ?_
  | with_reducible refine s_asgG ?_
  | with_reducible refine s_drop ?_
  | with_reducible refine s_ret ?_
  | with_reducible refine s_retN ?_
  | with_reducible refine s_ifs ?_
  | with_reducible refine s_par ?_
  | with_reducible apply s_two
  | with_reducible refine s_setL ?_
  | with_reducible refine g_name ?_
  | with_reducible refine g_nil ?_
  | with_reducible refine g_cons ?_
  | ((with_reducible refine g_tup ?_ ?_); rfl)
  | ((with_reducible apply s_aug); (exact rfl))
  | with_reducible refine c_op ?_
  | ((with_reducible apply ifYes); (first | assumption | exact rfl | (simp only [tagD]; decide +kernel)))
  | ((with_reducible apply ifNo); (first | assumption | exact rfl | (simp only [tagD]; decide +kernel)))
  | with_reducible refine c_un ?_
  | ((with_reducible apply c_var); (exact rfl))
  | with_reducible refine c_c ?_
  | with_reducible refine c_nil ?_
  | with_reducible refine c_cons ?_
  | ((with_reducible apply sz_and); (exact Nat.le_of_ble_eq_true rfl))
  | with_reducible refine c_tup ?_
  | with_reducible refine c_lst ?_
  | with_reducible refine c_new ?_
  | with_reducible refine c_cb ?_
  | with_reducible refine c_call ?_
  | with_reducible refine c_if ?_
  | with_reducible refine c_andV ?_
  | with_reducible refine c_orV ?_
  | with_reducible refine c_notV ?_
  | with_reducible refine c_test ?_
  | with_reducible refine c_and ?_
  | with_reducible refine c_or ?_
  | with_reducible refine c_not ?_
  | with_reducible refine c_yes ?_
  | with_reducible refine c_bl ?_
  | with_reducible refine c_chain ?_
  | with_reducible refine c_sl ?_
  | with_reducible refine c_nopart ?_
  | with_reducible refine c_part ?_
  | with_reducible refine c_intE ?_
  | with_reducible refine c_lc ?_
  | with_reducible refine c_lcN ?_
  | with_reducible refine s_for ?_
  | with_reducible refine s_setF ?_
  | with_reducible refine s_raiseF ?_
  | with_reducible refine s_tryAs ?_
  | with_reducible refine c_dnil ?_
  | with_reducible refine c_make ?_
  | with_reducible refine c_fld ?_
  | with_reducible refine s_raise0 ?_
  | with_reducible refine s_setD ?_
  | with_reducible refine s_augD ?_
  | with_reducible refine s_delD ?_
  | with_reducible refine c_dpop ?_
  | with_reducible refine c_disp ?_
  | with_reducible refine c_dispN ?_
  | with_reducible refine c_pcons ?_
  | with_reducible refine c_pnil ?_
  | with_reducible refine c_tru ?_
  | with_reducible refine c_sortSet ?_
  | with_reducible refine c_sortSetB ?_
  | with_reducible refine s_enT ?_
  | with_reducible refine s_enL ?_
  | with_reducible apply o_enT
  | ((with_reducible apply o_tru); (exact rfl))
  | ((with_reducible apply o_lenD); (walk_at "dv"))
  | ((with_reducible apply o_listD); (walk_at "dv"))
  | ((with_reducible apply o_dictD); (walk_at "dv"))
  | ((with_reducible apply o_dvAnd); (walk_at "dv"))
  | ((with_reducible apply o_dIn); (walk_at "dv"); (exact rfl))
  | ((with_reducible apply o_dget); (walk_at "dv"); (exact rfl); (first | assumption | exact rfl))
  | with_reducible refine s_only ?_
  | with_reducible refine c_xe ?_
  | ((with_reducible apply o_xe); (exact rfl))
  | ((with_reducible apply o_isE); (first | exact rfl | exact if_pos rfl))
  | ((with_reducible apply o_fld); (assumption); (exact rfl); (exact rfl))
  | with_reducible refine s_bm ?_
  | with_reducible refine s_bm0 ?_
  | with_reducible refine s_rng1 ?_
  | with_reducible refine c_bits ?_
  | with_reducible refine c_sm1 ?_
  | with_reducible refine o_strE ?_
  | with_reducible refine s_str ?_
  | with_reducible apply o_strI
  | with_reducible refine c_star ?_
  | with_reducible refine c_revL ?_
  | with_reducible refine c_isi2 ?_
  | with_reducible apply o_strS
  | with_reducible apply o_inStr
  | ((with_reducible apply o_tagP); (first | assumption | exact rfl))
  | ((with_reducible apply o_lenS); (assumption))
  | ((with_reducible apply o_slS); (assumption))
  | with_reducible apply o_lstE
  | ((with_reducible apply o_sqAnd); (walk_at "e"))
  | with_reducible refine s_sq ?_
  | with_reducible apply o_I0
  | with_reducible apply o_addI
  | ((with_reducible apply o_lsAnd); (walk_at "e"))
  | ((with_reducible apply o_I); (walk_at "side"))
  | with_reducible apply o_isN
  | with_reducible apply o_notN
  | with_reducible apply o_eqI
  | with_reducible apply o_eqS
  | with_reducible apply o_eqB
  | with_reducible apply o_neg
  | with_reducible apply o_int
  | with_reducible apply o_intB
  | with_reducible apply o_abs
  | with_reducible apply o_slT
  | ((with_reducible apply o_len); (walk_at "e"))
  | ((with_reducible apply o_list); (walk_at "e"))
  | ((with_reducible apply o_listN); (walk_at "e"))
  | ((with_reducible apply o_tuple); (walk_at "e"))
  | ((with_reducible apply o_isi); (walk_at "e"))
  | ((with_reducible apply o_isiP); (first | assumption | exact Dat.plain (by assumption)))
  | ((with_reducible apply o_slL); (walk_at "e"))
  | ((with_reducible apply o_ix); (walk_at "e"); (first | (apply (at0 _).trans; first | exact rfl | assumption) | (apply (at1 _).trans; exact rfl) | (apply (at2 _).trans; exact rfl) | (apply (at3 _).trans; exact rfl) | (apply (at4 _).trans; exact rfl) | exact rfl))
  | ((with_reducible apply o_put); (assumption); (first | exact rfl | (apply ixN_0; simp))))
local macro_rules | `(tactic| walk_at "go") => `(tactic| repeat walk_at "go1")
local macro_rules | `(tactic| walk_at "len") => `(tactic| (intro ds S Q E h; first | (obtain ⟨_, rfl, _⟩ := h; rfl) | (obtain ⟨_, _, rfl, _⟩ := h; rfl) | (obtain ⟨_, _, _, rfl, _⟩ := h; rfl) | (obtain ⟨_, _, _, _, rfl, _⟩ := h; rfl) | (obtain ⟨_, _, _, _, _, rfl, _⟩ := h; rfl) | (obtain ⟨_, _, _, _, _, _, rfl, _⟩ := h; rfl) | (obtain ⟨rfl, _⟩ := h; rfl)))

def top (i : Nat) : Stmt := PySem.Challenge.pw_threecopies_k53_whole_texts_of_runs.main.body.getD i (.Pass ⟨0, 0, 0, 0⟩)
def mth (i j : Nat) : Stmt := match top i with
  | .ClassDef _ _ _ b _ _ _ _ _ _ _ => b.getD j (.Pass ⟨0, 0, 0, 0⟩)
  | s => s
abbrev s_is_integer : Stmt := top 5
abbrev N_is_integer : List Str := ["thing"]
theorem sc_is_integer : FnScope N_is_integer ["thing"] (defScope s_is_integer) := ⟨rfl, rfl, rfl, by decide +kernel, rfl, by decide +kernel, by decide +kernel⟩
abbrev s_is_deed : Stmt := top 8
abbrev N_is_deed : List Str := ["thing", "word", "copy"]
theorem sc_is_deed : FnScope N_is_deed ["thing"] (defScope s_is_deed) := ⟨rfl, rfl, rfl, by decide +kernel, rfl, by decide +kernel, by decide +kernel⟩
abbrev s_is_run : Stmt := top 9
abbrev N_is_run : List Str := ["thing", "deed"]
theorem sc_is_run : FnScope N_is_run ["thing"] (defScope s_is_run) := ⟨rfl, rfl, rfl, by decide +kernel, rfl, by decide +kernel, by decide +kernel⟩
abbrev s_line_of : Stmt := top 13
abbrev N_line_of : List Str := ["words", "word"]
theorem sc_line_of : FnScope N_line_of ["words"] (defScope s_line_of) := ⟨rfl, rfl, rfl, by decide +kernel, rfl, by decide +kernel, by decide +kernel⟩
abbrev s_run_text : Stmt := top 14
abbrev N_run_text : List Str := ["run", "deed"]
theorem sc_run_text : FnScope N_run_text ["run"] (defScope s_run_text) := ⟨rfl, rfl, rfl, by decide +kernel, rfl, by decide +kernel, by decide +kernel⟩
abbrev s_check_text : Stmt := top 15
abbrev N_check_text : List Str := ["thing"]
theorem sc_check_text : FnScope N_check_text ["thing"] (defScope s_check_text) := ⟨rfl, rfl, rfl, by decide +kernel, rfl, by decide +kernel, by decide +kernel⟩
abbrev s_number_in : Stmt := top 16
abbrev N_number_in : List Str := ["word", "sign"]
theorem sc_number_in : FnScope N_number_in ["word"] (defScope s_number_in) := ⟨rfl, rfl, rfl, by decide +kernel, rfl, by decide +kernel, by decide +kernel⟩
abbrev s_read_run : Stmt := top 17
abbrev N_read_run : List Str := ["text", "deeds", "at", "line", "words", "copies", "deed", "word"]
theorem sc_read_run : FnScope N_read_run ["text"] (defScope s_read_run) := ⟨rfl, rfl, rfl, by decide +kernel, rfl, by decide +kernel, by decide +kernel⟩
abbrev s__law_hand : Stmt := top 19
abbrev N__law_hand : List Str := ["_law_script", "_law_cells", "_law_cell"]
theorem sc__law_hand : FnScope N__law_hand ["_law_script"] (defScope s__law_hand) := ⟨rfl, rfl, rfl, by decide +kernel, rfl, by decide +kernel, by decide +kernel⟩
abbrev s__law_draw : Stmt := top 20
abbrev N__law_draw : List Str := ["_law_hand_here", "_law_many", "_law_cell", "_law_digit", "_law_number_here"]
theorem sc__law_draw : FnScope N__law_draw ["_law_hand_here", "_law_many"] (defScope s__law_draw) := ⟨rfl, rfl, rfl, by decide +kernel, rfl, by decide +kernel, by decide +kernel⟩
abbrev s__law_some : Stmt := top 21
abbrev N__law_some : List Str := ["_law_hand_here", "_law_things"]
theorem sc__law_some : FnScope N__law_some ["_law_hand_here", "_law_things"] (defScope s__law_some) := ⟨rfl, rfl, rfl, by decide +kernel, rfl, by decide +kernel, by decide +kernel⟩
abbrev s__law_is : Stmt := top 22
abbrev N__law_is : List Str := ["_law_told_here", "_law_due", "_law_k", "_law_key"]
theorem sc__law_is : FnScope N__law_is ["_law_told_here", "_law_due"] (defScope s__law_is) := ⟨rfl, rfl, rfl, by decide +kernel, rfl, by decide +kernel, by decide +kernel⟩
abbrev s__law_deep : Stmt := top 23
abbrev N__law_deep : List Str := ["_law_kind", "_law_found", "_law_turn"]
theorem sc__law_deep : FnScope N__law_deep ["_law_kind"] (defScope s__law_deep) := ⟨rfl, rfl, rfl, by decide +kernel, rfl, by decide +kernel, by decide +kernel⟩
abbrev s__law_is_deed : Stmt := top 24
abbrev N__law_is_deed : List Str := ["_law_thing", "_law_copy"]
theorem sc__law_is_deed : FnScope N__law_is_deed ["_law_thing"] (defScope s__law_is_deed) := ⟨rfl, rfl, rfl, by decide +kernel, rfl, by decide +kernel, by decide +kernel⟩
abbrev s__law_run_drawn : Stmt := top 25
abbrev N__law_run_drawn : List Str := ["_law_hand_here", "_law_many", "_law_found", "_law_turn", "_law_one", "_law_other", "_law_pair", "_law_some_here"]
theorem sc__law_run_drawn : FnScope N__law_run_drawn ["_law_hand_here", "_law_many"] (defScope s__law_run_drawn) := ⟨rfl, rfl, rfl, by decide +kernel, rfl, by decide +kernel, by decide +kernel⟩
abbrev s__law_run_text : Stmt := top 26
abbrev N__law_run_text : List Str := ["_law_run", "_law_deed", "_law_copy"]
theorem sc__law_run_text : FnScope N__law_run_text ["_law_run"] (defScope s__law_run_text) := ⟨rfl, rfl, rfl, by decide +kernel, rfl, by decide +kernel, by decide +kernel⟩
abbrev s__law_number : Stmt := top 27
abbrev N__law_number : List Str := ["_law_word", "_law_sign"]
theorem sc__law_number : FnScope N__law_number ["_law_word"] (defScope s__law_number) := ⟨rfl, rfl, rfl, by decide +kernel, rfl, by decide +kernel, by decide +kernel⟩
abbrev s__law_numbers : Stmt := top 28
abbrev N__law_numbers : List Str := ["_law_words", "_law_many", "_law_found", "_law_word", "_law_number_here"]
theorem sc__law_numbers : FnScope N__law_numbers ["_law_words", "_law_many"] (defScope s__law_numbers) := ⟨rfl, rfl, rfl, by decide +kernel, rfl, by decide +kernel, by decide +kernel⟩
abbrev s__law_read_run : Stmt := top 29
abbrev N__law_read_run : List Str := ["_law_text", "_law_found", "_law_at", "_law_line", "_law_words", "_law_copies", "_law_deed"]
theorem sc__law_read_run : FnScope N__law_read_run ["_law_text"] (defScope s__law_read_run) := ⟨rfl, rfl, rfl, by decide +kernel, rfl, by decide +kernel, by decide +kernel⟩
abbrev s__law_told : Stmt := top 30
abbrev N__law_told : List Str := ["_law_text", "_law_found", "e"]
theorem sc__law_told : FnScope N__law_told ["_law_text"] (defScope s__law_told) := ⟨rfl, rfl, rfl, by decide +kernel, rfl, by decide +kernel, by decide +kernel⟩
abbrev s__law_written : Stmt := top 31
abbrev N__law_written : List Str := ["_law_thing", "_law_found", "e"]
theorem sc__law_written : FnScope N__law_written ["_law_thing"] (defScope s__law_written) := ⟨rfl, rfl, rfl, by decide +kernel, rfl, by decide +kernel, by decide +kernel⟩
abbrev s__law_bent : Stmt := top 32
abbrev N__law_bent : List Str := ["_law_hand_here", "_law_text", "_law_at", "_law_sign", "_law_lines", "_law_line", "_law_things"]
theorem sc__law_bent : FnScope N__law_bent ["_law_hand_here", "_law_text"] (defScope s__law_bent) := ⟨rfl, rfl, rfl, by decide +kernel, rfl, by decide +kernel, by decide +kernel⟩
abbrev s__law_bent_run : Stmt := top 33
abbrev N__law_bent_run : List Str := ["_law_hand_here", "_law_run", "_law_odd", "_law_at", "_law_deed", "_law_things"]
theorem sc__law_bent_run : FnScope N__law_bent_run ["_law_hand_here", "_law_run"] (defScope s__law_bent_run) := ⟨rfl, rfl, rfl, by decide +kernel, rfl, by decide +kernel, by decide +kernel⟩
abbrev s_law : Stmt := top 34
abbrev N_law : List Str := ["_law_script", "_law_hand_here", "_law_turn", "_law_run", "_law_text", "_law_again", "_law_bent_here", "_law_change", "_law_thing", "_law_right", "_law_odd", "_law_deed"]
theorem sc_law : FnScope N_law ["_law_script"] (defScope s_law) := ⟨rfl, rfl, rfl, by decide +kernel, rfl, by decide +kernel, by decide +kernel⟩
abbrev s_BadText___init__ : Stmt := mth 3 0
abbrev N_BadText___init__ : List Str := ["self", "line"]
theorem sc_BadText___init__ : FnScope N_BadText___init__ ["self", "line"] (defScope s_BadText___init__) := ⟨rfl, rfl, rfl, by decide +kernel, rfl, by decide +kernel, by decide +kernel⟩
def tabL : List (Str × D) := [("change", .int 2), ("fork", .int 2), ("join", .int 3), ("lose", .int 2)]
structure Txt (K : PySem.W.Frag) (mg : Str → Option Value) (cCopyError cNoRun cBadText aL : Addr) (w : World) : Prop where
  b_ValueError : mg "ValueError" = none
  b_abs : mg "abs" = none
  b_all : mg "all" = none
  b_any : mg "any" = none
  b_bool : mg "bool" = none
  b_dict : mg "dict" = none
  b_enumerate : mg "enumerate" = none
  b_int : mg "int" = none
  b_isinstance : mg "isinstance" = none
  b_len : mg "len" = none
  b_list : mg "list" = none
  b_max : mg "max" = none
  b_min : mg "min" = none
  b_range : mg "range" = none
  b_set : mg "set" = none
  b_sorted : mg "sorted" = none
  b_str : mg "str" = none
  b_sum : mg "sum" = none
  b_tuple : mg "tuple" = none
  b_type : mg "type" = none
  d_is_integer : ∃ f fd, Fun K "is_integer" "is_integer" s_is_integer f fd ∧ mg "is_integer" = some (.ref f) ∧ PySem.W.keepIn K (.ref f) = true ∧ Binds K fd ["thing"] []
  d_is_deed : ∃ f fd, Fun K "is_deed" "is_deed" s_is_deed f fd ∧ mg "is_deed" = some (.ref f) ∧ PySem.W.keepIn K (.ref f) = true ∧ Binds K fd ["thing"] []
  d_is_run : ∃ f fd, Fun K "is_run" "is_run" s_is_run f fd ∧ mg "is_run" = some (.ref f) ∧ PySem.W.keepIn K (.ref f) = true ∧ Binds K fd ["thing"] []
  d_line_of : ∃ f fd, Fun K "line_of" "line_of" s_line_of f fd ∧ mg "line_of" = some (.ref f) ∧ PySem.W.keepIn K (.ref f) = true ∧ Binds K fd ["words"] []
  d_run_text : ∃ f fd, Fun K "run_text" "run_text" s_run_text f fd ∧ mg "run_text" = some (.ref f) ∧ PySem.W.keepIn K (.ref f) = true ∧ Binds K fd ["run"] []
  d_check_text : ∃ f fd, Fun K "check_text" "check_text" s_check_text f fd ∧ mg "check_text" = some (.ref f) ∧ PySem.W.keepIn K (.ref f) = true ∧ Binds K fd ["thing"] []
  d_number_in : ∃ f fd, Fun K "number_in" "number_in" s_number_in f fd ∧ mg "number_in" = some (.ref f) ∧ PySem.W.keepIn K (.ref f) = true ∧ Binds K fd ["word"] []
  d_read_run : ∃ f fd, Fun K "read_run" "read_run" s_read_run f fd ∧ mg "read_run" = some (.ref f) ∧ PySem.W.keepIn K (.ref f) = true ∧ Binds K fd ["text"] []
  d__law_hand : ∃ f fd, Fun K "_law_hand" "_law_hand" s__law_hand f fd ∧ mg "_law_hand" = some (.ref f) ∧ PySem.W.keepIn K (.ref f) = true ∧ Binds K fd ["_law_script"] []
  d__law_draw : ∃ f fd, Fun K "_law_draw" "_law_draw" s__law_draw f fd ∧ mg "_law_draw" = some (.ref f) ∧ PySem.W.keepIn K (.ref f) = true ∧ Binds K fd ["_law_hand_here", "_law_many"] []
  d__law_some : ∃ f fd, Fun K "_law_some" "_law_some" s__law_some f fd ∧ mg "_law_some" = some (.ref f) ∧ PySem.W.keepIn K (.ref f) = true ∧ Binds K fd ["_law_hand_here", "_law_things"] []
  d__law_is : ∃ f fd, Fun K "_law_is" "_law_is" s__law_is f fd ∧ mg "_law_is" = some (.ref f) ∧ PySem.W.keepIn K (.ref f) = true ∧ Binds K fd ["_law_told_here", "_law_due"] []
  d__law_deep : ∃ f fd, Fun K "_law_deep" "_law_deep" s__law_deep f fd ∧ mg "_law_deep" = some (.ref f) ∧ PySem.W.keepIn K (.ref f) = true ∧ Binds K fd ["_law_kind"] []
  d__law_is_deed : ∃ f fd, Fun K "_law_is_deed" "_law_is_deed" s__law_is_deed f fd ∧ mg "_law_is_deed" = some (.ref f) ∧ PySem.W.keepIn K (.ref f) = true ∧ Binds K fd ["_law_thing"] []
  d__law_run_drawn : ∃ f fd, Fun K "_law_run_drawn" "_law_run_drawn" s__law_run_drawn f fd ∧ mg "_law_run_drawn" = some (.ref f) ∧ PySem.W.keepIn K (.ref f) = true ∧ Binds K fd ["_law_hand_here", "_law_many"] []
  d__law_run_text : ∃ f fd, Fun K "_law_run_text" "_law_run_text" s__law_run_text f fd ∧ mg "_law_run_text" = some (.ref f) ∧ PySem.W.keepIn K (.ref f) = true ∧ Binds K fd ["_law_run"] []
  d__law_number : ∃ f fd, Fun K "_law_number" "_law_number" s__law_number f fd ∧ mg "_law_number" = some (.ref f) ∧ PySem.W.keepIn K (.ref f) = true ∧ Binds K fd ["_law_word"] []
  d__law_numbers : ∃ f fd, Fun K "_law_numbers" "_law_numbers" s__law_numbers f fd ∧ mg "_law_numbers" = some (.ref f) ∧ PySem.W.keepIn K (.ref f) = true ∧ Binds K fd ["_law_words", "_law_many"] []
  d__law_read_run : ∃ f fd, Fun K "_law_read_run" "_law_read_run" s__law_read_run f fd ∧ mg "_law_read_run" = some (.ref f) ∧ PySem.W.keepIn K (.ref f) = true ∧ Binds K fd ["_law_text"] []
  d__law_told : ∃ f fd, Fun K "_law_told" "_law_told" s__law_told f fd ∧ mg "_law_told" = some (.ref f) ∧ PySem.W.keepIn K (.ref f) = true ∧ Binds K fd ["_law_text"] []
  d__law_written : ∃ f fd, Fun K "_law_written" "_law_written" s__law_written f fd ∧ mg "_law_written" = some (.ref f) ∧ PySem.W.keepIn K (.ref f) = true ∧ Binds K fd ["_law_thing"] []
  d__law_bent : ∃ f fd, Fun K "_law_bent" "_law_bent" s__law_bent f fd ∧ mg "_law_bent" = some (.ref f) ∧ PySem.W.keepIn K (.ref f) = true ∧ Binds K fd ["_law_hand_here", "_law_text"] []
  d__law_bent_run : ∃ f fd, Fun K "_law_bent_run" "_law_bent_run" s__law_bent_run f fd ∧ mg "_law_bent_run" = some (.ref f) ∧ PySem.W.keepIn K (.ref f) = true ∧ Binds K fd ["_law_hand_here", "_law_run"] []
  d_law : ∃ f fd, Fun K "law" "law" s_law f fd ∧ mg "law" = some (.ref f) ∧ PySem.W.keepIn K (.ref f) = true ∧ Binds K fd ["_law_script"] []
  d_BadText___init__ : ∃ f fd, Fun K "__init__" "BadText.__init__" s_BadText___init__ f fd ∧ ErrF K cBadText "line" f ∧ Binds K fd ["self", "line"] []
  k_DIGITS : Kst K mg "DIGITS" (.str "0123456789")
  k_MOST_FIGURES : Kst K mg "MOST_FIGURES" (.int 9)
  k_LENGTHS : Kst K mg "LENGTHS" (.cls aL)
  t_LENGTHS : KTab K w aL tabL
  e_NoRun : ErrN K cNoRun
  c_NoRun : mg "NoRun" = some (.ref cNoRun)
  c_BadText : mg "BadText" = some (.ref cBadText)
  c_CopyError : mg "CopyError" = some (.ref cCopyError)
  em_Copy : ∀ C ∈ [cNoRun, cBadText], PySem.W.exmOne K (.ref C) (.ref cCopyError) = some true
  xiR : ExcI K cNoRun
  xiT : ExcI K cBadText
  kitR : KitOf K cNoRun (ktTab [(.ty "ValueError", true), (.cls cNoRun, true)])
  kitT : KitOf K cBadText (ktTab [(.ty "ValueError", true), (.cls cBadText, true)])
  xf : XfC K cBadText
  nof : PySem.W.findIn K (.ref cBadText) "line" = some none
section
variable {cCopyError cNoRun cBadText aL : Addr} {P : Program} {w : World} {K : PySem.W.Frag} {mg : Str → Option Value} {base : Heap}
theorem with_nx {tb : DTS} {nx bk ct : Rho → Store → Prop} {rt : D → Store → Prop} {ex : Exc → Rho → Store → Prop} {ρ : Rho} {S : Store} (P : (Rho → Store → Prop) → Prop) (h1 : ∀ NX, P NX → tb ⟨NX, rt, bk, ct, ex⟩ ρ S) (h2 : P nx) : tb ⟨nx, rt, bk, ct, ex⟩ ρ S := h1 _ h2
def Kept (N : List Nat) (S S' : Store) : Prop := S'.length = S.length ∧ ∀ (m : Nat), m ∉ N → S'[m]? = S[m]?
theorem Kept.refl {N : List Nat} {S : Store} : Kept N S S := ⟨rfl, fun _ _ => rfl⟩
theorem Kept.trans {N : List Nat} {S S1 S2 : Store} (h : Kept N S S1) (k : Kept N S1 S2) : Kept N S S2 := ⟨k.1.trans h.1, fun m hm => (k.2 m hm).trans (h.2 m hm)⟩
def absD : D → D
  | .int i => .int (if i < 0 then -i else i)
  | d => d
/-! the law's draws -/
def handL (cs : List Int) (i : Nat) (big st k : Int) : SO := .lst [.lst (cs.map .int), .int (i : Int), .int big, .int st, .int k]
def HandAt (S : Store) (n : Nat) : Prop := ∃ (cs : List Int) (i : Nat) (big st k : Int), S[n]? = some (handL cs i big st k)
def spDraw : DSp := fun ds S Q E => ∃ n many, ds = [.ref n, .int many] ∧ HandAt S n ∧ 0 < many ∧ many.natAbs.log2 < 9000 ∧ ∀ r S', 0 ≤ r → r < many → HandAt S' n → Kept [n] S S' → Q (.int r) S'
theorem ok__law_draw (T : Txt K mg cCopyError cNoRun cBadText aL w) : Cal P w K mg base "_law_draw" 1 ["_law_hand_here", "_law_many"] spDraw := by
  obtain ⟨f, fd, A, hm, hk, hb⟩ := T.d__law_draw
  refine ⟨f, fd, dfn A sc__law_draw (by intro ds S Q E h; obtain ⟨_, _, rfl, _⟩ := h; rfl) (fun cdv A outer s H E hr => ⟨_, (ds_cons (ds_if (DW.dt (dw_and (dt_cmp (oq_eq fun _ => hr) lk_eq (de_at (de_var 0) de_int) de_int (nomark _)) (dw_and1 (dt_cmp (fun _ => op_lt) lk_lt (de_at (de_var 0) de_int) (dc_len (fun _ => T.b_len) (da_cons (de_at (de_var 0) de_int) da_nil)) (nomark _)))))
    (ds_cons (ds_set 2 (fun _ => sc__law_draw.nd) (de_at (de_at (de_var 0) de_int) (de_at (de_var 0) de_int)))
    (ds_cons (ds_setL (de_add (de_at (de_var 0) de_int) de_int) (de_var 0) de_int)
    (ds_cons (ds_setL (de_mod (dc_int (fun _ => T.b_int) (da_cons (de_add (de_add (de_mul (de_at (de_var 0) de_int) de_int) (de_var 2)) de_int) da_nil)) de_int) (de_var 0) de_int)
    (ds_one (ds_if (dt_cmp (fun _ => op_ge) lk_ge (de_var 2) (de_pow de_int de_int) (nomark _))
    (ds_one (ds_setL (de_var 2) (de_var 0) de_int))
    ds_nil)))))
    ds_nil)
    (ds_cons (ds_if (dt_cmp (fun _ => op_gt) lk_gt (de_at (de_var 0) de_int) de_int (nomark _))
    (ds_cons (ds_set 3 (fun _ => sc__law_draw.nd) (de_mod (dc_int (fun _ => T.b_int) (da_cons (de_at (de_var 0) de_int) da_nil)) (de_var 1)))
    (ds_cons (ds_setL (de_fdiv (de_at (de_var 0) de_int) (de_var 1)) (de_var 0) de_int)
    (ds_one (ds_ret (de_var 3)))))
    ds_nil)
    (ds_cons (ds_setL (de_add (de_at (de_var 0) de_int) de_int) (de_var 0) de_int)
    (ds_cons (ds_set 4 (fun _ => sc__law_draw.nd) (de_mod (dc_int (fun _ => T.b_int) (da_cons (de_mul (dc_int (fun _ => T.b_int) (da_cons (de_add (de_at (de_var 0) de_int) (de_mul de_int (de_at (de_var 0) de_int))) da_nil)) de_int) da_nil)) de_int))
    (ds_cons (ds_set 4 (fun _ => sc__law_draw.nd) (de_mod (dc_int (fun _ => T.b_int) (da_cons (de_mul (de_var 4) (de_add (de_fdiv (de_var 4) de_int) de_int)) da_nil)) de_int))
    (ds_cons (ds_set 4 (fun _ => sc__law_draw.nd) (de_mod (dc_int (fun _ => T.b_int) (da_cons (de_mul (de_var 4) (de_add (de_fdiv (de_var 4) de_int) de_int)) da_nil)) de_int))
    (ds_one (ds_ret (de_mod (dc_int (fun _ => T.b_int) (da_cons (de_fdiv (de_var 4) de_int) da_nil)) (de_var 1)))))))))), fun ds S Q E h => ?_⟩), hm, hk, hb⟩
  obtain ⟨n, many, rfl, ⟨cs, i, big, st, kk, h1⟩, hm, hl, k⟩ := h
  unfold handL at h1
  have q1 : ∀ x : Int, 0 ≤ x % many := fun x => Int.emod_nonneg x (by omega : many ≠ 0)
  have q2 : ∀ x : Int, x % many < many := fun x => Int.emod_lt_of_pos x hm
  walk_at "go1"
  refine with_nx (fun NX => ∀ o3 S1, HandAt S1 n → Kept [n] S S1 → NX [some (.ref n), some (.int many), o3, none, none] S1) (fun NX hN => ?_) ?_
  · walk_at "go"
    rw [Bool.false_xor]
    refine ifD (fun c1 => ?_) (fun c1 => ?_)
    · walk_at "go"
      refine ifD (fun c2 => ?_) (fun c2 => ?_)
      · rw [List.length_map] at c2
        have hi : i < cs.length := by omega
        have ei : atI (cs.map D.int) (i : Int) = some (.int cs[i]) := by rw [atN, List.getElem?_map, List.getElem?_eq_getElem hi]; rfl
        walk_at "go"
        refine o_ix rfl ei ?_
        walk_at "go"
        intro S1 l1 e1 m1
        have e1 : S1[n]? = some (handL cs (i + 1) big st kk) := e1
        unfold handL at e1
        walk_at "go"
        intro S2 l2 e2 m2
        have k2 : Kept [n] S S2 := ⟨by omega, fun m hm => (m2 m fun e => hm (by simp [e])).trans (m1 m fun e => hm (by simp [e]))⟩
        have e2 : S2[n]? = some (handL cs (i + 1) big ((st * 69621 + cs[i] + 11) % 2147483629) kk) := e2
        walk_at "go"
        refine ifD (fun c3 => ?_) (fun c3 => ?_)
        · unfold handL at e2
          walk_at "go"
          intro S3 l3 e3 m3
          have e3 : S3[n]? = some (handL cs (i + 1) cs[i] ((st * 69621 + cs[i] + 11) % 2147483629) kk) := e3
          walk_at "go"
          exact hN _ _ ⟨_, _, _, _, _, e3⟩ ⟨by omega, fun m hm => (m3 m fun e => hm (by simp [e])).trans (k2.2 m hm)⟩
        · walk_at "go"
          exact hN _ _ ⟨_, _, _, _, _, e2⟩ k2
      · walk_at "go"
        exact hN _ _ ⟨_, _, _, _, _, h1⟩ .refl
    · walk_at "go"
      exact hN _ _ ⟨_, _, _, _, _, h1⟩ .refl
  · rintro o3 S1 ⟨cs, i, big, st, kk, h1⟩ k1
    unfold handL at h1
    walk_at "go"
    refine ifD (fun c1 => ?_) (fun c1 => ?_)
    · walk_at "go"
      intro S2 l2 e2 m2
      have e2 : S2[n]? = some (handL cs i (big / many) st kk) := e2
      walk_at "go"
      exact k _ _ (q1 _) (q2 _) ⟨_, _, _, _, _, e2⟩ (k1.trans ⟨l2, fun m hm => m2 m fun e => hm (by simp [e])⟩)
    · walk_at "go"
      intro S2 l2 e2 m2
      have e2' : S2[n]? = some (handL cs i big st (kk + 1)) := e2
      have e2 : S2[n]? = some (.lst [.lst (cs.map .int), .int (i : Int), .int big, .int st, .int (kk + 1)]) := e2
      walk_at "go"
      exact k _ _ (q1 _) (q2 _) ⟨_, _, _, _, _, e2'⟩ (k1.trans ⟨l2, fun m hm => m2 m fun e => hm (by simp [e])⟩)
/-- the state of the draws, made of the script -/
def spHand : DSp := fun ds S Q E => ∃ ns : List Int, ds = [.frz (ns.map .int)] ∧ ∀ S' n, HandAt S' n → S'.length = S.length + 1 → n = S.length → (∀ m : Nat, m < S.length → S'[m]? = S[m]?) → Q (.ref n) S'
theorem ok__law_hand (T : Txt K mg cCopyError cNoRun cBadText aL w) : Cal P w K mg base "_law_hand" 1 ["_law_script"] spHand := by
  obtain ⟨f, fd, A, hm, hk, hb⟩ := T.d__law_hand
  refine ⟨f, fd, dfn A sc__law_hand (by intro ds S Q E h; obtain ⟨_, rfl, _⟩ := h; rfl) (fun cdv A outer s H E hr => ⟨_, (ds_cons (ds_setLc 1 (own := [("_law_cell", 2)]) (tgl_1 2) (fun _ => rfl) (fun _ => sc__law_hand.nd) (di_sq (de_slL (de_var 0) do_none (do_some de_int))) (fun _ => blkOk_by (N := N__law_hand) (sc := defScope s__law_hand) (by decide +kernel)) dts_nil (dc_abs (fun _ => T.b_abs) (da_cons (dc_int (fun _ => T.b_int) (da_cons (de_var 2) da_nil)) da_nil)) (fun _ => pg_name (i := 2) sc__law_hand.nd rfl (Or.inl rfl)) (fun _ => sw_true rfl rfl rfl (by decide +kernel)))
    (ds_one (ds_ret (de_new (da_cons (de_var 1) (da_cons de_int (da_cons de_int (da_cons (de_add de_int (dc_len (fun _ => T.b_len) (da_cons (de_var 1) da_nil))) (da_cons de_int da_nil))))))))), fun ds S Q E h => ?_⟩), hm, hk, hb⟩
  obtain ⟨ns, rfl, k⟩ := h
  walk_at "go"
  have cut : Dy.cutD (ns.map D.int) none (some 63) = (ns.take 63).map D.int := by rw [cut_take (by decide), ← List.map_take]; rfl
  rw [cut]
  generalize hms : ns.take 63 = ms
  have h63 : (ms.map D.int).length ≤ 63 := by rw [← hms]; simp; omega
  have asI : ∀ x ∈ ms.map D.int, ∃ i, x = D.int i := fun x m => by
    obtain ⟨i, _, rfl⟩ := List.mem_map.mp m
    exact ⟨i, rfl⟩
  refine o_lcM absD rfl (small (by omega)) (fun x m P hP => ?_) ?_
  · obtain ⟨i, rfl⟩ := asI x m
    walk_at "go"
    exact hP
  walk_at "go"
  obtain ⟨gs, hgs⟩ : ∃ gs : List Int, List.map absD (ms.map D.int) = gs.map .int := all_int fun x m => by
    obtain ⟨y, my, rfl⟩ := List.mem_map.mp m
    obtain ⟨i, rfl⟩ := asI y my
    exact ⟨_, rfl⟩
  rw [hgs]
  refine k _ _ ⟨gs, 0, 0, 1 + (gs.map D.int).length, 0, ?_⟩ (by simp) rfl fun m hm => ?_
  · rw [List.getElem?_append_right (Nat.le_refl _)]; simp; rfl
  · rw [List.getElem?_append_left hm]
/-! one of several things -/
def spAny : DSp := fun ds S Q E => ∃ n d xs, ds = [.ref n, d] ∧ HandAt S n ∧ (∀ S', Kept [n] S S' → sqOf S' d = some xs) ∧ xs ≠ [] ∧ xs.length ≤ sizeLine ∧ ∀ x S', x ∈ xs → HandAt S' n → Kept [n] S S' → Q x S'
theorem log_len {n : Nat} (h : n ≤ sizeLine) : ((n : Int)).natAbs.log2 < 9000 := by
  have e : ((n : Int)).natAbs = n := rfl
  rw [e]
  have : n < 2 ^ 64 := Nat.lt_of_le_of_lt h (by decide)
  exact Nat.lt_trans (PySem.Flt.log2_lt_of (by decide) this) (by decide)
theorem log_int {k : Int} (h0 : 0 ≤ k) (h : k ≤ 1000000000) : k.natAbs.log2 < 9000 := by
  obtain ⟨n, rfl⟩ := Int.eq_ofNat_of_zero_le h0
  have e : ((n : Int)).natAbs = n := rfl
  rw [e]
  have : n < 2 ^ 64 := Nat.lt_of_le_of_lt (show n ≤ 1000000000 by omega) (by decide)
  exact Nat.lt_trans (PySem.Flt.log2_lt_of (by decide) this) (by decide)
theorem at_in {α : Type} {xs : List α} {r : Int} (h0 : 0 ≤ r) (h : r < xs.length) : ∃ x, atI xs r = some x ∧ x ∈ xs := by
  obtain ⟨k, rfl⟩ := Int.eq_ofNat_of_zero_le h0
  have hk : k < xs.length := by omega
  exact ⟨xs[k], by rw [atN, List.getElem?_eq_getElem hk], List.getElem_mem hk⟩
theorem ok__law_some (T : Txt K mg cCopyError cNoRun cBadText aL w) (c__law_draw : Cal P w K mg base "_law_draw" 1 ["_law_hand_here", "_law_many"] spDraw) : Cal P w K mg base "_law_some" 2 ["_law_hand_here", "_law_things"] spAny := by
  obtain ⟨f, fd, A, hm, hk, hb⟩ := T.d__law_some
  refine ⟨f, fd, dfn A sc__law_some (by intro ds S Q E h; obtain ⟨_, _, _, rfl, _⟩ := h; rfl) (fun cdv A outer s H E hr => ⟨_, (ds_one (ds_ret (de_at (de_var 1) (de_callC (fun _ => c__law_draw) (fun _ => hr) (by omega) (fun _ => bodyTk) (da_cons (de_var 0) (da_cons (dc_len (fun _ => T.b_len) (da_cons (de_var 1) da_nil)) da_nil)))))), fun ds S Q E h => ?_⟩), hm, hk, hb⟩
  obtain ⟨n, d, xs, rfl, hp, hd, hn, hz, k⟩ := h
  walk_at "go"
  refine o_len (hd S .refl) ?_
  walk_at "go"
  have : 0 < xs.length := List.length_pos_iff.mpr hn
  refine ⟨n, _, rfl, hp, by omega, log_len hz, fun r S' h0 h1 hp' kp => ?_⟩
  obtain ⟨x, hx, mx⟩ := at_in h0 h1
  exact o_ix (hd S' kp) hx (k x S' mx hp' kp)
theorem any_ok {n : Nat} {xs : List D} {S : Store} {Q : QD} {E : XQ} (hp : HandAt S n) (hne : xs ≠ []) (hz : xs.length ≤ 100000) (h : ∀ x S', x ∈ xs → HandAt S' n → Kept [n] S S' → Q x S') : spAny [.ref n, .lst xs] S Q E := ⟨n, .lst xs, xs, rfl, hp, fun _ _ => rfl, hne, small hz, h⟩
end
open PySem PySem.Spec PyProof.Rows L2 Dy

section
variable {cCopyError cNoRun cBadText aL : Addr} {P : Program} {w : World} {K : PySem.W.Frag} {mg : Str → Option Value} {base : Heap}
def isI : D → Bool
  | .int _ => true
  | _ => false
def spIsInt : DSp := fun ds S Q E => ∃ d, ds = [d] ∧ plainD d = true ∧ Q (.bl (isI d)) S
theorem not_if {b : Bool} {A B : Prop} (h : if b = true then B else A) : if (!b) = true then A else B := by
  cases b <;> simpa using h
theorem ok_is_integer (T : Txt K mg cCopyError cNoRun cBadText aL w) : Cal P w K mg base "is_integer" 1 ["thing"] spIsInt := by
  obtain ⟨f, fd, A, hm, hk, hb⟩ := T.d_is_integer
  refine ⟨f, fd, dfn A sc_is_integer (by intro ds S Q E h; obtain ⟨_, rfl, _⟩ := h; rfl) (fun cdv A outer s H E hr => ⟨_, (ds_one (ds_ret (de_and (dc_isi (T := "int") (by decide) (by decide) (fun _ => T.b_isinstance) (da_cons (de_var 0) (da_cons (de_bltn (by intro _; rfl) (fun _ => T.b_int) bt_int (d := .ty "int") (v := .ty "int") rfl rfl) da_nil))) (de_one (de_not (dc_isi (T := "bool") (by decide) (by decide) (fun _ => T.b_isinstance) (da_cons (de_var 0) (da_cons (de_bltn (by intro _; rfl) (fun _ => T.b_bool) bt_bool (d := .ty "bool") (v := .ty "bool") rfl rfl) da_nil)))))))), fun ds S Q E h => ?_⟩), hm, hk, hb⟩
  obtain ⟨d, rfl, hd, h⟩ := h
  walk_at "go"
  cases d <;> first | exact h | (walk_at "go"; exact h) | cases hd
theorem deed_nostr {a : D} {r : List D} (h : ∀ s, a ≠ .str s) : deedOf (.tup (a :: r)) = none := by
  unfold deedOf
  split
  · rename_i s b e
    simp only [D.tup.injEq, List.cons.injEq] at e
    exact absurd e.1 (h s)
  · rename_i s b c e
    simp only [D.tup.injEq, List.cons.injEq] at e
    exact absurd e.1 (h s)
  · rfl
theorem deed_two {s : Str} {a : D} : deedOf (.tup [.str s, a]) = match natOf a with
    | some i => if s = "change" then some (.ch i) else if s = "fork" then some (.fk i) else if s = "lose" then some (.ls i) else none
    | none => none := rfl
theorem deed_three {s : Str} {a b : D} : deedOf (.tup [.str s, a, b]) = match natOf a, natOf b with
    | some i, some j => if s = "join" ∧ i ≠ j then some (.jn i j) else none
    | _, _ => none := rfl
theorem deed_len {a : D} {r : List D} (h : r.length ≠ 1) (h2 : r.length ≠ 2) : deedOf (.tup (a :: r)) = none := by
  unfold deedOf
  split
  · rename_i e
    simp only [D.tup.injEq, List.cons.injEq] at e
    exact absurd (by rw [e.2]; rfl) h
  · rename_i e
    simp only [D.tup.injEq, List.cons.injEq] at e
    exact absurd (by rw [e.2]; rfl) h2
  · rfl
def dwords : List Str := ["change", "fork", "lose"]
theorem deed_other {s : Str} {r : List D} (h : s ∉ dwords) (hj : s ≠ "join") : deedOf (.tup (.str s :: r)) = none := by
  simp only [dwords, List.mem_cons, List.not_mem_nil, or_false, not_or] at h
  match r with
  | [] => rfl
  | [a] =>
    rw [deed_two]
    split
    · rw [if_neg h.1, if_neg h.2.1, if_neg h.2.2]
    · rfl
  | [a, b] =>
    rw [deed_three]
    split
    · rw [if_neg (fun z => hj z.1)]
    · rfl
  | a :: b :: c :: r => exact deed_len (by simp) (by simp)
theorem deed_one {s : Str} {a : D} (h : s ∈ dwords) : (deedOf (.tup [.str s, a])).isSome = (natOf a).isSome := by
  rw [deed_two]
  simp only [dwords, List.mem_cons, List.not_mem_nil, or_false] at h
  cases natOf a with
  | none => rfl
  | some i =>
    rcases h with rfl | rfl | rfl <;> rfl
theorem deed_oneL {s : Str} {r : List D} (h : s ∈ dwords) (hl : r.length ≠ 1) : deedOf (.tup (.str s :: r)) = none := by
  match r with
  | [] => rfl
  | [a] => exact absurd rfl hl
  | [a, b] =>
    rw [deed_three]
    split
    · rw [if_neg]
      rintro ⟨rfl, _⟩
      simp [dwords] at h
      revert h; decide
    · rfl
  | a :: b :: c :: r => exact deed_len (by simp) (by simp)
theorem deed_joinL {r : List D} (hl : r.length ≠ 2) : deedOf (.tup (.str "join" :: r)) = none := by
  match r with
  | [] => rfl
  | [a] => rw [deed_two]; split <;> rfl
  | [a, b] => exact absurd rfl hl
  | a :: b :: c :: r => exact deed_len (by simp) (by simp)
theorem tab_one {s : Str} (h : s ∈ dwords) : tabL.lookup s = some (.int 2) := by
  simp only [dwords, List.mem_cons, List.not_mem_nil, or_false] at h
  rcases h with rfl | rfl | rfl <;> rfl
theorem tab_join : tabL.lookup ("join" : Str) = some (.int 3) := rfl
theorem tab_no {s : Str} (h : s ∉ dwords) (hj : s ≠ "join") : tabL.lookup s = none := by
  simp only [dwords, List.mem_cons, List.not_mem_nil, or_false, not_or] at h
  have h1 : (s == ("change" : Str)) = false := by simpa using h.1
  have h2 : (s == ("fork" : Str)) = false := by simpa using h.2.1
  have h3 : (s == ("join" : Str)) = false := by simpa using hj
  have h4 : (s == ("lose" : Str)) = false := by simpa using h.2.2
  simp only [tabL, List.lookup, h1, h2, h3, h4]
theorem cut1 {a : D} {r : List D} : Dy.cutD (a :: r) (some 1) none = r := by rw [cut_drop (by decide)]; rfl
/-- plain, the items of a tuple plain -/
def DatD (d : D) : Prop := plainD d = true ∧ ∀ xs, d = .tup xs → xs.length ≤ 10000 ∧ ∀ x ∈ xs, plainD x = true
theorem dat_d {d : D} (h : Dat d) : DatD d := ⟨h.plain, fun xs e => by
  subst e
  cases h
  rename_i hx z
  exact ⟨by omega, fun x m => (hx x m).plain⟩⟩
def spIsDeed : DSp := fun ds S Q E => ∃ d, ds = [d] ∧ DatD d ∧ Q (.bl (deedOf d).isSome) S
theorem ok_is_deed (T : Txt K mg cCopyError cNoRun cBadText aL w) (c_is_integer : Cal P w K mg base "is_integer" 1 ["thing"] spIsInt) : Cal P w K mg base "is_deed" 2 ["thing"] spIsDeed := by
  obtain ⟨f, fd, A, hm, hk, hb⟩ := T.d_is_deed
  refine ⟨f, fd, dfn A sc_is_deed (by intro ds S Q E h; obtain ⟨_, rfl, _⟩ := h; rfl) (fun cdv A outer s H E hr => ⟨_, (ds_cons (ds_if (DW.dt (dw_or (dt_not (dt_val (dc_isi (T := "tuple") (by decide) (by decide) (fun _ => T.b_isinstance) (da_cons (de_var 0) (da_cons (de_bltn (by intro _; rfl) (fun _ => T.b_tuple) bt_tuple (d := .ty "tuple") (v := .ty "tuple") rfl rfl) da_nil))))) (dw_or1 (dt_not (dt_truth (de_var 0))))))
    (ds_one (ds_ret de_bl))
    ds_nil)
    (ds_cons (ds_set 1 (fun _ => sc_is_deed.nd) (de_at (de_var 0) de_int))
    (ds_cons (ds_if (DW.dt (dw_or (dt_not (dt_val (dc_isi (T := "str") (by decide) (by decide) (fun _ => T.b_isinstance) (da_cons (de_var 1) (da_cons (de_bltn (by intro _; rfl) (fun _ => T.b_str) bt_str (d := .ty "str") (v := .ty "str") rfl rfl) da_nil))))) (dw_or (dt_cmp (oq_kNotIn T.t_LENGTHS (fun _ => rfl)) (lk_kIn T.t_LENGTHS true) (de_var 1) (de_k (fun _ => rfl) T.k_LENGTHS) (by rfl)) (dw_or1 (dt_cmp (oq_ne fun _ => hr) lk_ne (dc_len (fun _ => T.b_len) (da_cons (de_var 0) da_nil)) (de_kget T.t_LENGTHS (fun _ => rfl) (de_k (fun _ => rfl) T.k_LENGTHS) (de_var 1)) (nomark _))))))
    (ds_one (ds_ret de_bl))
    ds_nil)
    (ds_cons (ds_if (dt_not (dt_val (dc_all (fun _ => rfl) (fun _ => T.b_all) (da_cons (de_lc 2 (fun _ => rfl) (fun _ => sc_is_deed.nd) (di_sq (de_slT (de_var 0) (do_some de_int) do_none)) (fun _ => blkOk_by (N := N_is_deed) (sc := defScope s_is_deed) (by decide +kernel)) dts_nil (de_and (de_callC (fun _ => c_is_integer) (fun _ => hr) (by omega) (fun _ => takes0) (da_cons (de_var 2) da_nil)) (de_one (de_cmp (fun _ => op_ge) lk_ge (de_var 2) de_int (nomark _)))) (fun _ => pg_name (i := 2) sc_is_deed.nd rfl (Or.inl rfl))) da_nil))))
    (ds_one (ds_ret de_bl))
    ds_nil)
    (ds_one (ds_ret (de_or (de_cmp (oq_ne fun _ => hr) lk_ne (de_var 1) de_str (nomark _)) (de_one (de_cmp (oq_ne fun _ => hr) lk_ne (de_at (de_var 0) de_int) (de_at (de_var 0) de_int) (nomark _)))))))))), fun ds S Q E h => ?_⟩), hm, hk, hb⟩
  obtain ⟨d, rfl, hd, h⟩ := h
  have pd := hd.1
  walk_at "go"
  cases d with
  | tup xs =>
    obtain ⟨hz, hx⟩ := hd.2 xs rfl
    cases xs with
    | nil => walk_at "go"; exact h
    | cons a r =>
      have hxr : ∀ x ∈ r, plainD x = true := fun x m => hx x (List.mem_cons_of_mem _ m)
      have pa := hx a List.mem_cons_self
      have hr1 : r.length + 1 ≤ 10000 := hz
      walk_at "go"
      cases a with
      | str s =>
        walk_at "go"
        refine o_kIn ?_
        walk_at "go"
        by_cases hj : s = "join"
        · subst hj
          rw [tab_join]
          walk_at "go"
          refine o_kGet tab_join ?_
          walk_at "go"
          rw [Bool.true_xor]
          refine not_if (ifD (fun hl => ?_) (fun hl => ?_))
          · have hl2 : r.length = 2 := by simp at hl; omega
            walk_at "go"
            rw [cut1]
            refine o_lcM (fun x => .bl (natOf x).isSome) rfl (small (by omega)) (fun x mx Pz hP => ?_) ?_
            · walk_at "go"
              refine ⟨x, rfl, hxr x mx, ?_⟩
              walk_at "go"
              refine ifB (fun e => ?_) (fun e => ?_)
              · cases x with
                | int i =>
                  walk_at "go"
                  by_cases hi : 0 ≤ i
                  · rw [decide_eq_true hi]
                    have hP : Pz (.bl (if 0 ≤ i then some i.toNat else none).isSome) S := hP
                    rw [if_pos hi] at hP
                    exact hP
                  · rw [decide_eq_false hi]
                    have hP : Pz (.bl (if 0 ≤ i then some i.toNat else none).isSome) S := hP
                    rw [if_neg hi] at hP
                    exact hP
                | _ => cases e
              · cases x with
                | int i => cases e
                | _ => exact hP
            walk_at "go"
            refine o_all (g := fun x => (natOf x).isSome) ?_
            walk_at "go"
            refine not_if (ifB (fun e => ?_) (fun e => ?_))
            · obtain ⟨x, y, rfl⟩ : ∃ x y, r = [x, y] := by
                match r, hl2 with
                | [x, y], _ => exact ⟨x, y, rfl⟩
              simp only [List.all_cons, List.all_nil, Bool.and_true, Bool.and_eq_true] at e
              obtain ⟨i, ei⟩ := Option.isSome_iff_exists.mp e.1
              obtain ⟨j, ej⟩ := Option.isSome_iff_exists.mp e.2
              have e1 := natOf_d ei
              have e2 := natOf_d ej
              subst e1 e2
              rw [deed_three, natOf_n, natOf_n] at h
              walk_at "go"
              by_cases hij : i = j
              · subst hij
                have w1 : (true ^^ decide ((i : Int) = (i : Int))) = false := by simp
                rw [w1]
                have h : Q (.bl (if ("join" : Str) = "join" ∧ i ≠ i then some (Deed.jn i i) else none).isSome) S := h
                rw [if_neg (fun z => z.2 rfl)] at h
                exact h
              · have w1 : (true ^^ decide ((i : Int) = (j : Int))) = true := by
                  rw [decide_eq_false (by omega)]; rfl
                rw [w1]
                have h : Q (.bl (if ("join" : Str) = "join" ∧ i ≠ j then some (Deed.jn i j) else none).isSome) S := h
                rw [if_pos ⟨rfl, hij⟩] at h
                exact h
            · have e0 : deedOf (.tup (.str "join" :: r)) = none := by
                match r, hl2 with
                | [x, y], _ =>
                  rw [deed_three]
                  simp only [List.all_cons, List.all_nil, Bool.and_true] at e
                  cases ei : natOf x with
                  | none => rfl
                  | some i =>
                    cases ej : natOf y with
                    | none => rfl
                    | some j => rw [ei, ej] at e; cases e
              rw [e0] at h
              walk_at "go"
              exact h
          · have hl2 : r.length ≠ 2 := fun e => hl (by simp [e])
            rw [deed_joinL hl2] at h
            walk_at "go"
            exact h
        · by_cases hs : s ∈ dwords
          · rw [tab_one hs]
            walk_at "go"
            refine o_kGet (tab_one hs) ?_
            walk_at "go"
            rw [Bool.true_xor]
            refine not_if (ifD (fun hl => ?_) (fun hl => ?_))
            · have hl2 : r.length = 1 := by simp at hl; omega
              walk_at "go"
              rw [cut1]
              refine o_lcM (fun x => .bl (natOf x).isSome) rfl (small (by omega)) (fun x mx Pz hP => ?_) ?_
              · walk_at "go"
                refine ⟨x, rfl, hxr x mx, ?_⟩
                walk_at "go"
                refine ifB (fun e => ?_) (fun e => ?_)
                · cases x with
                  | int i =>
                    walk_at "go"
                    by_cases hi : 0 ≤ i
                    · rw [decide_eq_true hi]
                      have hP : Pz (.bl (if 0 ≤ i then some i.toNat else none).isSome) S := hP
                      rw [if_pos hi] at hP
                      exact hP
                    · rw [decide_eq_false hi]
                      have hP : Pz (.bl (if 0 ≤ i then some i.toNat else none).isSome) S := hP
                      rw [if_neg hi] at hP
                      exact hP
                  | _ => cases e
                · cases x with
                  | int i => cases e
                  | _ => exact hP
              walk_at "go"
              refine o_all (g := fun x => (natOf x).isSome) ?_
              walk_at "go"
              obtain ⟨x, rfl⟩ : ∃ x, r = [x] := by
                match r, hl2 with
                | [x], _ => exact ⟨x, rfl⟩
              rw [deed_one hs] at h
              have ea : ([x] : List D).all (fun x => (natOf x).isSome) = (natOf x).isSome := by simp
              rw [ea]
              refine not_if (ifB (fun e => ?_) (fun e => ?_))
              · walk_at "go"
                have w0 : (true ^^ decide (s = "join")) = true := by rw [decide_eq_false hj]; rfl
                rw [w0]
                walk_at "go"
                rw [e] at h
                exact h
              · rw [e] at h
                walk_at "go"
                exact h
            · have hl2 : r.length ≠ 1 := fun e => hl (by simp [e])
              rw [deed_oneL hs hl2] at h
              walk_at "go"
              exact h
          · rw [tab_no hs hj]
            rw [deed_other hs hj] at h
            walk_at "go"
            exact h
      | _ => first | (rw [deed_nostr (by intro s e; cases e)] at h; walk_at "go"; exact h) | cases pa
  | _ => first | (walk_at "go"; exact h) | cases pd
def DatR (d : D) : Prop := plainD d = true ∧ ∀ xs, d = .tup xs → xs.length ≤ 10000 ∧ ∀ x ∈ xs, DatD x
theorem dat_r {d : D} (h : Dat d) : DatR d := ⟨h.plain, fun xs e => by
  subst e
  cases h
  rename_i hx z
  exact ⟨by omega, fun x m => dat_d (hx x m)⟩⟩
def spIsRun : DSp := fun ds S Q E => ∃ d, ds = [d] ∧ DatR d ∧ Q (.bl (runOf d).isSome) S
theorem ok_is_run (T : Txt K mg cCopyError cNoRun cBadText aL w) (c_is_deed : Cal P w K mg base "is_deed" 2 ["thing"] spIsDeed) : Cal P w K mg base "is_run" 3 ["thing"] spIsRun := by
  obtain ⟨f, fd, A, hm, hk, hb⟩ := T.d_is_run
  refine ⟨f, fd, dfn A sc_is_run (by intro ds S Q E h; obtain ⟨_, rfl, _⟩ := h; rfl) (fun cdv A outer s H E hr => ⟨_, (ds_one (ds_ret (de_and (dc_isi (T := "tuple") (by decide) (by decide) (fun _ => T.b_isinstance) (da_cons (de_var 0) (da_cons (de_bltn (by intro _; rfl) (fun _ => T.b_tuple) bt_tuple (d := .ty "tuple") (v := .ty "tuple") rfl rfl) da_nil))) (de_one (dc_all (fun _ => rfl) (fun _ => T.b_all) (da_cons (de_lc 1 (fun _ => rfl) (fun _ => sc_is_run.nd) (di_sq (de_var 0)) (fun _ => blkOk_by (N := N_is_run) (sc := defScope s_is_run) (by decide +kernel)) dts_nil (de_callC (fun _ => c_is_deed) (fun _ => hr) (by omega) (fun _ => takes0) (da_cons (de_var 1) da_nil)) (fun _ => pg_name (i := 1) sc_is_run.nd rfl (Or.inl rfl))) da_nil)))))), fun ds S Q E h => ?_⟩), hm, hk, hb⟩
  obtain ⟨d, rfl, hd, h⟩ := h
  have pd := hd.1
  walk_at "go"
  cases d with
  | tup xs =>
    obtain ⟨hz, hx⟩ := hd.2 xs rfl
    walk_at "go"
    refine o_lcM (fun x => .bl (deedOf x).isSome) rfl (small (by omega)) (fun x mx Pz hP => ?_) ?_
    · walk_at "go"
      exact ⟨x, rfl, hx x mx, hP⟩
    walk_at "go"
    refine o_all (g := fun x => (deedOf x).isSome) ?_
    rw [← deedsOf_all]
    exact h
  | _ => first | (walk_at "go"; exact h) | cases pd
end
open PySem PySem.Spec PyProof.Rows L2 Dy

section
variable {cCopyError cNoRun cBadText aL : Addr} {P : Program} {w : World} {K : PySem.W.Frag} {mg : Str → Option Value} {base : Heap}
def digD : D → Bool
  | .str z => match z.cps.toList with
    | [c] => decide (48 ≤ c ∧ c ≤ 57)
    | _ => false
  | _ => false
theorem digs_all (z : Str) : (z.cps.toList.map fun c => D.str ⟨#[c]⟩).all digD = z.cps.toList.all fun c => decide (48 ≤ c ∧ c ≤ 57) := by
  rw [List.all_map]; rfl
theorem dig_in {c : Nat} : decide (c ∈ ("0123456789" : Str).cps.toList) = decide (48 ≤ c ∧ c ≤ 57) := decide_eq_decide.mpr mem_digs
theorem one_zero {c : Nat} : decide ((⟨#[c]⟩ : Str) = "0") = decide (c = 48) := by
  refine decide_eq_decide.mpr ⟨fun e => ?_, fun e => by subst e; decide⟩
  have h : (⟨#[c]⟩ : Str).cps.toList = ("0" : Str).cps.toList := by rw [e]
  have h2 : ("0" : Str).cps.toList = [48] := TL.tl_ofString "0"
  rw [h2] at h
  simpa using h
def spNum : DSp := fun ds S Q E => ∃ z : Str, ds = [.str z] ∧ z.length ≤ 100000 ∧ Q (optD (figOf z)) S
theorem ok_number_in (T : Txt K mg cCopyError cNoRun cBadText aL w) : Cal P w K mg base "number_in" 1 ["word"] spNum := by
  obtain ⟨f, fd, A, hm, hk, hb⟩ := T.d_number_in
  refine ⟨f, fd, dfn A sc_number_in (by intro ds S Q E h; obtain ⟨_, rfl, _⟩ := h; rfl) (fun cdv A outer s H E hr => ⟨_, (ds_cons (ds_if (DW.dt (dw_or (dt_not (dt_chain (fun _ => op_le) (fun _ => op_le) lk_le lk_le de_int (dc_lenS (fun _ => T.b_len) (da_cons (de_var 0) da_nil)) (de_k (fun _ => rfl) T.k_MOST_FIGURES))) (dw_or1 (dt_not (dt_val (dc_all (fun _ => rfl) (fun _ => T.b_all) (da_cons (de_lc 1 (fun _ => rfl) (fun _ => sc_number_in.nd) (di_str (de_var 0)) (fun _ => blkOk_by (N := N_number_in) (sc := defScope s_number_in) (by decide +kernel)) dts_nil (de_cmp (fun _ => op_inS) lk_inStr (de_var 1) (de_k (fun _ => rfl) T.k_DIGITS) (by rfl)) (fun _ => pg_name (i := 1) sc_number_in.nd rfl (Or.inl rfl))) da_nil)))))))
    (ds_one (ds_ret de_non))
    ds_nil)
    (ds_cons (ds_if (DW.dt (dw_and (dt_cmp (oq_eq fun _ => hr) lk_eq (de_atS (de_var 0) de_int) de_str (nomark _)) (dw_and1 (dt_cmp (fun _ => op_gt) lk_gt (dc_lenS (fun _ => T.b_len) (da_cons (de_var 0) da_nil)) de_int (nomark _)))))
    (ds_one (ds_ret de_non))
    ds_nil)
    (ds_one (ds_ret (dc_intS (fun _ => T.b_int) (da_cons (de_var 0) da_nil)))))), fun ds S Q E h => ?_⟩), hm, hk, hb⟩
  obtain ⟨z, rfl, hz, h⟩ := h
  have hz' : z.length ≤ sizeLine := small hz
  have no : isNum z = false → Q .non S := fun e => by
    have e2 : figOf z = none := by unfold figOf; rw [if_neg (by rw [e]; decide)]
    rw [e2] at h; exact h
  have yes : isNum z = true → Q (.int ((NumText.digitsVal z.cps.toList : Nat) : Int)) S := fun e => by
    have e2 : figOf z = some (NumText.digitsVal z.cps.toList) := by unfold figOf; rw [if_pos e]
    rw [e2] at h; exact h
  have fail : ¬ ((1 ≤ z.length ∧ z.length ≤ 9) ∧ NumText.AllDigits z.cps.toList) → Q .non S := fun c => no (Bool.eq_false_iff.mpr fun z1 => c ⟨(isNum_iff.mp z1).1, (isNum_iff.mp z1).2.1⟩)
  walk_at "go"
  refine ifD (fun c1 => ?_) (fun c1 => ?_)
  · walk_at "go"
    refine not_if (ifD (fun c2 => ?_) (fun c2 => ?_))
    · walk_at "go"
      refine o_lcM (fun x => .bl (digD x)) trivial (small (by rw [List.length_map, ← str_len]; exact hz)) (fun x mx Pz hP => ?_) ?_
      · obtain ⟨c, _, rfl⟩ := List.mem_map.mp mx
        walk_at "go"
        rw [Bool.false_xor, dig_in]
        exact hP
      walk_at "go"
      refine o_all (g := digD) ?_
      rw [digs_all]
      walk_at "go"
      refine not_if (ifB (fun c3 => ?_) (fun c3 => ?_))
      · have ad : NumText.AllDigits z.cps.toList := fun c m => of_decide_eq_true (List.all_eq_true.mp c3 c m)
        have hl : 1 ≤ z.length ∧ z.length ≤ 9 := by omega
        cases ez : z.cps.toList with
        | nil =>
          have := str_len z
          rw [ez] at this
          simp at this
          omega
        | cons c r =>
          walk_at "go"
          refine o_atS ez ?_
          walk_at "go"
          rw [Bool.false_xor, one_zero]
          refine ifD (fun c4 => ?_) (fun c4 => ?_)
          · subst c4
            walk_at "go"
            refine ifD (fun c5 => ?_) (fun c5 => ?_)
            · walk_at "go"
              refine no (Bool.eq_false_iff.mpr fun z1 => (isNum_iff.mp z1).2.2 ⟨by rw [ez]; rfl, by omega⟩)
            · have en : isNum z = true := isNum_iff.mpr ⟨hl, ad, fun z1 => c5 (by omega)⟩
              have e2 : figOf z = some (NumText.digitsVal z.cps.toList) := by unfold figOf; rw [if_pos en]
              walk_at "go"
              exact o_intS (int_of_num e2).1 (int_of_num e2).2 (yes en)
          · have en : isNum z = true := isNum_iff.mpr ⟨hl, ad, fun z1 => c4 (by have := z1.1; rw [ez] at this; simpa using this)⟩
            have e2 : figOf z = some (NumText.digitsVal z.cps.toList) := by unfold figOf; rw [if_pos en]
            walk_at "go"
            exact o_intS (int_of_num e2).1 (int_of_num e2).2 (yes en)
      · walk_at "go"
        exact fail fun z1 => by
          rw [List.all_eq_true.mpr fun c m => decide_eq_true (z1.2 c m)] at c3
          cases c3
    · walk_at "go"
      exact fail fun z1 => by omega
  · walk_at "go"
    exact fail fun z1 => by omega
def spLine : DSp := fun ds S Q E => ∃ x : Deed, ds = [x.d] ∧ deedSm x ∧ Q (.str (lineS x)) S
theorem log_strN {n : Nat} (h : n < 10 ^ 9) : ((n : Int)).natAbs.log2 < 1920 := by
  have e : ((n : Int)).natAbs = n := rfl
  rw [e]
  have : n < 2 ^ 64 := Nat.lt_of_lt_of_le h (by decide)
  exact Nat.lt_trans (PySem.Flt.log2_lt_of (by decide) this) (by decide)
theorem dig1 {n : Nat} (h : n < 10 ^ 9) : (strN n).length ≤ 9 := by
  rw [str_len, tl_strN]
  exact TL.numL_len (by decide) h
theorem words_sum {x : Deed} (h : deedSm x) : sumL (wordsD x) ≤ 24 ∧ (wordsD x).length ≤ 3 := by
  have l1 : ("change" : Str).length = 6 := by decide
  have l2 : ("fork" : Str).length = 4 := by decide
  have l3 : ("join" : Str).length = 4 := by decide
  have l4 : ("lose" : Str).length = 4 := by decide
  cases x with
  | ch i => have := dig1 h; unfold sumL wordsD; simp only [List.map_cons, List.map_nil, List.sum_cons, List.sum_nil, List.length_cons, List.length_nil]; omega
  | fk i => have := dig1 h; unfold sumL wordsD; simp only [List.map_cons, List.map_nil, List.sum_cons, List.sum_nil, List.length_cons, List.length_nil]; omega
  | ls i => have := dig1 h; unfold sumL wordsD; simp only [List.map_cons, List.map_nil, List.sum_cons, List.sum_nil, List.length_cons, List.length_nil]; omega
  | jn i j => have := dig1 h.1; have := dig1 h.2.1; unfold sumL wordsD; simp only [List.map_cons, List.map_nil, List.sum_cons, List.sum_nil, List.length_cons, List.length_nil]; omega
theorem bl_len : (" " : Str).length = 1 := by decide
theorem nl_len : ("
" : Str).length = 1 := by decide
theorem line_le {x : Deed} (h : deedSm x) : (lineS x).length ≤ 27 := by
  have h1 := join_le " " (wordsD x)
  have h2 := words_sum h
  rw [bl_len] at h1
  unfold lineS
  omega
/-- what str makes of a word or a copy -/
def strD : D → D
  | .int i => .str (Str.ofString (toString i))
  | d => d
def partsOf : Deed → List D
  | .ch i => [.str "change", natD i]
  | .fk i => [.str "fork", natD i]
  | .jn i j => [.str "join", natD i, natD j]
  | .ls i => [.str "lose", natD i]
theorem parts_d {x : Deed} : x.d = .tup (partsOf x) := by cases x <;> rfl
theorem parts_str {x : Deed} : (partsOf x).map strD = (wordsD x).map .str := by cases x <;> rfl
theorem parts_mem {x : Deed} (h : deedSm x) : ∀ y ∈ partsOf x, (∃ s, y = .str s) ∨ ∃ n : Nat, y = natD n ∧ n < 10 ^ 9 := fun y m => by
  cases x with
  | ch i =>
    simp only [partsOf, List.mem_cons, List.not_mem_nil, or_false] at m
    rcases m with rfl | rfl
    · exact .inl ⟨_, rfl⟩
    · exact .inr ⟨_, rfl, h⟩
  | fk i =>
    simp only [partsOf, List.mem_cons, List.not_mem_nil, or_false] at m
    rcases m with rfl | rfl
    · exact .inl ⟨_, rfl⟩
    · exact .inr ⟨_, rfl, h⟩
  | ls i =>
    simp only [partsOf, List.mem_cons, List.not_mem_nil, or_false] at m
    rcases m with rfl | rfl
    · exact .inl ⟨_, rfl⟩
    · exact .inr ⟨_, rfl, h⟩
  | jn i j =>
    simp only [partsOf, List.mem_cons, List.not_mem_nil, or_false] at m
    rcases m with rfl | rfl | rfl
    · exact .inl ⟨_, rfl⟩
    · exact .inr ⟨_, rfl, h.1⟩
    · exact .inr ⟨_, rfl, h.2.1⟩
theorem join_size {y : Str} {ys : List Str} (h : sumL ys + ys.length * y.length ≤ 1000000) : (ys.map (·.length)).sum + ys.length * y.length ≤ 16777216 := by
  have : (ys.map (·.length)).sum = sumL ys := rfl
  omega
theorem ok_line_of (T : Txt K mg cCopyError cNoRun cBadText aL w) : Cal P w K mg base "line_of" 1 ["words"] spLine := by
  obtain ⟨f, fd, A, hm, hk, hb⟩ := T.d_line_of
  refine ⟨f, fd, dfn A sc_line_of (by intro ds S Q E h; obtain ⟨_, rfl, _⟩ := h; rfl) (fun cdv A outer s H E hr => ⟨_, (ds_one (ds_ret (de_join de_str (de_lc 1 (fun _ => rfl) (fun _ => sc_line_of.nd) (di_sq (de_var 0)) (fun _ => blkOk_by (N := N_line_of) (sc := defScope s_line_of) (by decide +kernel)) dts_nil (dc_str (fun _ => T.b_str) (da_cons (de_var 1) da_nil)) (fun _ => pg_name (i := 1) sc_line_of.nd rfl (Or.inl rfl)))))), fun ds S Q E h => ?_⟩), hm, hk, hb⟩
  obtain ⟨x, rfl, hx, h⟩ := h
  rw [parts_d]
  walk_at "go"
  refine o_lcM strD rfl (small (by cases x <;> simp [partsOf])) (fun y my Pz hP => ?_) ?_
  · walk_at "go"
    rcases parts_mem hx y my with ⟨s, rfl⟩ | ⟨n, rfl, hn⟩
    · exact o_strS hP
    · exact o_strN (log_strN hn) hP
  walk_at "go"
  rw [parts_str]
  have h2 := words_sum hx
  exact o_join rfl (join_size (by rw [bl_len]; omega)) h
def spRunText (cNoRun : Addr) : DSp := fun ds S Q E => ∃ d, ds = [d] ∧ DatR d ∧ (runOf d = none → E ⟨cNoRun, none⟩ S) ∧ (∀ r, runOf d = some r → r.length ≤ 1000 ∧ (∀ x ∈ r, deedSm x) ∧ Q (.str (textS r)) S)
theorem lines_sum : ∀ {r : List Deed}, (∀ x ∈ r, deedSm x) → sumL (r.map lineS) ≤ 27 * r.length
  | [], _ => by simp [sumL]
  | x :: r, h => by
    have h1 := line_le (h x (by simp))
    have h2 := lines_sum fun y m => h y (List.mem_cons_of_mem _ m)
    have : sumL ((x :: r).map lineS) = (lineS x).length + sumL (r.map lineS) := rfl
    simp only [List.length_cons]
    omega
def lineD (d : D) : D := match deedOf d with
  | some x => .str (lineS x)
  | none => .non
theorem deed_n {x : Deed} (h : deedSm x) : deedOf x.d = some x := by
  cases x with
  | ch i => rw [ch_d, deed2, natOf_n]; rfl
  | fk i => rw [fk_d, deed2, natOf_n]; rfl
  | ls i => rw [ls_d, deed2, natOf_n]; rfl
  | jn i j => rw [jn_d, deed3, natOf_n, natOf_n]; exact if_pos ⟨rfl, h.2.2⟩
theorem lines_d {r : List Deed} (h : ∀ x ∈ r, deedSm x) : (r.map Deed.d).map lineD = (r.map lineS).map .str := by
  rw [List.map_map, List.map_map]
  refine List.map_congr_left fun x m => ?_
  show lineD x.d = .str (lineS x)
  unfold lineD
  rw [deed_n (h x m)]
theorem text_le {r : List Deed} (h : ∀ x ∈ r, deedSm x) : (textS r).length ≤ 28 * r.length := by
  have h1 := join_le "\n" (r.map lineS)
  have h2 := lines_sum h
  rw [nl_len, List.length_map] at h1
  unfold textS
  omega
theorem ok_run_text (T : Txt K mg cCopyError cNoRun cBadText aL w) (c_is_run : Cal P w K mg base "is_run" 3 ["thing"] spIsRun) (c_line_of : Cal P w K mg base "line_of" 1 ["words"] spLine) : Cal P w K mg base "run_text" 5 ["run"] (spRunText cNoRun) := by
  obtain ⟨f, fd, A, hm, hk, hb⟩ := T.d_run_text
  refine ⟨f, fd, dfn A sc_run_text (by intro ds S Q E h; obtain ⟨_, rfl, _⟩ := h; rfl) (fun cdv A outer s H E hr => ⟨_, (ds_cons (ds_if (dt_not (dt_val (de_callC (fun _ => c_is_run) (fun _ => hr) (by omega) (fun _ => bodyTk) (da_cons (de_var 0) da_nil))))
    (ds_one (ds_raise0 (fun _ => rfl) T.e_NoRun (fun _ => bodyTk) (fun _ => T.c_NoRun)))
    ds_nil)
    (ds_one (ds_ret (de_join de_str (de_lc 1 (fun _ => rfl) (fun _ => sc_run_text.nd) (di_sq (de_var 0)) (fun _ => blkOk_by (N := N_run_text) (sc := defScope s_run_text) (by decide +kernel)) dts_nil (de_callC (fun _ => c_line_of) (fun _ => hr) (by omega) (fun _ => takes0) (da_cons (de_var 1) da_nil)) (fun _ => pg_name (i := 1) sc_run_text.nd rfl (Or.inl rfl))))))), fun ds S Q E h => ?_⟩), hm, hk, hb⟩
  obtain ⟨d, rfl, hd, h1, h2⟩ := h
  walk_at "go"
  refine ⟨d, rfl, hd, ?_⟩
  walk_at "go"
  cases er : runOf d with
  | none =>
    walk_at "go"
    exact h1 er
  | some r =>
    obtain ⟨hl, hs, hq⟩ := h2 r er
    have ed := runOf_d er
    subst ed
    walk_at "go"
    refine o_lcM lineD rfl (small (by rw [List.length_map]; omega)) (fun y my Pz hP => ?_) ?_
    · obtain ⟨x, mx, rfl⟩ := List.mem_map.mp my
      walk_at "go"
      refine ⟨x, rfl, hs x mx, ?_⟩
      unfold lineD at hP
      rw [deed_n (hs x mx)] at hP
      exact hP
    walk_at "go"
    rw [lines_d hs]
    have h3 := lines_sum hs
    refine o_join rfl (join_size ?_) hq
    rw [nl_len, List.length_map]
    omega
def spChkT (cBadText : Addr) : DSp := fun ds S Q E => ∃ d, ds = [d] ∧ plainD d = true ∧ ((∃ z, d = .str z) → Q .non S) ∧ ((∀ z, d ≠ .str z) → E ⟨cBadText, some [("line", .int 0)]⟩ S)
theorem ok_BadText (T : Txt K mg cCopyError cNoRun cBadText aL w) : CalE P w K mg base "BadText" cBadText "line" := by
  obtain ⟨f, fd, A, M, hb⟩ := T.d_BadText___init__
  exact ⟨f, fd, M, T.c_BadText, err_init A sc_BadText___init__ rfl M, hb⟩
theorem ok_check_text (T : Txt K mg cCopyError cNoRun cBadText aL w) (e_BadText : CalE P w K mg base "BadText" cBadText "line") : Cal P w K mg base "check_text" 3 ["thing"] (spChkT cBadText) := by
  obtain ⟨f, fd, A, hm, hk, hb⟩ := T.d_check_text
  refine ⟨f, fd, dfn A sc_check_text (by intro ds S Q E h; obtain ⟨_, rfl, _⟩ := h; rfl) (fun cdv A outer s H E hr => ⟨_, (ds_one (ds_if (dt_not (dt_val (dc_isi (T := "str") (by decide) (by decide) (fun _ => T.b_isinstance) (da_cons (de_var 0) (da_cons (de_bltn (by intro _; rfl) (fun _ => T.b_str) bt_str (d := .ty "str") (v := .ty "str") rfl rfl) da_nil)))))
    (ds_one (ds_raiseC (fun _ => rfl) e_BadText (fun _ => rfl) (fun _ => rfl) (fun _ => rfl) (fun _ => rfl) (fun _ => bodyTk) (fun _ => hr) (by omega) de_int))
    ds_nil)), fun ds S Q E h => ?_⟩), hm, hk, hb⟩
  obtain ⟨d, rfl, hd, h1, h2⟩ := h
  walk_at "go"
  cases d <;> first
    | (walk_at "go"; exact h1 ⟨_, rfl⟩)
    | (walk_at "go"; exact h2 (by intro z e; cases e))
    | cases hd
end
open PySem PySem.Spec PyProof.Rows L2 Dy

section
variable {cCopyError cNoRun cBadText aL : Addr} {P : Program} {w : World} {K : PySem.W.Frag} {mg : Str → Option Value} {base : Heap}
/-- only new things came -/
def Grown (S S' : Store) : Prop := S.length ≤ S'.length ∧ ∀ m : Nat, m < S.length → S'[m]? = S[m]?
theorem Grown.refl {S : Store} : Grown S S := ⟨Nat.le_refl _, fun _ _ => rfl⟩
theorem Grown.trans {S S1 S2 : Store} (h : Grown S S1) (k : Grown S1 S2) : Grown S S2 := ⟨Nat.le_trans h.1 k.1, fun m hm => (k.2 m (Nat.lt_of_lt_of_le hm h.1)).trans (h.2 m hm)⟩
theorem mem_sum {y : Str} {ys : List Str} (h : y ∈ ys) : y.length ≤ sumL ys := by
  have := sum_sub (List.singleton_sublist.mpr h)
  have e : sumL [y] = y.length := by simp [sumL]
  omega
theorem split_part {x y z : Str} (h : z ∈ Txt.split x y) : z.length ≤ x.length := by
  have h1 := mem_sum h
  have h2 := split_sum x y
  omega
theorem split_many (x y : Str) : (Txt.split x y).length ≤ x.length + 2 := split_le x y
def figD : D → D
  | .str z => optD (figOf z)
  | _ => .non
theorem lnW_plain {ws : List Str} (h : ws.length ≤ 10000) : DatD (lnW ws) := by
  cases ws with
  | nil => exact ⟨rfl, fun xs e => by cases e; exact ⟨by simp, fun x m => by cases m⟩⟩
  | cons w ws =>
    refine ⟨rfl, fun xs e => ?_⟩
    cases e
    refine ⟨by simp at h ⊢; omega, fun x m => ?_⟩
    rcases List.mem_cons.mp m with rfl | m
    · rfl
    · obtain ⟨z, _, rfl⟩ := List.mem_map.mp m
      cases figOf z <;> rfl
def goR (r : List Deed) : Nat ⊕ List Deed → Nat ⊕ List Deed
  | .inl k => .inl k
  | .inr s => .inr (r ++ s)
theorem go_cons {l : Str} {ls : List Str} {i : Nat} {x : Deed} {acc : List Deed} (h : deedOf (lnD l) = some x) : goR acc (readR (l :: ls) i) = goR (acc ++ [x]) (readR ls (i + 1)) := by
  rw [readR, h]
  show goR acc (match readR ls (i + 1) with | .inl k => .inl k | .inr r => .inr (x :: r)) = _
  cases readR ls (i + 1) with
  | inl k => rfl
  | inr s => show (Sum.inr (acc ++ x :: s) : Nat ⊕ List Deed) = .inr (acc ++ [x] ++ s); rw [List.append_assoc]; rfl
def spRead (cBadText : Addr) : DSp := fun ds S Q E => ∃ d, ds = [d] ∧ plainD d = true ∧ ((∀ z, d ≠ .str z) → E ⟨cBadText, some [("line", .int 0)]⟩ S) ∧
  ∀ z, d = .str z → z.length ≤ 5000 ∧ (∀ k S', readS z = .inl k → Grown S S' → E ⟨cBadText, some [("line", natD (k + 1))]⟩ S') ∧ (∀ r S', readS z = .inr r → Grown S S' → Q (runD r) S')
theorem ok_read_run (T : Txt K mg cCopyError cNoRun cBadText aL w) (c_check_text : Cal P w K mg base "check_text" 3 ["thing"] (spChkT cBadText)) (c_number_in : Cal P w K mg base "number_in" 1 ["word"] spNum) (c_is_deed : Cal P w K mg base "is_deed" 2 ["thing"] spIsDeed) (e_BadText : CalE P w K mg base "BadText" cBadText "line") : Cal P w K mg base "read_run" 6 ["text"] (spRead cBadText) := by
  obtain ⟨f, fd, A, hm, hk, hb⟩ := T.d_read_run
  refine ⟨f, fd, dfn A sc_read_run (by intro ds S Q E h; obtain ⟨_, rfl, _⟩ := h; rfl) (fun cdv A outer s H E hr => ⟨_, (ds_cons (ds_expr (de_callC (fun _ => c_check_text) (fun _ => hr) (by omega) (fun _ => bodyTk) (da_cons (de_var 0) da_nil)))
    (ds_cons (ds_if (dt_cmp (oq_eq fun _ => hr) lk_eq (de_var 0) de_str (nomark _))
    (ds_one (ds_ret (de_tup da_nil)))
    ds_nil)
    (ds_cons (ds_set 1 (fun _ => sc_read_run.nd) (de_new da_nil))
    (ds_cons (ds_for (fun _ => bodyHp) (fun _ => rfl) (di_enumL (by intro _; rfl) (fun _ => T.b_enumerate) (da_cons (de_split (de_var 0) de_str) da_nil)) (dg_tup (n := 2) (fun _ => rfl) (dgs_cons (dg_name 2 (fun _ => sc_read_run.nd)) (dgs_cons (dg_name 3 (fun _ => sc_read_run.nd)) dgs_nil)))
    (ds_cons (ds_set 4 (fun _ => sc_read_run.nd) (de_split (de_var 3) de_str))
    (ds_cons (ds_setLc 5 (own := [("word", 7)]) (tgl_1 7) (fun _ => rfl) (fun _ => sc_read_run.nd) (di_sq (de_slL (de_var 4) (do_some de_int) do_none)) (fun _ => blkOk_by (N := N_read_run) (sc := defScope s_read_run) (by decide +kernel)) dts_nil (de_callC (fun _ => c_number_in) (fun _ => hr) (by omega) (fun _ => takes0) (da_cons (de_var 7) da_nil)) (fun _ => pg_name (i := 7) sc_read_run.nd rfl (Or.inl rfl)) (fun _ => sw_true rfl rfl rfl (by decide +kernel)))
    (ds_cons (ds_set 6 (fun _ => sc_read_run.nd) (de_tup (da_cons (de_at (de_var 4) de_int) (da_star (de_var 5) da_nil))))
    (ds_cons (ds_if (dt_not (dt_val (de_callC (fun _ => c_is_deed) (fun _ => hr) (by omega) (fun _ => bodyTk) (da_cons (de_var 6) da_nil))))
    (ds_one (ds_raiseC (fun _ => rfl) e_BadText (fun _ => rfl) (fun _ => rfl) (fun _ => rfl) (fun _ => rfl) (fun _ => bodyTk) (fun _ => hr) (by omega) (de_add (de_var 2) de_int)))
    ds_nil)
    (ds_one (ds_expr (de_append (de_var 1) (da_cons (de_var 6) da_nil)))))))))
    (ds_one (ds_ret (dc_tuple (fun _ => T.b_tuple) (da_cons (de_var 1) da_nil)))))))), fun ds S Q E h => ?_⟩), hm, hk, hb⟩
  obtain ⟨d, rfl, hd, h0, hz⟩ := h
  walk_at "go"
  refine ⟨d, rfl, hd, fun ⟨z, ez⟩ => ?_, h0⟩
  subst ez
  obtain ⟨hl, hx, hr⟩ := hz z rfl
  walk_at "go"
  rw [Bool.false_xor]
  refine ifD (fun e => ?_) (fun e => ?_)
  · subst e
    walk_at "go"
    exact hr [] S rfl .refl
  · have er : readS z = readR (Txt.split z "\n") 0 := by unfold readS; rw [if_neg e]
    walk_at "go"
    refine o_split (by decide) (small (by omega)) ?_
    have gp : (S ++ [SO.lst []])[S.length]? = some (.lst []) := by rw [List.getElem?_append_right (Nat.le_refl _)]; simp
    have g0 : Grown S (S ++ [SO.lst []]) := ⟨by simp, fun m hm => List.getElem?_append_left hm⟩
    generalize S ++ [SO.lst []] = S0 at gp g0 ⊢
    generalize hls : Txt.split z "\n" = ls at er ⊢
    have pl : ∀ l ∈ ls, l.length ≤ 5000 := fun l m => Nat.le_trans (split_part (hls ▸ m)) hl
    have nl : ls.length ≤ 5002 := by rw [← hls]; exact Nat.le_trans (split_many _ _) (by omega)
    walk_at "go"
    refine ⟨_, _, rfl, rfl, ?_⟩
    refine ⟨fun i ρ S' => Grown S S' ∧ ∃ acc : List Deed, acc.length ≤ i ∧ S'[S.length]? = some (.lst (acc.map Deed.d)) ∧ readR ls 0 = goR acc (readR (ls.drop i) i) ∧ ∃ o2 o3 o4 o5 o6 o7, ρ = [some (.str z), some (.ref S.length), o2, o3, o4, o5, o6, o7],
      ⟨g0, [], Nat.le_refl _, gp, ?_, none, none, none, none, none, none, rfl⟩, fun _ _ _ _ _ => rfl, ?_, ?_⟩
    · rw [List.drop_zero]
      cases readR ls 0 <;> rfl
    · rintro i x ρ S1 hx1 ⟨g1, acc, ha, e1, hw, o2, o3, o4, o5, o6, o7, rfl⟩
      have hi : i < ls.length := by
        have := (List.getElem?_eq_some_iff.mp hx1).1
        rw [enD_len] at this
        simpa using this
      have hx2 : (enD (ls.map D.str))[i]? = some (.tup [.int (i : Nat), .str ls[i]]) := enD_get (by rw [List.getElem?_map, List.getElem?_eq_getElem hi]; rfl)
      rw [hx1] at hx2
      cases hx2
      have pli := pl ls[i] (List.getElem_mem hi)
      rw [List.drop_eq_getElem_cons hi] at hw
      generalize ls[i] = l at *
      walk_at "go"
      refine o_split (by decide) (small (by omega)) ?_
      have pw : ∀ y ∈ Txt.split l " ", y.length ≤ 5000 := fun y m => Nat.le_trans (split_part m) pli
      have nw : (Txt.split l " ").length ≤ 5002 := Nat.le_trans (split_many _ _) (by omega)
      have eln : lnD l = lnW (Txt.split l " ") := rfl
      cases ew : Txt.split l " " with
      | nil => exact absurd ew (split_ne _ _)
      | cons w0 ws =>
        rw [ew] at pw nw eln
        have nw : ws.length + 1 ≤ 5002 := nw
        walk_at "go"
        have ec : Dy.cutD ((w0 :: ws).map D.str) (some 1) none = ws.map D.str := cut1
        rw [ec]
        refine o_lcM figD rfl (small (by rw [List.length_map]; omega)) (fun y my Pz hP => ?_) ?_
        · obtain ⟨v, mv, rfl⟩ := List.mem_map.mp my
          walk_at "go"
          exact ⟨v, rfl, Nat.le_trans (pw v (List.mem_cons_of_mem _ mv)) (by omega), hP⟩
        walk_at "go"
        rw [List.append_nil]
        refine ⟨small (by simp; omega), ?_⟩
        have ed : D.tup (D.str w0 :: (ws.map D.str).map figD) = lnD l := by
          rw [eln, List.map_map]; rfl
        rw [ed]
        walk_at "go"
        refine ⟨_, rfl, by rw [eln]; exact lnW_plain (by simp; omega), ?_⟩
        walk_at "go"
        cases eo : deedOf (lnD l) with
        | none =>
          walk_at "go"
          refine hx i S1 ?_ g1
          rw [er, hw, readR, eo]; rfl
        | some y =>
          walk_at "go"
          refine o_app e1 (Nat.lt_of_lt_of_le (by rw [List.length_map]; omega : (acc.map Deed.d).length < 10000) (small (by decide))) fun S2 l2 e2 m2 => ?_
          walk_at "go"
          refine ⟨⟨by have := g1.1; omega, fun m hm => (m2 m (by omega)).trans (g1.2 m hm)⟩, acc ++ [y], by simp; omega, ?_, ?_, _, _, _, _, _, _, rfl⟩
          · rw [e2, List.map_append, deedOf_d eo]; rfl
          · rw [hw, go_cons eo]
    · rintro ρ S1 ⟨g1, acc, ha, e1, hw, o2, o3, o4, o5, o6, o7, rfl⟩
      walk_at "go"
      refine hr acc S1 ?_ g1
      rw [enD_len, List.length_map, List.drop_length] at hw
      rw [er, hw]
      show (Sum.inr (acc ++ []) : Nat ⊕ List Deed) = _
      rw [List.append_nil]
end
open PySem PySem.Spec PyProof.Rows L2 Dy

section
variable {cCopyError cNoRun cBadText aL : Addr} {P : Program} {w : World} {K : PySem.W.Frag} {mg : Str → Option Value} {base : Heap} {n : Nat}
/-! like things are like -/
theorem cal_no {f : Addr} {fd : FuncData} {x : Str} {k : Nat} {ps : List Str} (hm : mg x = some (.ref f)) (hk : PySem.W.keepIn K (.ref f) = true) (hb : Binds K fd ps []) : Cal P w K mg base x k ps (fun _ _ _ _ => False) := by
  refine ⟨f, fd, ⟨fun vs H Q E h => ?_, fun A outer s H args us vs Q E hr e0 hbb r h => ?_⟩, hm, hk, hb⟩
  · obtain ⟨_, _, _, _, _, _, _, h, _⟩ := h
    exact h.elim
  · obtain ⟨_, _, _, _, _, _, _, h, _⟩ := h
    exact h.elim
def okI : Nat → D → Bool
  | _, .non => true
  | _, .bl _ => true
  | _, .int _ => true
  | _, .str _ => true
  | n + 1, .tup xs => decide (xs.length ≤ 10000) && xs.all (okI n)
  | _, _ => false
def spIs : Nat → DSp
  | 0 => fun _ _ _ _ => False
  | n + 1 => fun ds S Q E => ∃ d, ds = [d, d] ∧ okI n d = true ∧ Q (.bl true) S
theorem okI_mono : ∀ (n : Nat) (d : D), okI n d = true → okI (n + 1) d = true := fun n => by
  induction n with
  | zero =>
    intro d h
    cases d <;> first | rfl | cases h
  | succ n ih =>
    intro d h
    cases d <;> first
      | rfl
      | cases h
      | (rename_i xs
         have h : (decide (xs.length ≤ 10000) && xs.all (okI n)) = true := h
         rw [Bool.and_eq_true] at h
         show (decide (xs.length ≤ 10000) && xs.all (okI (n + 1))) = true
         rw [Bool.and_eq_true]
         exact ⟨h.1, List.all_eq_true.mpr fun x m => ih x (List.all_eq_true.mp h.2 x m)⟩)
theorem ok__law_is (T : Txt K mg cCopyError cNoRun cBadText aL w) (c__law_is : Cal P w K mg base "_law_is" (n + 1) ["_law_told_here", "_law_due"] (spIs n)) : Cal P w K mg base "_law_is" (n + 2) ["_law_told_here", "_law_due"] (spIs (n + 1)) := by
  obtain ⟨f, fd, A, hm, hk, hb⟩ := T.d__law_is
  refine ⟨f, fd, dfn A sc__law_is (by intro ds S Q E h; obtain ⟨_, rfl, _⟩ := h; rfl) (fun cdv A outer s H E hr => ⟨_, (ds_cons (ds_if (dt_val (de_isi2 (A := "tuple") (B := "list") (by decide) (by decide) (by decide) (by decide) (fun _ => T.b_isinstance) (fun _ => T.b_tuple) (fun _ => T.b_list) bt_tuple bt_list (de_var 1)))
    (ds_cons (ds_if (DW.dt (dw_or (dt_cmp (oq_ne fun _ => hr) lk_ne (dc_isi (T := "tuple") (by decide) (by decide) (fun _ => T.b_isinstance) (da_cons (de_var 0) (da_cons (de_bltn (by intro _; rfl) (fun _ => T.b_tuple) bt_tuple (d := .ty "tuple") (v := .ty "tuple") rfl rfl) da_nil))) (dc_isi (T := "tuple") (by decide) (by decide) (fun _ => T.b_isinstance) (da_cons (de_var 1) (da_cons (de_bltn (by intro _; rfl) (fun _ => T.b_tuple) bt_tuple (d := .ty "tuple") (v := .ty "tuple") rfl rfl) da_nil))) (nomark _)) (dw_or1 (dt_cmp (oq_ne fun _ => hr) lk_ne (dc_isi (T := "list") (by decide) (by decide) (fun _ => T.b_isinstance) (da_cons (de_var 0) (da_cons (de_bltn (by intro _; rfl) (fun _ => T.b_list) bt_list (d := .ty "list") (v := .ty "list") rfl rfl) da_nil))) (dc_isi (T := "list") (by decide) (by decide) (fun _ => T.b_isinstance) (da_cons (de_var 1) (da_cons (de_bltn (by intro _; rfl) (fun _ => T.b_list) bt_list (d := .ty "list") (v := .ty "list") rfl rfl) da_nil))) (nomark _)))))
    (ds_one (ds_ret de_bl))
    ds_nil)
    (ds_one (ds_ret (de_and (de_cmp (oq_eq fun _ => hr) lk_eq (dc_len (fun _ => T.b_len) (da_cons (de_var 0) da_nil)) (dc_len (fun _ => T.b_len) (da_cons (de_var 1) da_nil)) (nomark _)) (de_one (dc_all (fun _ => rfl) (fun _ => T.b_all) (da_cons (de_lc 2 (fun _ => rfl) (fun _ => sc__law_is.nd) (di_rng1 (by intro _; rfl) (fun _ => T.b_range) (da_cons (dc_len (fun _ => T.b_len) (da_cons (de_var 1) da_nil)) da_nil)) (fun _ => blkOk_by (N := N__law_is) (sc := defScope s__law_is) (by decide +kernel)) dts_nil (de_callC (fun _ => c__law_is) (fun _ => hr) (by omega) (fun _ => takes0) (da_cons (de_at (de_var 0) (de_var 2)) (da_cons (de_at (de_var 1) (de_var 2)) da_nil))) (fun _ => pg_name (i := 2) sc__law_is.nd rfl (Or.inl rfl))) da_nil)))))))
    ds_nil)
    (ds_cons (ds_if (dt_val (dc_isi (T := "dict") (by decide) (by decide) (fun _ => T.b_isinstance) (da_cons (de_var 1) (da_cons (de_bltn (by intro _; rfl) (fun _ => T.b_dict) bt_dict (d := .ty "dict") (v := .ty "dict") rfl rfl) da_nil))))
    (ds_one ds_no)
    ds_nil)
    (ds_one (ds_ret (de_and (de_cmp (oq_eq fun _ => hr) lk_eq (dc_isi (T := "bool") (by decide) (by decide) (fun _ => T.b_isinstance) (da_cons (de_var 0) (da_cons (de_bltn (by intro _; rfl) (fun _ => T.b_bool) bt_bool (d := .ty "bool") (v := .ty "bool") rfl rfl) da_nil))) (dc_isi (T := "bool") (by decide) (by decide) (fun _ => T.b_isinstance) (da_cons (de_var 1) (da_cons (de_bltn (by intro _; rfl) (fun _ => T.b_bool) bt_bool (d := .ty "bool") (v := .ty "bool") rfl rfl) da_nil))) (nomark _)) (de_one (de_cmp (oq_eq fun _ => hr) lk_eq (de_var 0) (de_var 1) (nomark _)))))))), fun ds S Q E h => ?_⟩), hm, hk, hb⟩
  obtain ⟨d, rfl, ho, h⟩ := h
  cases d with
  | tup xs =>
    cases n with
    | zero => cases ho
    | succ n =>
      have ho : (decide (xs.length ≤ 10000) && xs.all (okI n)) = true := ho
      rw [Bool.and_eq_true] at ho
      have hl : xs.length ≤ 10000 := of_decide_eq_true ho.1
      have hx : ∀ x ∈ xs, okI n x = true := fun x m => List.all_eq_true.mp ho.2 x m
      walk_at "go"
      refine ⟨_, rfl, by omega, by omega, ?_⟩
      rw [Int.toNat_natCast]
      refine o_lcM (fun _ => .bl true) trivial (small (by rw [rng_len]; exact Nat.le_trans hl (by decide))) (fun x mx Pz hP => ?_) ?_
      · obtain ⟨k, mk, rfl⟩ := List.mem_map.mp mx
        have hk : k < xs.length := List.mem_range.mp mk
        have ek : atI xs (0 + (k : Int)) = some xs[k] := by rw [Int.zero_add, atN, List.getElem?_eq_getElem hk]
        walk_at "go"
        refine o_ix rfl ek ?_
        walk_at "go"
        refine o_ix rfl ek ?_
        walk_at "go"
        exact ⟨_, rfl, hx _ (List.getElem_mem hk), hP⟩
      walk_at "go"
      refine o_all (g := fun _ => true) ?_
      have e : (rngD 0 xs.length).all (fun _ => true) = true := List.all_eq_true.mpr fun _ _ => rfl
      rw [e]
      exact h
  | non => walk_at "go"; exact h
  | bl b => walk_at "go"; rw [decide_eq_true rfl]; exact h
  | int i => walk_at "go"; rw [decide_eq_true rfl]; exact h
  | str s => walk_at "go"; rw [decide_eq_true rfl]; exact h
  | _ => cases n <;> cases ho
theorem ok_is (T : Txt K mg cCopyError cNoRun cBadText aL w) : ∀ n, Cal P w K mg base "_law_is" (n + 1) ["_law_told_here", "_law_due"] (spIs n)
  | 0 => by
    obtain ⟨f, fd, A, hm, hk, hb⟩ := T.d__law_is
    exact cal_no hm hk hb
  | n + 1 => ok__law_is T (ok_is T n)
/-! the law's own reading -/
theorem deed_bad {s : Str} {r : List D} {y : D} (m : y ∈ r) (h : natOf y = none) : deedOf (.tup (.str s :: r)) = none := by
  match r with
  | [] => cases m
  | [a] =>
    simp only [List.mem_cons, List.not_mem_nil, or_false] at m
    subst m
    rw [deed2, h]
  | [a, b] =>
    simp only [List.mem_cons, List.not_mem_nil, or_false] at m
    rw [deed3]
    rcases m with rfl | rfl
    · rw [h]
    · rw [h]
      cases natOf a <;> rfl
  | a :: b :: c :: r => exact deed_len (by simp) (by simp)
theorem inS_d {s : Str} : inS ["change", "fork", "lose"] (.str s) = decide (s ∈ dwords) := by
  show dwords.any (fun x => decide (x = s)) = decide (s ∈ dwords)
  by_cases h : s ∈ dwords
  · rw [decide_eq_true h]; exact List.any_eq_true.mpr ⟨s, h, decide_eq_true rfl⟩
  · rw [decide_eq_false h]
    rw [List.any_eq_false]
    intro x m
    simp only [decide_eq_true_eq]
    intro e; exact h (e ▸ m)
theorem ok__law_is_deed (T : Txt K mg cCopyError cNoRun cBadText aL w) : Cal P w K mg base "_law_is_deed" 1 ["_law_thing"] spIsDeed := by
  obtain ⟨f, fd, A, hm, hk, hb⟩ := T.d__law_is_deed
  refine ⟨f, fd, dfn A sc__law_is_deed (by intro ds S Q E h; obtain ⟨_, rfl, _⟩ := h; rfl) (fun cdv A outer s H E hr => ⟨_, (ds_cons (ds_if (DW.dt (dw_or (dt_not (dt_val (dc_isi (T := "tuple") (by decide) (by decide) (fun _ => T.b_isinstance) (da_cons (de_var 0) (da_cons (de_bltn (by intro _; rfl) (fun _ => T.b_tuple) bt_tuple (d := .ty "tuple") (v := .ty "tuple") rfl rfl) da_nil))))) (dw_or (dt_cmp (fun _ => op_lt) lk_lt (dc_len (fun _ => T.b_len) (da_cons (de_var 0) da_nil)) de_int (nomark _)) (dw_or1 (dt_not (dt_val (dc_isi (T := "str") (by decide) (by decide) (fun _ => T.b_isinstance) (da_cons (de_at (de_var 0) de_int) (da_cons (de_bltn (by intro _; rfl) (fun _ => T.b_str) bt_str (d := .ty "str") (v := .ty "str") rfl rfl) da_nil)))))))))
    (ds_one (ds_ret de_bl))
    ds_nil)
    (ds_cons (ds_for (fun _ => bodyHp) (fun _ => rfl) (di_sq (de_slT (de_var 0) (do_some de_int) do_none)) (dg_name 1 (fun _ => sc__law_is_deed.nd))
    (ds_one (ds_if (DW.dt (dw_or (dt_not (dt_val (dc_isi (T := "int") (by decide) (by decide) (fun _ => T.b_isinstance) (da_cons (de_var 1) (da_cons (de_bltn (by intro _; rfl) (fun _ => T.b_int) bt_int (d := .ty "int") (v := .ty "int") rfl rfl) da_nil))))) (dw_or (dt_val (dc_isi (T := "bool") (by decide) (by decide) (fun _ => T.b_isinstance) (da_cons (de_var 1) (da_cons (de_bltn (by intro _; rfl) (fun _ => T.b_bool) bt_bool (d := .ty "bool") (v := .ty "bool") rfl rfl) da_nil)))) (dw_or1 (dt_cmp (fun _ => op_lt) lk_lt (de_var 1) de_int (nomark _))))))
    (ds_one (ds_ret de_bl))
    ds_nil)))
    (ds_cons (ds_if (dt_cmp (oq_eq fun _ => hr) lk_eq (de_at (de_var 0) de_int) de_str (nomark _))
    (ds_one (ds_ret (de_and (de_cmp (oq_eq fun _ => hr) lk_eq (dc_len (fun _ => T.b_len) (da_cons (de_var 0) da_nil)) de_int (nomark _)) (de_one (de_cmp (oq_ne fun _ => hr) lk_ne (de_at (de_var 0) de_int) (de_at (de_var 0) de_int) (nomark _))))))
    ds_nil)
    (ds_one (ds_ret (de_and (de_cmp (oq_eq fun _ => hr) lk_eq (dc_len (fun _ => T.b_len) (da_cons (de_var 0) da_nil)) de_int (nomark _)) (de_one (de_cmp (oq_inX fun _ => hr) lk_inX (de_at (de_var 0) de_int) (de_lst (da_cons de_str (da_cons de_str (da_cons de_str da_nil)))) (by rfl))))))))), fun ds S Q E h => ?_⟩), hm, hk, hb⟩
  obtain ⟨d, rfl, hd, h⟩ := h
  have pd := hd.1
  walk_at "go"
  cases d with
  | tup xs =>
    obtain ⟨hz, hx⟩ := hd.2 xs rfl
    have isI_n : ∀ x : D, plainD x = true → isiT "int" (tagD x) = true → isiT "bool" (tagD x) = false → ∃ i, x = .int i := fun x px h1 h2 => by
      cases x with
      | int i => exact ⟨i, rfl⟩
      | bl b => cases h2
      | _ => first | cases h1 | cases px
    walk_at "go"
    refine ifD (fun c1 => ?_) (fun c1 => ?_)
    · walk_at "go"
      have e0 : deedOf (.tup xs) = none := by
        match xs with
        | [] => rfl
        | [a] => cases a <;> rfl
        | a :: b :: r => simp at c1; omega
      rw [e0] at h
      exact h
    · cases xs with
      | nil => simp at c1
      | cons a r =>
        have hxr : ∀ x ∈ r, plainD x = true := fun x m => hx x (List.mem_cons_of_mem _ m)
        have pa := hx a List.mem_cons_self
        have hr1 : r.length + 1 ≤ 10000 := hz
        walk_at "go"
        cases a with
        | str s =>
          walk_at "go"
          rw [cut1]
          refine ⟨fun i ρ S' => S' = S ∧ (∀ y ∈ r.take i, ∃ k, natOf y = some k) ∧ ∃ o, ρ = [some (.tup (.str s :: r)), o], ⟨rfl, fun y m => by simp at m, none, rfl⟩, fun _ _ _ _ _ => rfl, ?_, ?_⟩
          · rintro i y ρ S1 hy ⟨rfl, hn, o, rfl⟩
            have my := List.mem_of_getElem? hy
            have py := hxr y my
            have bad : natOf y = none → Q (.bl false) S1 := fun e => by
              rw [deed_bad my e] at h
              exact h
            have next : ∀ k, natOf y = some k → ∀ z ∈ r.take (i + 1), ∃ k, natOf z = some k := fun k ek z mz => by
              rw [List.take_add_one, hy] at mz
              rcases List.mem_append.mp mz with mz | mz
              · exact hn z mz
              · simp at mz
                rw [mz]
                exact ⟨k, ek⟩
            walk_at "go"
            cases y with
            | int v =>
              walk_at "go"
              refine ifD (fun c2 => ?_) (fun c2 => ?_)
              · walk_at "go"
                exact bad (by show (if 0 ≤ v then some v.toNat else none) = none; rw [if_neg (by omega)])
              · walk_at "go"
                exact ⟨rfl, next v.toNat (by show (if 0 ≤ v then some v.toNat else none) = _; rw [if_pos (by omega)]), _, rfl⟩
            | _ => first | (walk_at "go"; exact bad rfl) | cases py
          · rintro ρ S1 ⟨rfl, hn, o, rfl⟩
            have hn : ∀ y ∈ r, ∃ k, natOf y = some k := by rw [List.take_length] at hn; exact hn
            walk_at "go"
            rw [Bool.false_xor]
            refine ifD (fun c2 => ?_) (fun c2 => ?_)
            · subst c2
              walk_at "go"
              rw [Bool.false_xor]
              refine ifD (fun c3 => ?_) (fun c3 => ?_)
              · obtain ⟨x, y, rfl⟩ : ∃ x y, r = [x, y] := by
                  match r with
                  | [x, y] => exact ⟨x, y, rfl⟩
                  | [] => simp at c3
                  | [x] => simp at c3
                  | x :: y :: z :: q => simp at c3; omega
                obtain ⟨i, ei⟩ := hn x (by simp)
                obtain ⟨j, ej⟩ := hn y (by simp)
                have e1 := natOf_d ei
                have e2 := natOf_d ej
                subst e1 e2
                walk_at "go"
                rw [deed3, natOf_n, natOf_n] at h
                by_cases hij : i = j
                · subst hij
                  have w1 : (true ^^ decide ((i : Int) = (i : Int))) = false := by simp
                  rw [w1]
                  have h : Q (.bl (if ("join" : Str) = "join" ∧ i ≠ i then some (Deed.jn i i) else none).isSome) S1 := h
                  rw [if_neg (fun z => z.2 rfl)] at h
                  exact h
                · have w1 : (true ^^ decide ((i : Int) = (j : Int))) = true := by
                    rw [decide_eq_false (by omega)]; rfl
                  rw [w1]
                  have h : Q (.bl (if ("join" : Str) = "join" ∧ i ≠ j then some (Deed.jn i j) else none).isSome) S1 := h
                  rw [if_pos ⟨rfl, hij⟩] at h
                  exact h
              · rw [deed_joinL (fun z => c3 (by simp [z]))] at h
                walk_at "go"
                exact h
            · walk_at "go"
              rw [Bool.false_xor]
              refine ifD (fun c3 => ?_) (fun c3 => ?_)
              · obtain ⟨x, rfl⟩ : ∃ x, r = [x] := by
                  match r with
                  | [x] => exact ⟨x, rfl⟩
                  | [] => simp at c3
                  | x :: y :: q => simp at c3; omega
                obtain ⟨i, ei⟩ := hn x (by simp)
                have e1 := natOf_d ei
                subst e1
                walk_at "go"
                refine o_inS (xs := ["change", "fork", "lose"]) rfl rfl ?_
                rw [Bool.false_xor, inS_d]
                by_cases hs : s ∈ dwords
                · rw [decide_eq_true hs]
                  rw [deed_one hs, natOf_n] at h
                  exact h
                · rw [decide_eq_false hs]
                  rw [deed_other hs c2] at h
                  exact h
              · walk_at "go"
                by_cases hs : s ∈ dwords
                · rw [deed_oneL hs (fun z => c3 (by simp [z]))] at h
                  exact h
                · rw [deed_other hs c2] at h
                  exact h
        | _ => first | (rw [deed_nostr (by intro s e; cases e)] at h; walk_at "go"; exact h) | cases pa
  | _ => first | (walk_at "go"; exact h) | cases pd
end
open PySem PySem.Spec PyProof.Rows L2 Dy

section
variable {cCopyError cNoRun cBadText aL : Addr} {P : Program} {w : World} {K : PySem.W.Frag} {mg : Str → Option Value} {base : Heap} {n : Nat}
def pN (c : Addr) (C : Addr) (d : Option Addr) : Bool := decide (C = c) && d.isNone
theorem pN_eq {c C : Addr} {d : Option Addr} (h : pN c C d = true) : c = C := by
  unfold pN at h
  rw [Bool.and_eq_true] at h
  exact (of_decide_eq_true h.1).symm
theorem ok__law_number (T : Txt K mg cCopyError cNoRun cBadText aL w) : Cal P w K mg base "_law_number" 1 ["_law_word"] spNum := by
  obtain ⟨f, fd, A, hm, hk, hb⟩ := T.d__law_number
  refine ⟨f, fd, dfn A sc__law_number (by intro ds S Q E h; obtain ⟨_, rfl, _⟩ := h; rfl) (fun cdv A outer s H E hr => ⟨_, (ds_cons (ds_if (DW.dt (dw_or (dt_not (dt_chain (fun _ => op_le) (fun _ => op_le) lk_le lk_le de_int (dc_lenS (fun _ => T.b_len) (da_cons (de_var 0) da_nil)) de_int)) (dw_or1 (dt_not (dt_val (dc_all (fun _ => rfl) (fun _ => T.b_all) (da_cons (de_lc 1 (fun _ => rfl) (fun _ => sc__law_number.nd) (di_str (de_var 0)) (fun _ => blkOk_by (N := N__law_number) (sc := defScope s__law_number) (by decide +kernel)) dts_nil (de_cmp (fun _ => op_inS) lk_inStr (de_var 1) de_str (by rfl)) (fun _ => pg_name (i := 1) sc__law_number.nd rfl (Or.inl rfl))) da_nil)))))))
    (ds_one (ds_ret de_non))
    ds_nil)
    (ds_one (ds_ret (de_ifExp (DW.dt (dw_and (dt_cmp (oq_eq fun _ => hr) lk_eq (de_atS (de_var 0) de_int) de_str (nomark _)) (dw_and1 (dt_cmp (fun _ => op_gt) lk_gt (dc_lenS (fun _ => T.b_len) (da_cons (de_var 0) da_nil)) de_int (nomark _))))) de_non (dc_intS (fun _ => T.b_int) (da_cons (de_var 0) da_nil)))))), fun ds S Q E h => ?_⟩), hm, hk, hb⟩
  obtain ⟨z, rfl, hz, h⟩ := h
  have hz' : z.length ≤ sizeLine := small hz
  have no : isNum z = false → Q .non S := fun e => by
    have e2 : figOf z = none := by unfold figOf; rw [if_neg (by rw [e]; decide)]
    rw [e2] at h; exact h
  have yes : isNum z = true → Q (.int ((NumText.digitsVal z.cps.toList : Nat) : Int)) S := fun e => by
    have e2 : figOf z = some (NumText.digitsVal z.cps.toList) := by unfold figOf; rw [if_pos e]
    rw [e2] at h; exact h
  have fail : ¬ ((1 ≤ z.length ∧ z.length ≤ 9) ∧ NumText.AllDigits z.cps.toList) → Q .non S := fun c => no (Bool.eq_false_iff.mpr fun z1 => c ⟨(isNum_iff.mp z1).1, (isNum_iff.mp z1).2.1⟩)
  walk_at "go"
  refine ifD (fun c1 => ?_) (fun c1 => ?_)
  · walk_at "go"
    refine not_if (ifD (fun c2 => ?_) (fun c2 => ?_))
    · walk_at "go"
      refine o_lcM (fun x => .bl (digD x)) trivial (small (by rw [List.length_map, ← str_len]; exact hz)) (fun x mx Pz hP => ?_) ?_
      · obtain ⟨c, _, rfl⟩ := List.mem_map.mp mx
        walk_at "go"
        rw [Bool.false_xor, dig_in]
        exact hP
      walk_at "go"
      refine o_all (g := digD) ?_
      rw [digs_all]
      walk_at "go"
      refine not_if (ifB (fun c3 => ?_) (fun c3 => ?_))
      · have ad : NumText.AllDigits z.cps.toList := fun c m => of_decide_eq_true (List.all_eq_true.mp c3 c m)
        have hl : 1 ≤ z.length ∧ z.length ≤ 9 := by omega
        cases ez : z.cps.toList with
        | nil =>
          have := str_len z
          rw [ez] at this
          simp at this
          omega
        | cons c r =>
          walk_at "go"
          refine o_atS ez ?_
          walk_at "go"
          rw [Bool.false_xor, one_zero]
          refine ifD (fun c4 => ?_) (fun c4 => ?_)
          · subst c4
            walk_at "go"
            refine ifD (fun c5 => ?_) (fun c5 => ?_)
            · walk_at "go"
              refine no (Bool.eq_false_iff.mpr fun z1 => (isNum_iff.mp z1).2.2 ⟨by rw [ez]; rfl, by omega⟩)
            · have en : isNum z = true := isNum_iff.mpr ⟨hl, ad, fun z1 => c5 (by omega)⟩
              have e2 : figOf z = some (NumText.digitsVal z.cps.toList) := by unfold figOf; rw [if_pos en]
              walk_at "go"
              exact o_intS (int_of_num e2).1 (int_of_num e2).2 (yes en)
          · have en : isNum z = true := isNum_iff.mpr ⟨hl, ad, fun z1 => c4 (by have := z1.1; rw [ez] at this; simpa using this)⟩
            have e2 : figOf z = some (NumText.digitsVal z.cps.toList) := by unfold figOf; rw [if_pos en]
            walk_at "go"
            exact o_intS (int_of_num e2).1 (int_of_num e2).2 (yes en)
      · walk_at "go"
        exact fail fun z1 => by
          rw [List.all_eq_true.mpr fun c m => decide_eq_true (z1.2 c m)] at c3
          cases c3
    · walk_at "go"
      exact fail fun z1 => by omega
  · walk_at "go"
    exact fail fun z1 => by omega
def figs : List Str → Option (List Nat)
  | [] => some []
  | w :: ws => match figOf w, figs ws with
    | some k, some ks => some (k :: ks)
    | _, _ => none
theorem figs_some : ∀ {ws : List Str} {ks : List Nat}, figs ws = some ks → (ws.map D.str).map figD = ks.map natD ∧ ∀ k ∈ ks, k < 10 ^ 9
  | [], ks, h => by cases h; exact ⟨rfl, fun k m => by cases m⟩
  | w :: ws, ks, h => by
    rw [figs] at h
    split at h
    · rename_i k ks' e1 e2
      cases h
      obtain ⟨h1, h2⟩ := figs_some e2
      refine ⟨?_, fun j m => ?_⟩
      · rw [List.map_cons, List.map_cons, h1, List.map_cons]
        show optD (figOf w) :: _ = _
        rw [e1]; rfl
      · rcases List.mem_cons.mp m with rfl | m
        · exact figOf_lt e1
        · exact h2 j m
    · cases h
theorem figs_none : ∀ {ws : List Str}, figs ws = none → ∃ w ∈ ws, figOf w = none
  | [], h => by cases h
  | w :: ws, h => by
    rw [figs] at h
    split at h
    · cases h
    · rename_i hn
      cases e1 : figOf w with
      | none => exact ⟨w, by simp, e1⟩
      | some k =>
        cases e2 : figs ws with
        | none =>
          obtain ⟨v, mv, ev⟩ := figs_none e2
          exact ⟨v, List.mem_cons_of_mem _ mv, ev⟩
        | some ks => exact absurd e2 (hn k ks e1)
def nonP : D → PyData
  | .int i => .int i
  | _ => .none
theorem py_figs : ∀ ws : List Str, pyDs ((ws.map D.str).map figD) = some ((ws.map D.str).map fun d => nonP (figD d))
  | [] => rfl
  | w :: ws => by
    have ih := py_figs ws
    show ((pyD (optD (figOf w))).bind fun d => (pyDs ((ws.map D.str).map figD)).map fun ds => d :: ds) = some (nonP (optD (figOf w)) :: _)
    rw [ih]
    cases figOf w <;> rfl
theorem any_none : ∀ ws : List Str, ((ws.map D.str).map fun d => nonP (figD d)).any (fun z => PyData.eqv z .none) = decide (figs ws = none)
  | [] => rfl
  | w :: ws => by
    have ih := any_none ws
    rw [List.map_cons, List.map_cons, List.any_cons, ih]
    have e : figD (D.str w) = optD (figOf w) := rfl
    rw [e, figs]
    cases figOf w with
    | none => rfl
    | some k =>
      cases figs ws with
      | none => rfl
      | some ks => rfl
theorem depth_figs : ∀ ws : List Str, PyData.depthAll ((ws.map D.str).map fun d => nonP (figD d)) = 0
  | [] => rfl
  | w :: ws => by
    have ih := depth_figs ws
    rw [List.map_cons, List.map_cons, PyData.depthAll, ih]
    have e : figD (D.str w) = optD (figOf w) := rfl
    rw [e]
    cases figOf w <;> rfl
def figsD : Option (List Nat) → D
  | some ks => .tup (ks.map natD)
  | none => .non
def spNums : DSp := fun ds S Q E => ∃ ws : List Str, ds = [.lst (ws.map .str), .int 1000000000] ∧ ws.length ≤ 10000 ∧ (∀ z ∈ ws, z.length ≤ 100000) ∧ Q (figsD (figs ws)) S
theorem ok__law_numbers (T : Txt K mg cCopyError cNoRun cBadText aL w) (c__law_number : Cal P w K mg base "_law_number" 1 ["_law_word"] spNum) : Cal P w K mg base "_law_numbers" 2 ["_law_words", "_law_many"] spNums := by
  obtain ⟨f, fd, A, hm, hk, hb⟩ := T.d__law_numbers
  refine ⟨f, fd, dfn A sc__law_numbers (by intro ds S Q E h; obtain ⟨_, rfl, _⟩ := h; rfl) (fun cdv A outer s H E hr => ⟨_, (ds_cons (ds_setLc 2 (own := [("_law_word", 3)]) (tgl_1 3) (fun _ => rfl) (fun _ => sc__law_numbers.nd) (di_sq (de_var 0)) (fun _ => blkOk_by (N := N__law_numbers) (sc := defScope s__law_numbers) (by decide +kernel)) dts_nil (de_callC (fun _ => c__law_number) (fun _ => hr) (by omega) (fun _ => takes0) (da_cons (de_var 3) da_nil)) (fun _ => pg_name (i := 3) sc__law_numbers.nd rfl (Or.inl rfl)) (fun _ => sw_true rfl rfl rfl (by decide +kernel)))
    (ds_cons (ds_if (DW.dt (dw_or (dt_cmp (oq_inX fun _ => hr) lk_inX de_non (de_var 2) (by rfl)) (dw_or1 (dt_not (dt_val (dc_all (fun _ => rfl) (fun _ => T.b_all) (da_cons (de_lc 4 (fun _ => rfl) (fun _ => sc__law_numbers.nd) (di_sq (de_var 2)) (fun _ => blkOk_by (N := N__law_numbers) (sc := defScope s__law_numbers) (by decide +kernel)) dts_nil (de_cmp (fun _ => op_lt) lk_lt (de_var 4) (de_var 1) (nomark _)) (fun _ => pg_name (i := 4) sc__law_numbers.nd rfl (Or.inl rfl))) da_nil)))))))
    (ds_one (ds_ret de_non))
    ds_nil)
    (ds_one (ds_ret (dc_tuple (fun _ => T.b_tuple) (da_cons (de_var 2) da_nil)))))), fun ds S Q E h => ?_⟩), hm, hk, hb⟩
  obtain ⟨ws, rfl, hl, hz, h⟩ := h
  walk_at "go"
  refine o_lcM figD rfl (small (by rw [List.length_map]; omega)) (fun y my Pz hP => ?_) ?_
  · obtain ⟨v, mv, rfl⟩ := List.mem_map.mp my
    walk_at "go"
    exact ⟨v, rfl, hz v mv, hP⟩
  walk_at "go"
  refine .inl ⟨.none, _, _, rfl, rfl, py_figs ws, by rw [depth_figs]; decide, ?_⟩
  rw [any_none, Bool.false_xor]
  walk_at "go"
  refine ifD (fun c1 => ?_) (fun c1 => ?_)
  · walk_at "go"
    rw [c1] at h
    exact h
  · obtain ⟨ks, ek⟩ := Option.ne_none_iff_exists'.mp c1
    obtain ⟨e1, e2⟩ := figs_some ek
    rw [e1]
    have hk : ks.length ≤ 10000 := by
      have := congrArg List.length e1
      rw [List.length_map, List.length_map, List.length_map] at this
      omega
    walk_at "go"
    refine o_lcM (fun _ => .bl true) rfl (small (by rw [List.length_map]; omega)) (fun y my Pz hP => ?_) ?_
    · obtain ⟨k, mk, rfl⟩ := List.mem_map.mp my
      have := e2 k mk
      walk_at "go"
      have e3 : decide ((k : Int) < 1000000000) = true := decide_eq_true (by omega)
      rw [e3]
      exact hP
    walk_at "go"
    refine o_all (g := fun _ => true) ?_
    have e4 : (ks.map natD).all (fun _ => true) = true := List.all_eq_true.mpr fun _ _ => rfl
    rw [e4]
    walk_at "go"
    rw [ek] at h
    exact h
def dueT (d : D) : D := match d with
  | .str z => (match readS z with
    | .inl k => .tup [.str "text", natD (k + 1)]
    | .inr r => .tup [.str "told", runD r])
  | _ => .tup [.str "text", .int 0]
theorem lnW_figs {w0 : Str} {ws : List Str} : deedOf (lnW (w0 :: ws)) = deedOf (.tup (.str w0 :: (match figs ws with | some ks => ks.map natD | none => []))) := by
  have e : lnW (w0 :: ws) = .tup (.str w0 :: (ws.map D.str).map figD) := by
    rw [List.map_map]; rfl
  cases ef : figs ws with
  | some ks => rw [e, (figs_some ef).1]
  | none =>
    obtain ⟨v, mv, ev⟩ := figs_none ef
    have e1 : deedOf (lnW (w0 :: ws)) = none := by
      rw [e]
      exact deed_bad (y := figD (.str v)) (List.mem_map_of_mem (List.mem_map_of_mem mv)) (by show natOf (optD (figOf v)) = none; rw [ev]; rfl)
    rw [e1]; rfl
theorem datD_app {w0 : Str} {ks : List D} (h : ks.length ≤ 9000) (hp : ∀ x ∈ ks, plainD x = true) : DatD (.tup ([.str w0] ++ ks)) := by
  refine ⟨rfl, fun xs e => ?_⟩
  have e : [D.str w0] ++ ks = xs := D.tup.inj e
  subst e
  refine ⟨by simp; omega, fun x m => ?_⟩
  rcases List.mem_append.mp m with m | m
  · rw [List.mem_singleton.mp m]; rfl
  · exact hp x m
def spLRead : DSp := fun ds S Q E => ∃ d, ds = [d] ∧ plainD d = true ∧ (∀ z, d = .str z → z.length ≤ 5000) ∧ ∀ S', Grown S S' → Q (dueT d) S'
theorem ok__law_read_run (T : Txt K mg cCopyError cNoRun cBadText aL w) (c__law_numbers : Cal P w K mg base "_law_numbers" 2 ["_law_words", "_law_many"] spNums) (c__law_is_deed : Cal P w K mg base "_law_is_deed" 1 ["_law_thing"] spIsDeed) : Cal P w K mg base "_law_read_run" 4 ["_law_text"] spLRead := by
  obtain ⟨f, fd, A, hm, hk, hb⟩ := T.d__law_read_run
  refine ⟨f, fd, dfn A sc__law_read_run (by intro ds S Q E h; obtain ⟨_, rfl, _⟩ := h; rfl) (fun cdv A outer s H E hr => ⟨_, (ds_cons (ds_if (dt_not (dt_val (dc_isi (T := "str") (by decide) (by decide) (fun _ => T.b_isinstance) (da_cons (de_var 0) (da_cons (de_bltn (by intro _; rfl) (fun _ => T.b_str) bt_str (d := .ty "str") (v := .ty "str") rfl rfl) da_nil)))))
    (ds_one (ds_ret (de_tup (da_cons de_str (da_cons de_int da_nil)))))
    ds_nil)
    (ds_cons (ds_set 1 (fun _ => sc__law_read_run.nd) (de_new da_nil))
    (ds_cons (ds_for (fun _ => bodyHp) (fun _ => rfl) (di_enumL (by intro _; rfl) (fun _ => T.b_enumerate) (da_cons (de_ifExp (dt_cmp (oq_ne fun _ => hr) lk_ne (de_var 0) de_str (nomark _)) (de_split (de_var 0) de_str) (de_lst da_nil)) da_nil)) (dg_tup (n := 2) (fun _ => rfl) (dgs_cons (dg_name 2 (fun _ => sc__law_read_run.nd)) (dgs_cons (dg_name 3 (fun _ => sc__law_read_run.nd)) dgs_nil)))
    (ds_cons (ds_set 4 (fun _ => sc__law_read_run.nd) (de_split (de_var 3) de_str))
    (ds_cons (ds_set 5 (fun _ => sc__law_read_run.nd) (de_callC (fun _ => c__law_numbers) (fun _ => hr) (by omega) (fun _ => bodyTk) (da_cons (de_slL (de_var 4) (do_some de_int) do_none) (da_cons (de_pow de_int de_int) da_nil))))
    (ds_cons (ds_set 6 (fun _ => sc__law_read_run.nd) (de_add (de_tup (da_cons (de_at (de_var 4) de_int) da_nil)) (de_ifExp (dt_cmp (fun _ => op_isN) lk_isN (de_var 5) de_non (nomark _)) (de_tup da_nil) (de_var 5))))
    (ds_cons (ds_if (dt_not (dt_val (de_callC (fun _ => c__law_is_deed) (fun _ => hr) (by omega) (fun _ => bodyTk) (da_cons (de_var 6) da_nil))))
    (ds_one (ds_ret (de_tup (da_cons de_str (da_cons (de_add (de_var 2) de_int) da_nil)))))
    ds_nil)
    (ds_one (ds_expr (de_append (de_var 1) (da_cons (de_var 6) da_nil)))))))))
    (ds_one (ds_ret (de_tup (da_cons de_str (da_cons (dc_tuple (fun _ => T.b_tuple) (da_cons (de_var 1) da_nil)) da_nil)))))))), fun ds S Q E h => ?_⟩), hm, hk, hb⟩
  obtain ⟨d, rfl, hd, hz, h⟩ := h
  cases d with
  | str z =>
    have hl := hz z rfl
    have gp : (S ++ [SO.lst []])[S.length]? = some (.lst []) := by rw [List.getElem?_append_right (Nat.le_refl _)]; simp
    have g0 : Grown S (S ++ [SO.lst []]) := ⟨by simp, fun m hm => List.getElem?_append_left hm⟩
    walk_at "go"
    generalize S ++ [SO.lst []] = S0 at gp g0 ⊢
    by_cases e : z = ""
    · subst e
      rw [decide_eq_true rfl]
      walk_at "go"
      refine ⟨_, _, rfl, rfl, ?_⟩
      refine ⟨fun i ρ S' => Grown S S' ∧ S'[S.length]? = some (.lst []) ∧ ∃ o2 o3 o4 o5 o6, ρ = [some (.str ""), some (.ref S.length), o2, o3, o4, o5, o6], ⟨g0, gp, none, none, none, none, none, rfl⟩, fun _ _ _ _ _ => rfl, ?_, ?_⟩
      · rintro i x ρ S1 hx1 _
        simp [enD] at hx1
      · rintro ρ S1 ⟨g1, e1, o2, o3, o4, o5, o6, rfl⟩
        walk_at "go"
        exact h _ g1
    · rw [decide_eq_false e]
      have er : readS z = readR (Txt.split z "\n") 0 := by unfold readS; rw [if_neg e]
      walk_at "go"
      refine o_split (by decide) (small (by omega)) ?_
      generalize hls : Txt.split z "\n" = ls at er ⊢
      have pl : ∀ l ∈ ls, l.length ≤ 5000 := fun l m => Nat.le_trans (split_part (hls ▸ m)) hl
      have nl : ls.length ≤ 5002 := by rw [← hls]; exact Nat.le_trans (split_many _ _) (by omega)
      walk_at "go"
      refine ⟨_, _, rfl, rfl, ?_⟩
      refine ⟨fun i ρ S' => Grown S S' ∧ ∃ acc : List Deed, acc.length ≤ i ∧ S'[S.length]? = some (.lst (acc.map Deed.d)) ∧ readR ls 0 = goR acc (readR (ls.drop i) i) ∧ ∃ o2 o3 o4 o5 o6, ρ = [some (.str z), some (.ref S.length), o2, o3, o4, o5, o6],
        ⟨g0, [], Nat.le_refl _, gp, ?_, none, none, none, none, none, rfl⟩, fun _ _ _ _ _ => rfl, ?_, ?_⟩
      · rw [List.drop_zero]
        cases readR ls 0 <;> rfl
      · rintro i x ρ S1 hx1 ⟨g1, acc, ha, e1, hw, o2, o3, o4, o5, o6, rfl⟩
        have hi : i < ls.length := by
          have := (List.getElem?_eq_some_iff.mp hx1).1
          rw [enD_len] at this
          simpa using this
        have hx2 : (enD (ls.map D.str))[i]? = some (.tup [.int (i : Nat), .str ls[i]]) := enD_get (by rw [List.getElem?_map, List.getElem?_eq_getElem hi]; rfl)
        rw [hx1] at hx2
        cases hx2
        have pli := pl ls[i] (List.getElem_mem hi)
        rw [List.drop_eq_getElem_cons hi] at hw
        generalize ls[i] = l at *
        walk_at "go"
        refine o_split (by decide) (small (by omega)) ?_
        have pw : ∀ y ∈ Txt.split l " ", y.length ≤ 5000 := fun y m => Nat.le_trans (split_part m) pli
        have nw : (Txt.split l " ").length ≤ 5002 := Nat.le_trans (split_many _ _) (by omega)
        have eln : lnD l = lnW (Txt.split l " ") := rfl
        cases ew : Txt.split l " " with
        | nil => exact absurd ew (split_ne _ _)
        | cons w0 ws =>
          rw [ew] at pw nw eln
          have nw : ws.length + 1 ≤ 5002 := nw
          walk_at "go"
          have ec : Dy.cutD ((w0 :: ws).map D.str) (some 1) none = ws.map D.str := cut1
          rw [ec]
          refine ⟨ws, rfl, by omega, fun v mv => Nat.le_trans (pw v (List.mem_cons_of_mem _ mv)) (by omega), ?_⟩
          have bad : deedOf (lnD l) = none → dueT (.str z) = .tup [.str "text", .int ((i : Int) + 1)] := fun eo => by
            have e2 : readS z = .inl i := by rw [er, hw, readR, eo]; rfl
            show (match readS z with | .inl k => D.tup [.str "text", natD (k + 1)] | .inr r => .tup [.str "told", runD r]) = _
            rw [e2]; rfl
          cases ef : figs ws with
          | none =>
            walk_at "go"
            refine o_addT (small (by simp)) ?_
            walk_at "go"
            refine ⟨_, rfl, datD_app (by simp) (fun x m => by cases m), ?_⟩
            have eo : deedOf (.tup [.str w0]) = none := rfl
            have eo2 : deedOf (lnD l) = none := by rw [eln, lnW_figs, ef]; rfl
            walk_at "go"
            have := h S1 g1
            rw [bad eo2] at this
            exact this
          | some ks =>
            have hk : ks.length ≤ 5002 := by
              have := congrArg List.length (figs_some ef).1
              rw [List.length_map, List.length_map, List.length_map] at this
              omega
            have eo2 : deedOf (lnD l) = deedOf (.tup (.str w0 :: ks.map natD)) := by rw [eln, lnW_figs, ef]
            walk_at "go"
            refine o_addT (small (by simp; omega)) ?_
            walk_at "go"
            refine ⟨_, rfl, datD_app (by simp; omega) (fun x m => by
              obtain ⟨k, _, rfl⟩ := List.mem_map.mp m
              rfl), ?_⟩
            have eo3 : deedOf (.tup ([D.str w0] ++ ks.map natD)) = deedOf (lnD l) := eo2.symm
            rw [eo3]
            walk_at "go"
            cases eo : deedOf (lnD l) with
            | none =>
              walk_at "go"
              have := h S1 g1
              rw [bad eo] at this
              exact this
            | some y =>
              walk_at "go"
              refine o_app e1 (Nat.lt_of_lt_of_le (by rw [List.length_map]; omega : (acc.map Deed.d).length < 10000) (small (by decide))) fun S2 l2 e2 m2 => ?_
              walk_at "go"
              refine ⟨⟨by have := g1.1; omega, fun m hm => (m2 m (by omega)).trans (g1.2 m hm)⟩, acc ++ [y], by simp; omega, ?_, ?_, _, _, _, _, _, rfl⟩
              · have e5 : D.tup ([D.str w0] ++ ks.map natD) = y.d := deedOf_d (eo3.trans eo)
                rw [e2, e5, List.map_append]; rfl
              · rw [hw, go_cons eo]
      · rintro ρ S1 ⟨g1, acc, ha, e1, hw, o2, o3, o4, o5, o6, rfl⟩
        walk_at "go"
        have := h S1 g1
        rw [enD_len, List.length_map, List.drop_length] at hw
        have e2 : readS z = .inr acc := by
          rw [er, hw]
          show (Sum.inr (acc ++ []) : Nat ⊕ List Deed) = _
          rw [List.append_nil]
        have e3 : dueT (.str z) = .tup [.str "told", runD acc] := by
          show (match readS z with | .inl k => D.tup [.str "text", natD (k + 1)] | .inr r => .tup [.str "told", runD r]) = _
          rw [e2]
        rw [e3] at this
        exact this
  | _ => first | (walk_at "go"; exact h _ .refl) | cases hd
end
open PySem PySem.Spec PyProof.Rows L2 Dy

section
variable {cCopyError cNoRun cBadText aL : Addr} {P : Program} {w : World} {K : PySem.W.Frag} {mg : Str → Option Value} {base : Heap} {n : Nat}
def spTold : DSp := fun ds S Q E => ∃ d, ds = [d] ∧ plainD d = true ∧ (∀ z, d = .str z → z.length ≤ 5000) ∧ ∀ S', Grown S S' → Q (dueT d) S'
theorem ok__law_told (T : Txt K mg cCopyError cNoRun cBadText aL w) (c_read_run : Cal P w K mg base "read_run" 6 ["text"] (spRead cBadText)) : Cal P w K mg base "_law_told" 7 ["_law_text"] spTold := by
  obtain ⟨f, fd, A, hm, hk, hb⟩ := T.d__law_told
  refine ⟨f, fd, dfn A sc__law_told (by intro ds S Q E h; obtain ⟨_, rfl, _⟩ := h; rfl) (fun cdv A outer s H E hr => ⟨_, (ds_cons (ds_set 1 (fun _ => sc__law_told.nd) (de_tup (da_cons de_str (da_cons de_non da_nil))))
    (ds_cons (ds_tryAs 2 (em_tab T.em_Copy) (fun _ => rfl) (fun _ => rfl) (fun _ => sc__law_told.nd) (fun _ => ⟨rfl, by decide, .inl T.c_CopyError⟩) (fun _ => bodyTk) (fun W2 => (ds_one (ds_set 1 (fun _ => sc__law_told.nd) (de_tup (da_cons de_str (da_cons (de_callC (fun _ => c_read_run) (fun _ => hr) (by omega) (fun j => tr_tk j) (da_cons (de_var 0) da_nil)) da_nil))))))
    (su_only (C := cBadText) (fun a dd => (ds_one (ds_if (DW.dt (dw_and (dt_val (dc_isE T.xiT T.kitT (fun _ => T.b_isinstance) (da_cons (de_var 2) (da_cons (de_glob (by intro _; rfl) (fun _ => T.c_BadText) rfl (d := .cls _) (v := .ref _) rfl) da_nil)))) (dw_and1 (dt_val (dc_isE T.xiT T.kitT (fun _ => T.b_isinstance) (da_cons (de_var 2) (da_cons (de_bltn (by intro _; rfl) (fun _ => T.b_ValueError) bt_ValueError (d := .ty "ValueError") (v := .ty "ValueError") rfl rfl) da_nil)))))))
    (ds_one (ds_set 1 (fun _ => sc__law_told.nd) (de_tup (da_cons de_str (da_cons (de_xe T.xf T.nof (de_var 2)) da_nil)))))
    ds_nil)))))
    (ds_one (ds_ret (de_var 1))))), fun ds S Q E h => ?_⟩), hm, hk, hb⟩
  obtain ⟨d, rfl, hd, hz, h⟩ := h
  have kT : ktTab [(.ty "ValueError", true), (.cls cBadText, true)] (.cls cBadText) = some true := by unfold ktTab; simp
  have kV : ktTab [(.ty "ValueError", true), (.cls cBadText, true)] (.ty "ValueError") = some true := by unfold ktTab; simp
  walk_at "go"
  refine ⟨d, rfl, hd, fun hs => ?_, fun z ez => ⟨hz z ez, fun k S' er g => ?_, fun r S' er g => ?_⟩⟩
  · refine ⟨true, if_pos (by simp), fun _ a dd hdd => ?_, fun z => by cases z⟩
    cases dd with
    | none => cases hdd
    | some dd =>
      have ev : exV a (some dd) ⟨cBadText, some [("line", .int 0)]⟩ = .exo a dd ["line"] [.int 0] := rfl
      rw [ev]
      walk_at "go"
      refine o_isE kT ?_
      walk_at "go"
      have h := h S .refl
      have e : dueT d = .tup [.str "text", .int 0] := by
        cases d <;> first | rfl | exact absurd rfl (hs _)
      rw [e] at h
      exact h
  · subst ez
    refine ⟨true, if_pos (by simp), fun _ a dd hdd => ?_, fun z => by cases z⟩
    cases dd with
    | none => cases hdd
    | some dd =>
      have ev : exV a (some dd) ⟨cBadText, some [("line", natD (k + 1))]⟩ = .exo a dd ["line"] [natD (k + 1)] := rfl
      rw [ev]
      walk_at "go"
      refine o_isE kT ?_
      walk_at "go"
      have h := h S' g
      have e : dueT (.str z) = .tup [.str "text", natD (k + 1)] := by
        show (match readS z with | .inl k => D.tup [.str "text", natD (k + 1)] | .inr r => .tup [.str "told", runD r]) = _
        rw [er]
      rw [e] at h
      exact h
  · subst ez
    walk_at "go"
    have h := h S' g
    have e : dueT (.str z) = .tup [.str "told", runD r] := by
      show (match readS z with | .inl k => D.tup [.str "text", natD (k + 1)] | .inr r => .tup [.str "told", runD r]) = _
      rw [er]
    rw [e] at h
    exact h
def spLText : DSp := fun ds S Q E => ∃ r : List Deed, ds = [runD r] ∧ r.length ≤ 1000 ∧ (∀ x ∈ r, deedSm x) ∧ Q (.str (textS r)) S
theorem deed_parts {x : Deed} (h : deedSm x) : ∃ (wd : Str) (cs : List Nat), x.d = .tup (.str wd :: cs.map natD) ∧ wordsD x = wd :: cs.map strN ∧ (∀ c ∈ cs, c < 10 ^ 9) ∧ cs.length ≤ 2 := by
  cases x with
  | ch i => exact ⟨"change", [i], rfl, rfl, fun c m => by rw [List.mem_singleton.mp m]; exact h, by simp⟩
  | fk i => exact ⟨"fork", [i], rfl, rfl, fun c m => by rw [List.mem_singleton.mp m]; exact h, by simp⟩
  | ls i => exact ⟨"lose", [i], rfl, rfl, fun c m => by rw [List.mem_singleton.mp m]; exact h, by simp⟩
  | jn i j => exact ⟨"join", [i, j], rfl, rfl, fun c m => by
      simp only [List.mem_cons, List.not_mem_nil, or_false] at m
      rcases m with rfl | rfl
      · exact h.1
      · exact h.2.1, by simp⟩
theorem ok__law_run_text (T : Txt K mg cCopyError cNoRun cBadText aL w) : Cal P w K mg base "_law_run_text" 1 ["_law_run"] spLText := by
  obtain ⟨f, fd, A, hm, hk, hb⟩ := T.d__law_run_text
  refine ⟨f, fd, dfn A sc__law_run_text (by intro ds S Q E h; obtain ⟨_, rfl, _⟩ := h; rfl) (fun cdv A outer s H E hr => ⟨_, (ds_one (ds_ret (de_join de_str (de_lc 1 (fun _ => rfl) (fun _ => sc__law_run_text.nd) (di_sq (de_var 0)) (fun _ => blkOk_by (N := N__law_run_text) (sc := defScope s__law_run_text) (by decide +kernel)) dts_nil (de_join de_str (de_cat (de_lst (da_cons (de_at (de_var 1) de_int) da_nil)) (de_lc 2 (fun _ => rfl) (fun _ => sc__law_run_text.nd) (di_sq (de_slT (de_var 1) (do_some de_int) do_none)) (fun _ => blkOk_by (by rfl)) dts_nil (dc_str (fun _ => T.b_str) (da_cons (de_var 2) da_nil)) (fun _ => pg_name (i := 2) sc__law_run_text.nd rfl (Or.inl rfl))))) (fun _ => pg_name (i := 1) sc__law_run_text.nd rfl (Or.inl rfl)))))), fun ds S Q E h => ?_⟩), hm, hk, hb⟩
  obtain ⟨r, rfl, hl, hs, hq⟩ := h
  walk_at "go"
  refine o_lcM lineD rfl (small (by rw [List.length_map]; omega)) (fun y my Pz hP => ?_) ?_
  · obtain ⟨x, mx, rfl⟩ := List.mem_map.mp my
    obtain ⟨wd, cs, e1, e2, e3, e4⟩ := deed_parts (hs x mx)
    have e5 := words_sum (hs x mx)
    unfold lineD at hP
    rw [deed_n (hs x mx)] at hP
    rw [e1]
    walk_at "go"
    rw [cut1]
    refine o_lcM strD rfl (small (by simp; omega)) (fun y my Pz hP => ?_) ?_
    · obtain ⟨c, mc, rfl⟩ := List.mem_map.mp my
      walk_at "go"
      exact o_strN (log_strN (e3 c mc)) hP
    refine o_cat rfl rfl (small (by simp; omega)) ?_
    have e6 : [D.str wd] ++ (cs.map natD).map strD = (wordsD x).map .str := by
      rw [e2, List.map_map, List.map_cons, List.map_map]; rfl
    rw [e6]
    walk_at "go"
    exact o_join rfl (join_size (by rw [bl_len]; omega)) hP
  walk_at "go"
  rw [lines_d hs]
  have h3 := lines_sum hs
  refine o_join rfl (join_size ?_) hq
  rw [nl_len, List.length_map]
  omega
def writD (d : D) : D := match runOf d with
  | none => .int 0
  | some r => .str (textS r)
def GoodR (d : D) : Prop := DatR d ∧ ∀ r, runOf d = some r → r.length ≤ 1000 ∧ ∀ x ∈ r, deedSm x
def spWrit : DSp := fun ds S Q E => ∃ d, ds = [d] ∧ GoodR d ∧ Q (writD d) S
theorem ok__law_written (T : Txt K mg cCopyError cNoRun cBadText aL w) (c_run_text : Cal P w K mg base "run_text" 5 ["run"] (spRunText cNoRun)) : Cal P w K mg base "_law_written" 6 ["_law_thing"] spWrit := by
  obtain ⟨f, fd, A, hm, hk, hb⟩ := T.d__law_written
  refine ⟨f, fd, dfn A sc__law_written (by intro ds S Q E h; obtain ⟨_, rfl, _⟩ := h; rfl) (fun cdv A outer s H E hr => ⟨_, (ds_cons (ds_set 1 (fun _ => sc__law_written.nd) de_str)
    (ds_cons (ds_tryAs 2 (em_tab T.em_Copy) (fun _ => rfl) (fun _ => rfl) (fun _ => sc__law_written.nd) (fun _ => ⟨rfl, by decide, .inl T.c_CopyError⟩) (fun _ => bodyTk) (fun W2 => (ds_one (ds_set 1 (fun _ => sc__law_written.nd) (de_callC (fun _ => c_run_text) (fun _ => hr) (by omega) (fun j => tr_tk j) (da_cons (de_var 0) da_nil)))))
    (su_by (pN cNoRun) (fun a C d hp => (ds_one (ds_set 1 (fun _ => sc__law_written.nd) (de_ifExp (DW.dt (dw_and (dt_val (dc_isA (kt := ktTab [(.ty "ValueError", true), (.cls cNoRun, true)]) (pN_eq hp ▸ T.xiR) (pN_eq hp ▸ T.kitR) (fun _ => T.b_isinstance) (da_cons (de_var 2) (da_cons (de_glob (by intro _; rfl) (fun _ => T.c_NoRun) rfl (d := .cls _) (v := .ref _) rfl) da_nil)))) (dw_and1 (dt_val (dc_isA (kt := ktTab [(.ty "ValueError", true), (.cls cNoRun, true)]) (pN_eq hp ▸ T.xiR) (pN_eq hp ▸ T.kitR) (fun _ => T.b_isinstance) (da_cons (de_var 2) (da_cons (de_bltn (by intro _; rfl) (fun _ => T.b_ValueError) bt_ValueError (d := .ty "ValueError") (v := .ty "ValueError") rfl rfl) da_nil))))))) de_int de_str))))))
    (ds_one (ds_ret (de_var 1))))), fun ds S Q E h => ?_⟩), hm, hk, hb⟩
  obtain ⟨d, rfl, hd, h⟩ := h
  walk_at "go"
  refine ⟨d, rfl, hd.1, fun er => ?_, fun r er => ⟨(hd.2 r er).1, (hd.2 r er).2, ?_⟩⟩
  · refine ⟨true, if_pos (by simp), fun _ a dd hdd => ?_, fun z => by cases z⟩
    cases dd with
    | some _ => cases hdd
    | none =>
      have ev : exV a none ⟨cNoRun, none⟩ = .cls a := rfl
      rw [ev]
      refine s_by (by unfold pN; rw [decide_eq_true rfl]; rfl) ?_
      walk_at "go"
      refine o_isA0 (b := true) (by unfold ktTab; simp) ?_
      walk_at "go"
      refine o_isA0 (b := true) (by unfold ktTab; simp) ?_
      walk_at "go"
      have e : writD d = .int 0 := by unfold writD; rw [er]
      rw [e] at h
      exact h
  · walk_at "go"
    have e : writD d = .str (textS r) := by unfold writD; rw [er]
    rw [e] at h
    exact h
def deepD (kind : Int) : Nat → D
  | 0 => .non
  | k + 1 => if decide (kind = 0) = true then .lst [deepD kind k] else .tup [deepD kind k]
def spDeep : DSp := fun ds S Q E => ∃ kind : Int, ds = [.int kind] ∧ Q (deepD kind 28) S
theorem ok__law_deep (T : Txt K mg cCopyError cNoRun cBadText aL w) : Cal P w K mg base "_law_deep" 1 ["_law_kind"] spDeep := by
  obtain ⟨f, fd, A, hm, hk, hb⟩ := T.d__law_deep
  refine ⟨f, fd, dfn A sc__law_deep (by intro ds S Q E h; obtain ⟨_, rfl, _⟩ := h; rfl) (fun cdv A outer s H E hr => ⟨_, (ds_cons (ds_set 1 (fun _ => sc__law_deep.nd) de_non)
    (ds_cons (ds_for (fun _ => bodyHp) (fun _ => rfl) (di_rng1 (by intro _; rfl) (fun _ => T.b_range) (da_cons de_int da_nil)) (dg_name 2 (fun _ => sc__law_deep.nd))
    (ds_one (ds_set 1 (fun _ => sc__law_deep.nd) (de_ifExp (dt_cmp (oq_eq fun _ => hr) lk_eq (de_var 0) de_int (nomark _)) (de_lst (da_cons (de_var 1) da_nil)) (de_tup (da_cons (de_var 1) da_nil))))))
    (ds_one (ds_ret (de_var 1))))), fun ds S Q E h => ?_⟩), hm, hk, hb⟩
  obtain ⟨kind, rfl, h⟩ := h
  walk_at "go"
  refine ⟨28, rfl, by decide, by decide, ?_⟩
  refine ⟨fun i ρ S' => S' = S ∧ ∃ o, ρ = [some (.int kind), some (deepD kind i), o], ⟨rfl, none, rfl⟩, fun _ _ _ _ _ => trivial, ?_, ?_⟩
  · rintro i x ρ S1 hx ⟨rfl, o, rfl⟩
    walk_at "go"
    rw [Bool.false_xor]
    refine ifD (fun c => ?_) (fun c => ?_)
    · walk_at "go"
      refine ⟨rfl, some x, ?_⟩
      rw [deepD, if_pos (decide_eq_true c)]; rfl
    · walk_at "go"
      refine ⟨rfl, some x, ?_⟩
      rw [deepD, if_neg (by rw [decide_eq_false c]; decide)]; rfl
  · rintro ρ S1 ⟨rfl, o, rfl⟩
    walk_at "go"
    exact h
end
open PySem PySem.Spec PyProof.Rows L2 Dy

section
variable {cCopyError cNoRun cBadText aL : Addr} {P : Program} {w : World} {K : PySem.W.Frag} {mg : Str → Option Value} {base : Heap} {n : Nat}
/-- only the lists N changed -/
def KG (N : List Nat) (S S' : Store) : Prop := S.length ≤ S'.length ∧ ∀ (m : Nat), m < S.length → m ∉ N → S'[m]? = S[m]?
theorem KG.refl {N : List Nat} {S : Store} : KG N S S := ⟨Nat.le_refl _, fun _ _ _ => rfl⟩
theorem KG.trans {N : List Nat} {S S1 S2 : Store} (h : KG N S S1) (k : KG N S1 S2) : KG N S S2 := ⟨Nat.le_trans h.1 k.1, fun m hm hn => (k.2 m (by have := h.1; omega) hn).trans (h.2 m hm hn)⟩
theorem Kept.kg {N : List Nat} {S S' : Store} (h : Kept N S S') : KG N S S' := ⟨by rw [h.1]; exact Nat.le_refl _, fun m _ hn => h.2 m hn⟩
theorem Grown.kg {N : List Nat} {S S' : Store} (h : Grown S S') : KG N S S' := ⟨h.1, fun m hm _ => h.2 m hm⟩
theorem HandAt.lt {S : Store} {n : Nat} (h : HandAt S n) : n < S.length := by
  obtain ⟨_, _, _, _, _, e⟩ := h
  exact (List.getElem?_eq_some_iff.mp e).1
theorem HandAt.grown {S S' : Store} {n : Nat} (h : HandAt S n) (g : Grown S S') : HandAt S' n := by
  have l := h.lt
  obtain ⟨cs, i, big, st, k, e⟩ := h
  exact ⟨cs, i, big, st, k, (g.2 n l).trans e⟩
theorem draw_ok {n : Nat} {k : Int} {S : Store} {Q : QD} {E : XQ} (hp : HandAt S n) (h1 : 1 ≤ k) (h2 : k ≤ 1000000000) (h : ∀ r S', 0 ≤ r → r < k → HandAt S' n → Kept [n] S S' → Q (.int r) S') : spDraw [.ref n, .int k] S Q E := ⟨n, k, rfl, hp, by omega, log_int (by omega) h2, h⟩
/-! a bent text -/
def spBent : DSp := fun ds S Q E => ∃ n z, ds = [.ref n, .str z] ∧ HandAt S n ∧ z.length ≤ 2000 ∧ ∀ z' S', z'.length ≤ 3 * z.length + 20 → HandAt S' n → KG [n] S S' → Q (.str z') S'
theorem strs_in {x : D} {ys : List Str} (h : x ∈ ys.map D.str) : ∃ y ∈ ys, x = .str y := by
  obtain ⟨y, m, rfl⟩ := List.mem_map.mp h
  exact ⟨y, m, rfl⟩
theorem ok__law_bent (T : Txt K mg cCopyError cNoRun cBadText aL w) (c__law_draw : Cal P w K mg base "_law_draw" 1 ["_law_hand_here", "_law_many"] spDraw) (c__law_some : Cal P w K mg base "_law_some" 2 ["_law_hand_here", "_law_things"] spAny) : Cal P w K mg base "_law_bent" 3 ["_law_hand_here", "_law_text"] spBent := by
  obtain ⟨f, fd, A, hm, hk, hb⟩ := T.d__law_bent
  refine ⟨f, fd, dfn A sc__law_bent (by intro ds S Q E h; obtain ⟨_, _, rfl, _⟩ := h; rfl) (fun cdv A outer s H E hr => ⟨_, (ds_cons (ds_set 2 (fun _ => sc__law_bent.nd) (de_callC (fun _ => c__law_draw) (fun _ => hr) (by omega) (fun _ => bodyTk) (da_cons (de_var 0) (da_cons (de_add (dc_lenS (fun _ => T.b_len) (da_cons (de_var 1) da_nil)) de_int) da_nil))))
    (ds_cons (ds_set 3 (fun _ => sc__law_bent.nd) (de_callC (fun _ => c__law_some) (fun _ => hr) (by omega) (fun _ => bodyTk) (da_cons (de_var 0) (da_cons (de_lst (da_cons de_str (da_cons de_str (da_cons de_str (da_cons de_str (da_cons de_str (da_cons de_str (da_cons de_str (da_cons de_str (da_cons de_str (da_cons de_str da_nil))))))))))) da_nil))))
    (ds_cons (ds_set 4 (fun _ => sc__law_bent.nd) (de_split (de_var 1) de_str))
    (ds_cons (ds_set 5 (fun _ => sc__law_bent.nd) (de_callC (fun _ => c__law_draw) (fun _ => hr) (by omega) (fun _ => bodyTk) (da_cons (de_var 0) (da_cons (dc_len (fun _ => T.b_len) (da_cons (de_var 4) da_nil)) da_nil))))
    (ds_cons (ds_set 6 (fun _ => sc__law_bent.nd) (de_repLN (de_lst (da_cons (de_add (de_add (de_slS (de_var 1) do_none (do_some (de_var 2))) (de_var 3)) (de_slS (de_var 1) (do_some (de_var 2)) do_none)) (da_cons (de_add (de_slS (de_var 1) do_none (do_some (de_var 2))) (de_slS (de_var 1) (do_some (de_add (de_var 2) de_int)) do_none)) (da_cons (de_add (de_add (de_slS (de_var 1) do_none (do_some (de_var 2))) (de_var 3)) (de_slS (de_var 1) (do_some (de_add (de_var 2) de_int)) do_none)) da_nil)))) de_int))
    (ds_cons (ds_expr (de_append (de_var 6) (da_cons (de_join de_str (de_cat (de_slL (de_var 4) do_none (do_some (de_var 5))) (de_slL (de_var 4) (do_some (de_add (de_var 5) de_int)) do_none))) da_nil)))
    (ds_cons (ds_expr (de_append (de_var 6) (da_cons (de_join de_str (de_cat (de_cat (de_slL (de_var 4) do_none (do_some (de_var 5))) (de_slL (de_var 4) (do_some (de_var 5)) (do_some (de_add (de_var 5) de_int)))) (de_slL (de_var 4) (do_some (de_var 5)) do_none))) da_nil)))
    (ds_one (ds_ret (de_callC (fun _ => c__law_some) (fun _ => hr) (by omega) (fun _ => bodyTk) (da_cons (de_var 0) (da_cons (de_cat (de_var 6) (de_lst (da_cons (de_add (de_var 1) (de_var 3)) (da_cons (de_slS (de_var 1) do_none (do_some (de_var 2))) (da_cons (de_join de_str (de_revL (de_var 4))) (da_cons (de_add (de_var 1) de_str) da_nil)))))) da_nil)))))))))))), fun ds S Q E h => ?_⟩), hm, hk, hb⟩
  obtain ⟨n, z, rfl, hp, hz, h⟩ := h
  have hz' : z.length ≤ sizeLine := small (by omega)
  walk_at "go"
  refine draw_ok hp (by omega) (by omega) fun r S1 r0 r1 hp1 k1 => ?_
  walk_at "go"
  refine any_ok hp1 (by simp) (by simp) fun d S2 md hp2 k2 => ?_
  obtain ⟨sg, rfl, hsg⟩ : ∃ y, d = D.str y ∧ y.length ≤ 8 := by
    simp only [List.mem_cons, List.not_mem_nil, or_false] at md
    rcases md with rfl | rfl | rfl | rfl | rfl | rfl | rfl | rfl | rfl | rfl <;> exact ⟨_, rfl, by decide⟩
  walk_at "go"
  refine o_split (by decide) (small (by omega)) ?_
  have hsum := split_sum z "\n"
  rw [nl_len] at hsum
  have hne := split_ne z "\n"
  generalize Txt.split z "\n" = ls at hsum hne ⊢
  have hn0 : 0 < ls.length := List.length_pos_iff.mpr hne
  have hll : (ls.map D.str).length = ls.length := List.length_map _
  walk_at "go"
  refine draw_ok hp2 (by omega) (by omega) fun r' S3 q0 q1 hp3 k3 => ?_
  have hc := fun lo hi => cutS_length z lo hi
  have cut2 : ∀ lo hi lo2 hi2 (y : Str), y.length ≤ 8 → (cutS z lo hi ++ y ++ cutS z lo2 hi2).length ≤ 3 * z.length + 20 := fun lo hi lo2 hi2 y hy => by
    have h1 := hc lo hi
    have h2 := hc lo2 hi2
    rw [app_len, app_len]; omega
  have cut3 : ∀ lo hi lo2 hi2, (cutS z lo hi ++ cutS z lo2 hi2).length ≤ 3 * z.length + 20 := fun lo hi lo2 hi2 => by
    have h1 := hc lo hi
    have h2 := hc lo2 hi2
    rw [app_len]; omega
  have sz1 : ∀ lo hi, (cutS z lo hi).length + sg.length ≤ sizeLine := fun lo hi => small (by have := hc lo hi; omega)
  have sz2 : ∀ lo hi lo2 hi2, (cutS z lo hi ++ sg).length + (cutS z lo2 hi2).length ≤ sizeLine := fun lo hi lo2 hi2 => small (by have := hc lo hi; have := hc lo2 hi2; rw [app_len]; omega)
  have sz3 : ∀ lo hi lo2 hi2, (cutS z lo hi).length + (cutS z lo2 hi2).length ≤ sizeLine := fun lo hi lo2 hi2 => small (by have := hc lo hi; have := hc lo2 hi2; omega)
  walk_at "go"
  refine o_addS (sz1 _ _) ?_
  walk_at "go"
  refine o_addS (sz2 _ _ _ _) ?_
  walk_at "go"
  refine o_addS (sz3 _ _ _ _) ?_
  walk_at "go"
  refine o_addS (sz1 _ _) ?_
  walk_at "go"
  refine o_addS (sz2 _ _ _ _) ?_
  walk_at "go"
  refine o_repLN rfl (by decide) (by decide) (by simp) ?_
  walk_at "go"
  generalize hL : (List.replicate (Int.toNat 2) [D.str (cutS z none (some r) ++ sg ++ cutS z (some r) none), D.str (cutS z none (some r) ++ cutS z (some (r + 1)) none), D.str (cutS z none (some r) ++ sg ++ cutS z (some (r + 1)) none)]).flatten = L0
  have hG : ∀ d ∈ L0, ∃ y, d = D.str y ∧ y.length ≤ 3 * z.length + 20 := fun d m => by
    rw [← hL] at m
    simp only [show Int.toNat 2 = 2 from rfl, List.replicate, List.flatten_cons, List.flatten_nil, List.append_nil, List.cons_append, List.nil_append, List.mem_cons, List.not_mem_nil, or_false] at m
    rcases m with rfl | rfl | rfl | rfl | rfl | rfl
    · exact ⟨_, rfl, cut2 _ _ _ _ _ hsg⟩
    · exact ⟨_, rfl, cut3 _ _ _ _⟩
    · exact ⟨_, rfl, cut2 _ _ _ _ _ hsg⟩
    · exact ⟨_, rfl, cut2 _ _ _ _ _ hsg⟩
    · exact ⟨_, rfl, cut3 _ _ _ _⟩
    · exact ⟨_, rfl, cut2 _ _ _ _ _ hsg⟩
  have hLl : L0.length = 6 := by rw [← hL]; simp [show Int.toNat 2 = 2 from rfl]
  clear hL
  have gp : (S3 ++ [SO.lst L0])[S3.length]? = some (.lst L0) := by rw [List.getElem?_append_right (Nat.le_refl _)]; simp
  have g3 : Grown S3 (S3 ++ [SO.lst L0]) := ⟨by simp, fun m hm => List.getElem?_append_left hm⟩
  generalize hS4 : S3 ++ [SO.lst L0] = S4 at gp g3 ⊢
  have kg3 : KG [n] S S4 := ((k1.kg.trans k2.kg).trans k3.kg).trans g3.kg
  have hp4 := hp3.grown g3
  have lt3 : n < S3.length := hp3.lt
  have jl : ∀ ys : List Str, sumL ys ≤ 3 * sumL ls → ys.length ≤ 3 * ls.length → (Txt.join "\n" ys).length ≤ 3 * z.length + 20 := fun ys h1 h2 => by
    have := join_len "\n" ys
    rw [nl_len] at this
    omega
  have js : ∀ ys : List Str, sumL ys ≤ 3 * sumL ls → ys.length ≤ 3 * ls.length → (ys.map (·.length)).sum + ys.length * ("\n" : Str).length ≤ 16777216 := fun ys h1 h2 => join_size (by rw [nl_len]; omega)
  obtain ⟨a1, e1, s1, l1⟩ := cut_strs ls none (some r')
  obtain ⟨a2, e2, s2, l2⟩ := cut_strs ls (some (r' + 1)) none
  obtain ⟨a3, e3, s3, l3⟩ := cut_strs ls (some r') (some (r' + 1))
  obtain ⟨a4, e4, s4, l4⟩ := cut_strs ls (some r') none
  refine ⟨⟨L0, ls_ref gp⟩, ?_⟩
  walk_at "go"
  rw [e1, e2]
  refine o_cat rfl rfl (small (by simp; omega)) ?_
  rw [← List.map_append]
  walk_at "go"
  have b1 : sumL (a1 ++ a2) ≤ 3 * sumL ls := by rw [sum_app]; omega
  have b2 : (a1 ++ a2).length ≤ 3 * ls.length := by rw [List.length_append]; omega
  refine o_join rfl (js _ b1 b2) ?_
  walk_at "go"
  refine o_app gp (Nat.lt_of_lt_of_le (by omega : L0.length < 100) (small (by decide))) fun S5 l5 f5 m5 => ?_
  walk_at "go"
  rw [e1, e3]
  refine o_cat rfl rfl (small (by simp; omega)) ?_
  walk_at "go"
  rw [e4]
  refine o_cat rfl rfl (small (by simp; omega)) ?_
  rw [← List.map_append, ← List.map_append]
  walk_at "go"
  have c1 : sumL (a1 ++ a3 ++ a4) ≤ 3 * sumL ls := by rw [sum_app, sum_app]; omega
  have c2 : (a1 ++ a3 ++ a4).length ≤ 3 * ls.length := by rw [List.length_append, List.length_append]; omega
  refine o_join rfl (js _ c1 c2) ?_
  walk_at "go"
  refine o_app f5 (Nat.lt_of_lt_of_le (by simp; omega : (L0 ++ [D.str (Txt.join "\n" (a1 ++ a2))]).length < 100) (small (by decide))) fun S6 l6 f6 m6 => ?_
  walk_at "go"
  refine o_addS (small (by omega)) ?_
  walk_at "go"
  refine ⟨_, rfl, ?_⟩
  rw [← List.map_reverse]
  have d1 : sumL ls.reverse ≤ 3 * sumL ls := by rw [sum_rev]; omega
  have d2 : ls.reverse.length ≤ 3 * ls.length := by rw [List.length_reverse]; omega
  refine o_join rfl (js _ d1 d2) ?_
  walk_at "go"
  refine o_addS (small (by rw [nl_len]; omega)) ?_
  walk_at "go"
  refine o_cat (lm_ref f6) rfl (small (by simp; omega)) ?_
  walk_at "go"
  have kg6 : KG [n] S S6 := ((k1.kg.trans k2.kg).trans k3.kg).trans ⟨by have := g3.1; omega, fun m hm hn => ((m6 m (by omega)).trans (m5 m (by omega))).trans (g3.2 m hm)⟩
  have hp6 : HandAt S6 n := hp3.grown ⟨by have := g3.1; omega, fun m hm => ((m6 m (by omega)).trans (m5 m (by omega))).trans (g3.2 m hm)⟩
  refine any_ok hp6 (by simp) (by simp; omega) fun x S7 mx hp7 k7 => ?_
  have fin : ∀ y : Str, y.length ≤ 3 * z.length + 20 → Q (.str y) S7 := fun y hy => h y S7 hy hp7 (kg6.trans k7.kg)
  simp only [List.mem_append, List.mem_cons, List.not_mem_nil, or_false] at mx
  rcases mx with ((mx | mx) | mx) | mx | mx | mx | mx
  · obtain ⟨y, rfl, hy⟩ := hG x mx
    exact fin y hy
  · rw [mx]; exact fin _ (jl _ b1 b2)
  · rw [mx]; exact fin _ (jl _ c1 c2)
  · rw [mx]; exact fin _ (by rw [app_len]; omega)
  · rw [mx]; exact fin _ (by have := hc none (some r); omega)
  · rw [mx]; exact fin _ (jl _ d1 d2)
  · rw [mx]; exact fin _ (by rw [app_len, nl_len]; omega)
/-! a drawn run -/
def spDrawn : DSp := fun ds S Q E => ∃ n, ds = [.ref n, .int 12] ∧ HandAt S n ∧ ∀ r S', r.length ≤ 12 → (∀ x ∈ r, deedSm x) → HandAt S' n → KG [n] S S' → Q (runD r) S'
theorem ok__law_run_drawn (T : Txt K mg cCopyError cNoRun cBadText aL w) (c__law_draw : Cal P w K mg base "_law_draw" 1 ["_law_hand_here", "_law_many"] spDraw) (c__law_some : Cal P w K mg base "_law_some" 2 ["_law_hand_here", "_law_things"] spAny) : Cal P w K mg base "_law_run_drawn" 3 ["_law_hand_here", "_law_many"] spDrawn := by
  obtain ⟨f, fd, A, hm, hk, hb⟩ := T.d__law_run_drawn
  refine ⟨f, fd, dfn A sc__law_run_drawn (by intro ds S Q E h; obtain ⟨_, rfl, _⟩ := h; rfl) (fun cdv A outer s H E hr => ⟨_, (ds_cons (ds_set 2 (fun _ => sc__law_run_drawn.nd) (de_new da_nil))
    (ds_cons (ds_for (fun _ => bodyHp) (fun _ => rfl) (di_rng1 (by intro _; rfl) (fun _ => T.b_range) (da_cons (de_callC (fun _ => c__law_draw) (fun _ => hr) (by omega) (fun _ => bodyTk) (da_cons (de_var 0) (da_cons (de_add (de_var 1) de_int) da_nil))) da_nil)) (dg_name 3 (fun _ => sc__law_run_drawn.nd))
    (ds_cons (ds_set 4 (fun _ => sc__law_run_drawn.nd) (de_callC (fun _ => c__law_draw) (fun _ => hr) (by omega) (fun _ => bodyTk) (da_cons (de_var 0) (da_cons (de_callC (fun _ => c__law_some) (fun _ => hr) (by omega) (fun _ => bodyTk) (da_cons (de_var 0) (da_cons (de_lst (da_cons de_int (da_cons de_int (da_cons (de_sub (de_pow de_int de_int) de_int) da_nil)))) da_nil))) da_nil))))
    (ds_cons (ds_set 5 (fun _ => sc__law_run_drawn.nd) (de_add (de_add (de_var 4) de_int) (de_callC (fun _ => c__law_draw) (fun _ => hr) (by omega) (fun _ => bodyTk) (da_cons (de_var 0) (da_cons de_int da_nil)))))
    (ds_cons (ds_set 6 (fun _ => sc__law_run_drawn.nd) (de_callC (fun _ => c__law_some) (fun _ => hr) (by omega) (fun _ => bodyTk) (da_cons (de_var 0) (da_cons (de_lst (da_cons (de_tup (da_cons (de_var 4) (da_cons (de_var 5) da_nil))) (da_cons (de_tup (da_cons (de_var 5) (da_cons (de_var 4) da_nil))) da_nil))) da_nil))))
    (ds_cons (ds_set 7 (fun _ => sc__law_run_drawn.nd) (de_lst (da_cons (de_tup (da_cons de_str (da_cons (de_var 4) da_nil))) (da_cons (de_tup (da_cons de_str (da_cons (de_var 4) da_nil))) (da_cons (de_tup (da_cons de_str (da_cons (de_var 4) da_nil))) (da_cons (de_tup (da_cons de_str (da_cons (de_at (de_var 6) de_int) (da_cons (de_at (de_var 6) de_int) da_nil)))) da_nil))))))
    (ds_one (ds_expr (de_append (de_var 2) (da_cons (de_callC (fun _ => c__law_some) (fun _ => hr) (by omega) (fun _ => bodyTk) (da_cons (de_var 0) (da_cons (de_var 7) da_nil))) da_nil)))))))))
    (ds_one (ds_ret (dc_tuple (fun _ => T.b_tuple) (da_cons (de_var 2) da_nil)))))), fun ds S Q E h => ?_⟩), hm, hk, hb⟩
  obtain ⟨n, rfl, hp, h⟩ := h
  have gp : (S ++ [SO.lst []])[S.length]? = some (.lst []) := by rw [List.getElem?_append_right (Nat.le_refl _)]; simp
  have g0 : Grown S (S ++ [SO.lst []]) := ⟨by simp, fun m hm => List.getElem?_append_left hm⟩
  have lt0 := hp.lt
  walk_at "go"
  have hp0 := hp.grown g0
  generalize S ++ [SO.lst []] = S0 at gp g0 hp0 ⊢
  refine draw_ok hp0 (by decide) (by decide) fun q S1 q0 q1 hp1 k1 => ?_
  refine ⟨q, rfl, by omega, by omega, ?_⟩
  refine ⟨fun i ρ S' => HandAt S' n ∧ KG [n] S S' ∧ ∃ r : List Deed, r.length = i ∧ (∀ x ∈ r, deedSm x) ∧ S'[S.length]? = some (.lst (r.map Deed.d)) ∧ ∃ o3 o4 o5 o6 o7, ρ = [some (.ref n), some (.int 12), some (.ref S.length), o3, o4, o5, o6, o7],
    ⟨hp1, g0.kg.trans k1.kg, [], rfl, (fun x m => by cases m), (k1.2 _ (by simp; omega)).trans gp, none, none, none, none, none, rfl⟩, fun _ _ _ _ _ => trivial, ?_, ?_⟩
  · rintro i x ρ S2 hx ⟨hp2, kg2, r, hr, hs, e2, o3, o4, o5, o6, o7, rfl⟩
    have hi : i < q.toNat := by
      have := (List.getElem?_eq_some_iff.mp hx).1
      rw [rng_len] at this
      exact this
    walk_at "go"
    refine any_ok hp2 (by simp) (by simp) fun d S3 md hp3 k3 => ?_
    obtain ⟨c, rfl, c0, c1⟩ : ∃ c : Int, d = .int c ∧ 1 ≤ c ∧ c ≤ 999999996 := by
      simp only [List.mem_cons, List.not_mem_nil, or_false] at md
      rcases md with rfl | rfl | rfl
      · exact ⟨_, rfl, by decide, by decide⟩
      · exact ⟨_, rfl, by decide, by decide⟩
      · exact ⟨_, rfl, by decide, by decide⟩
    walk_at "go"
    refine draw_ok hp3 (by omega) (by omega) fun one S4 a0 a1 hp4 k4 => ?_
    walk_at "go"
    refine draw_ok hp4 (by decide) (by decide) fun oth S5 b0 b1 hp5 k5 => ?_
    walk_at "go"
    refine any_ok hp5 (by simp) (by simp) fun pr S6 mp hp6 k6 => ?_
    obtain ⟨u, v, rfl, hu, hv, huv⟩ : ∃ u v : Nat, pr = .tup [natD u, natD v] ∧ u < 10 ^ 9 ∧ v < 10 ^ 9 ∧ u ≠ v := by
      obtain ⟨x1, rfl⟩ := Int.eq_ofNat_of_zero_le a0
      obtain ⟨x2, rfl⟩ := Int.eq_ofNat_of_zero_le b0
      simp only [List.mem_cons, List.not_mem_nil, or_false] at mp
      rcases mp with rfl | rfl
      · exact ⟨x1, x1 + 1 + x2, rfl, by omega, by omega, by omega⟩
      · exact ⟨x1 + 1 + x2, x1, rfl, by omega, by omega, by omega⟩
    obtain ⟨x1, rfl⟩ := Int.eq_ofNat_of_zero_le a0
    have e6 : S6[S.length]? = some (.lst (r.map Deed.d)) := by
      have nm : S.length ∉ [n] := by simp; omega
      rw [k6.2 _ nm, k5.2 _ nm, k4.2 _ nm, k3.2 _ nm]
      exact e2
    walk_at "go"
    refine any_ok hp6 (by simp) (by simp) fun dd S7 mdd hp7 k7 => ?_
    obtain ⟨y, rfl, hy⟩ : ∃ y : Deed, dd = y.d ∧ deedSm y := by
      simp only [List.mem_cons, List.not_mem_nil, or_false] at mdd
      rcases mdd with rfl | rfl | rfl | rfl
      · exact ⟨.ch x1, rfl, by show x1 < 10 ^ 9; omega⟩
      · exact ⟨.fk x1, rfl, by show x1 < 10 ^ 9; omega⟩
      · exact ⟨.ls x1, rfl, by show x1 < 10 ^ 9; omega⟩
      · exact ⟨.jn u v, rfl, hu, hv, huv⟩
    have kk : ∀ m : Nat, m ≠ n → S7[m]? = S2[m]? := fun m hm => by
      have nm : m ∉ [n] := by simpa using hm
      rw [k7.2 m nm, k6.2 m nm, k5.2 m nm, k4.2 m nm, k3.2 m nm]
    have e7 := (kk S.length (by omega)).trans e2
    have l7 : S7.length = S2.length := by rw [k7.1, k6.1, k5.1, k4.1, k3.1]
    walk_at "go"
    refine o_app e7 (Nat.lt_of_lt_of_le (by simp; omega : (r.map Deed.d).length < 100) (small (by decide))) fun S8 l8 e8 m8 => ?_
    walk_at "go"
    have hp8 : HandAt S8 n := by
      obtain ⟨cs, j, big, st, k, e⟩ := hp7
      exact ⟨cs, j, big, st, k, (m8 n (by omega)).trans e⟩
    have kg8 : KG [n] S S8 := ⟨by have := kg2.1; omega, fun m hm hn => (m8 m (by omega)).trans ((kk m (by simpa using hn)).trans (kg2.2 m hm hn))⟩
    refine ⟨hp8, kg8, r ++ [y], by simp [hr], fun z mz => ?_, by rw [e8, List.map_append]; rfl, _, _, _, _, _, rfl⟩
    · rcases List.mem_append.mp mz with mz | mz
      · exact hs z mz
      · rw [List.mem_singleton.mp mz]; exact hy
  · rintro ρ S2 ⟨hp2, kg2, r, hr, hs, e2, o3, o4, o5, o6, o7, rfl⟩
    rw [rng_len] at hr
    walk_at "go"
    exact h r S2 (by omega) hs hp2 kg2
end
open PySem PySem.Spec PyProof.Rows L2 Dy

section
variable {cCopyError cNoRun cBadText aL : Addr} {P : Program} {w : World} {K : PySem.W.Frag} {mg : Str → Option Value} {base : Heap} {n : Nat}
theorem plain_d {x : Deed} : DatD x.d := by
  cases x <;> exact ⟨rfl, fun xs e => by
    cases e
    exact ⟨by simp, fun y m => by
      simp only [List.mem_cons, List.not_mem_nil, or_false] at m
      rcases m with rfl | rfl | rfl <;> rfl⟩⟩
theorem deeds_sm : ∀ {xs : List D} {r : List Deed}, deedsOf xs = some r → (∀ d ∈ xs, ∀ x, deedOf d = some x → deedSm x) → r.length = xs.length ∧ ∀ x ∈ r, deedSm x
  | [], r, h, _ => by cases h; exact ⟨rfl, fun x m => by cases m⟩
  | d :: xs, r, h, hs => by
    rw [deedsOf] at h
    split at h
    · rename_i y ys e1 e2
      cases h
      obtain ⟨h1, h2⟩ := deeds_sm e2 fun d m => hs d (List.mem_cons_of_mem _ m)
      exact ⟨by simp [h1], fun x m => by
        rcases List.mem_cons.mp m with rfl | m
        · exact hs d (by simp) _ e1
        · exact h2 x m⟩
    · cases h
theorem good_tup {xs : List D} (hl : xs.length ≤ 1000) (hd : ∀ d ∈ xs, DatD d ∧ ∀ x, deedOf d = some x → deedSm x) : GoodR (.tup xs) := by
  refine ⟨⟨rfl, fun ys e => by cases e; exact ⟨by omega, fun x m => (hd x m).1⟩⟩, fun r er => ?_⟩
  obtain ⟨h1, h2⟩ := deeds_sm (show deedsOf xs = some r from er) fun d m => (hd d m).2
  exact ⟨by omega, h2⟩
theorem good_no {d : D} (h : plainD d = true) (ht : ∀ xs, d ≠ .tup xs) : GoodR d := by
  refine ⟨⟨h, fun xs e => absurd e (ht xs)⟩, fun r er => ?_⟩
  cases d <;> first | cases er | exact absurd rfl (ht _)
theorem good_deed {x : Deed} (h : deedSm x) : DatD x.d ∧ ∀ y, deedOf x.d = some y → deedSm y := ⟨plain_d, fun y e => by
  rw [deed_n h] at e
  cases e
  exact h⟩
theorem deep_1 : GoodR (deepD 1 28) := by
  have e : deepD 1 28 = .tup [deepD 1 27] := by rw [deepD]; rfl
  have e2 : deepD 1 27 = .tup [deepD 1 26] := by rw [deepD]; rfl
  have e3 : deepD 1 26 = .tup [deepD 1 25] := by rw [deepD]; rfl
  rw [e]
  refine good_tup (by simp) fun d m => ?_
  rw [List.mem_singleton.mp m, e2, e3]
  exact ⟨⟨rfl, fun xs e => by cases e; exact ⟨by simp, fun y m => by rw [List.mem_singleton.mp m]; rfl⟩⟩, fun x e => by cases e⟩
theorem deep_0 : ∃ x, deepD 0 28 = .lst [x] := ⟨deepD 0 27, by rw [deepD]; rfl⟩
def spBentRun : DSp := fun ds S Q E => ∃ n r, ds = [.ref n, runD r] ∧ HandAt S n ∧ r.length ≤ 12 ∧ (∀ x ∈ r, deedSm x) ∧ ∀ d S', GoodR d → HandAt S' n → KG [n] S S' → Q d S'
theorem cut_run (r : List Deed) (lo hi : Option Int) : ∃ s : List Deed, Dy.cutD (r.map Deed.d) lo hi = s.map Deed.d ∧ s.Sublist r := by
  unfold Dy.cutD
  refine ⟨(r.drop (HT.sIx (r.map Deed.d).length 0 lo)).take (HT.sIx (r.map Deed.d).length (r.map Deed.d).length hi - HT.sIx (r.map Deed.d).length 0 lo), by rw [List.map_take, List.map_drop], (List.take_sublist _ _).trans (List.drop_sublist _ _)⟩
def odds : List D := [.tup [.str "change"], .tup [.str "change", .int (-1)], .tup [.str "join", .int 1, .int 1], .tup [.str "join", .int 0], .tup [.str "fork", .bl true], .tup [.str "Fork", .int 0], .lst [.str "fork", .int 0], .non, .int 0,
  .tup [.str "lose", .str "0"], .tup [.str "change", .int 0, .int 1], .tup [.int 1, .int 0], .tup [.str "fork", .non], .str "fork 0", .tup [.str "fork", .int 0]]
theorem odd_good : ∀ d ∈ odds, DatD d ∧ ∀ x, deedOf d = some x → deedSm x := fun d m => by
  have tt : ∀ xs : List D, xs.length ≤ 3 → (∀ x ∈ xs, plainD x = true) → DatD (.tup xs) := fun xs h1 h2 => ⟨rfl, fun ys e => by cases e; exact ⟨by omega, h2⟩⟩
  have nt : ∀ d : D, plainD d = true → (∀ xs, d ≠ .tup xs) → DatD d := fun d h1 h2 => ⟨h1, fun xs e => absurd e (h2 xs)⟩
  simp only [odds, List.mem_cons, List.not_mem_nil, or_false] at m
  rcases m with rfl | rfl | rfl | rfl | rfl | rfl | rfl | rfl | rfl | rfl | rfl | rfl | rfl | rfl | rfl
  · exact ⟨tt _ (by simp) (by simp [plainD]), fun x e => by cases e⟩
  · exact ⟨tt _ (by simp) (by simp [plainD]), fun x e => by cases e⟩
  · exact ⟨tt _ (by simp) (by simp [plainD]), fun x e => by
      rw [deed3] at e
      have e : (if ("join" : Str) = "join" ∧ (1 : Nat) ≠ 1 then some (Deed.jn 1 1) else none) = some x := e
      rw [if_neg (fun z => z.2 rfl)] at e
      cases e⟩
  · exact ⟨tt _ (by simp) (by simp [plainD]), fun x e => by
      rw [deed2] at e
      have e : (if ("join" : Str) = "change" then some (Deed.ch 0) else if ("join" : Str) = "fork" then some (.fk 0) else if ("join" : Str) = "lose" then some (.ls 0) else none) = some x := e
      rw [if_neg (by decide), if_neg (by decide), if_neg (by decide)] at e
      cases e⟩
  · exact ⟨tt _ (by simp) (by simp [plainD]), fun x e => by cases e⟩
  · exact ⟨tt _ (by simp) (by simp [plainD]), fun x e => by
      rw [deed2] at e
      have e : (if ("Fork" : Str) = "change" then some (Deed.ch 0) else if ("Fork" : Str) = "fork" then some (.fk 0) else if ("Fork" : Str) = "lose" then some (.ls 0) else none) = some x := e
      rw [if_neg (by decide), if_neg (by decide), if_neg (by decide)] at e
      cases e⟩
  · exact ⟨nt _ rfl (by intro xs e; cases e), fun x e => by cases e⟩
  · exact ⟨nt _ rfl (by intro xs e; cases e), fun x e => by cases e⟩
  · exact ⟨nt _ rfl (by intro xs e; cases e), fun x e => by cases e⟩
  · exact ⟨tt _ (by simp) (by simp [plainD]), fun x e => by cases e⟩
  · exact ⟨tt _ (by simp) (by simp [plainD]), fun x e => by
      rw [deed3] at e
      have e : (if ("change" : Str) = "join" ∧ (0 : Nat) ≠ 1 then some (Deed.jn 0 1) else none) = some x := e
      rw [if_neg (fun z => absurd z.1 (by decide))] at e
      cases e⟩
  · exact ⟨tt _ (by simp) (by simp [plainD]), fun x e => by cases e⟩
  · exact ⟨tt _ (by simp) (by simp [plainD]), fun x e => by cases e⟩
  · exact ⟨nt _ rfl (by intro xs e; cases e), fun x e => by cases e⟩
  · exact ⟨tt _ (by simp) (by simp [plainD]), fun x e => by
      rw [deed2] at e
      have e : (if ("fork" : Str) = "change" then some (Deed.ch 0) else if ("fork" : Str) = "fork" then some (.fk 0) else if ("fork" : Str) = "lose" then some (.ls 0) else none) = some x := e
      rw [if_neg (by decide), if_pos rfl] at e
      cases e
      show 0 < 10 ^ 9
      decide⟩
theorem ok__law_bent_run (T : Txt K mg cCopyError cNoRun cBadText aL w) (c__law_draw : Cal P w K mg base "_law_draw" 1 ["_law_hand_here", "_law_many"] spDraw) (c__law_some : Cal P w K mg base "_law_some" 2 ["_law_hand_here", "_law_things"] spAny) (c__law_deep : Cal P w K mg base "_law_deep" 1 ["_law_kind"] spDeep) : Cal P w K mg base "_law_bent_run" 3 ["_law_hand_here", "_law_run"] spBentRun := by
  obtain ⟨f, fd, A, hm, hk, hb⟩ := T.d__law_bent_run
  refine ⟨f, fd, dfn A sc__law_bent_run (by intro ds S Q E h; obtain ⟨_, _, rfl, _⟩ := h; rfl) (fun cdv A outer s H E hr => ⟨_, (ds_cons (ds_set 2 (fun _ => sc__law_bent_run.nd) (de_lst (da_cons (de_tup (da_cons de_str da_nil)) (da_cons (de_tup (da_cons de_str (da_cons (de_neg de_int) da_nil))) (da_cons (de_tup (da_cons de_str (da_cons de_int (da_cons de_int da_nil)))) (da_cons (de_tup (da_cons de_str (da_cons de_int da_nil))) (da_cons (de_tup (da_cons de_str (da_cons de_bl da_nil))) (da_cons (de_tup (da_cons de_str (da_cons de_int da_nil))) (da_cons (de_lst (da_cons de_str (da_cons de_int da_nil))) (da_cons de_non (da_cons de_int da_nil)))))))))))
    (ds_cons (ds_set 3 (fun _ => sc__law_bent_run.nd) (de_callC (fun _ => c__law_draw) (fun _ => hr) (by omega) (fun _ => bodyTk) (da_cons (de_var 0) (da_cons (de_add (dc_len (fun _ => T.b_len) (da_cons (de_var 1) da_nil)) de_int) da_nil))))
    (ds_cons (ds_set 4 (fun _ => sc__law_bent_run.nd) (de_callC (fun _ => c__law_some) (fun _ => hr) (by omega) (fun _ => bodyTk) (da_cons (de_var 0) (da_cons (de_cat (de_var 2) (de_lst (da_cons (de_tup (da_cons de_str (da_cons de_str da_nil))) (da_cons (de_tup (da_cons de_str (da_cons de_int (da_cons de_int da_nil)))) (da_cons (de_tup (da_cons de_int (da_cons de_int da_nil))) (da_cons (de_tup (da_cons de_str (da_cons de_non da_nil))) (da_cons de_str (da_cons (de_tup (da_cons de_str (da_cons de_int da_nil))) da_nil)))))))) da_nil))))
    (ds_cons (ds_set 5 (fun _ => sc__law_bent_run.nd) (de_cat (de_repL (de_lst (da_cons (de_add (de_add (de_slT (de_var 1) do_none (do_some (de_var 3))) (de_tup (da_cons (de_var 4) da_nil))) (de_slT (de_var 1) (do_some (de_var 3)) do_none)) da_nil)) de_int) (de_lst (da_cons (dc_list (fun _ => T.b_list) (da_cons (de_var 1) da_nil)) (da_cons de_non (da_cons de_str (da_cons de_dnil (da_cons (de_callC (fun _ => c__law_deep) (fun _ => hr) (by omega) (fun _ => bodyTk) (da_cons de_int da_nil)) (da_cons (de_callC (fun _ => c__law_deep) (fun _ => hr) (by omega) (fun _ => bodyTk) (da_cons de_int da_nil)) (da_cons (de_var 1) da_nil))))))))))
    (ds_one (ds_ret (de_callC (fun _ => c__law_some) (fun _ => hr) (by omega) (fun _ => bodyTk) (da_cons (de_var 0) (da_cons (de_var 5) da_nil))))))))), fun ds S Q E h => ?_⟩), hm, hk, hb⟩
  obtain ⟨n, r, rfl, hp, hl, hs, h⟩ := h
  have hlm : (r.map Deed.d).length ≤ 12 := by simpa using hl
  walk_at "go"
  refine draw_ok hp (by omega) (by omega) fun q S1 q0 q1 hp1 k1 => ?_
  walk_at "go"
  refine o_cat rfl rfl (small (by simp)) ?_
  walk_at "go"
  refine any_ok hp1 (by simp) (by simp) fun dd S2 md hp2 k2 => ?_
  have gd := odd_good dd md
  obtain ⟨s1, e1, b1⟩ := cut_run r none (some q)
  obtain ⟨s2, e2, b2⟩ := cut_run r (some q) none
  have l1 := b1.length_le
  have l2 := b2.length_le
  walk_at "go"
  rw [e1]
  refine o_addT (small (by simp; omega)) ?_
  walk_at "go"
  rw [e2]
  refine o_addT (small (by simp; omega)) ?_
  walk_at "go"
  refine o_repL rfl (by decide) (by decide) (by simp) ?_
  walk_at "go"
  refine ⟨1, rfl, ?_⟩
  walk_at "go"
  refine ⟨0, rfl, ?_⟩
  walk_at "go"
  refine o_cat rfl rfl (small (by simp [show Int.toNat 4 = 4 from rfl])) ?_
  walk_at "go"
  refine any_ok hp2 (by simp) (by simp [show Int.toNat 4 = 4 from rfl]) fun x S3 mx hp3 k3 => ?_
  refine h x S3 ?_ hp3 ((k1.kg.trans k2.kg).trans k3.kg)
  have gt : GoodR (.tup (s1.map Deed.d ++ [dd] ++ s2.map Deed.d)) := good_tup (by simp; omega) fun d m => by
    rcases List.mem_append.mp m with m | m
    · rcases List.mem_append.mp m with m | m
      · obtain ⟨y, my, rfl⟩ := List.mem_map.mp m
        exact good_deed (hs y (b1.subset my))
      · rw [List.mem_singleton.mp m]; exact gd
    · obtain ⟨y, my, rfl⟩ := List.mem_map.mp m
      exact good_deed (hs y (b2.subset my))
  simp only [show Int.toNat 4 = 4 from rfl, List.replicate, List.flatten_cons, List.flatten_nil, List.append_nil, List.cons_append, List.nil_append, List.mem_cons, List.not_mem_nil, or_false] at mx
  rcases mx with mx | mx | mx | mx | mx | mx | mx | mx | mx | mx | mx
  · rw [mx]; simpa using gt
  · rw [mx]; simpa using gt
  · rw [mx]; simpa using gt
  · rw [mx]; simpa using gt
  · rw [mx]; exact good_no rfl (by intro xs e; cases e)
  · rw [mx]; exact good_no rfl (by intro xs e; cases e)
  · rw [mx]; exact good_no rfl (by intro xs e; cases e)
  · rw [mx]; exact good_no rfl (by intro xs e; cases e)
  · rw [mx]; exact deep_1
  · obtain ⟨y, ey⟩ := deep_0
    rw [mx, ey]
    exact good_no rfl (by intro xs e; cases e)
  · rw [mx]
    exact good_tup (by simp; omega) fun d m => by
      obtain ⟨y, my, rfl⟩ := List.mem_map.mp m
      exact good_deed (hs y my)
end
open PySem PySem.Spec PyProof.Rows L2 Dy

section
variable {cCopyError cNoRun cBadText aL : Addr} {P : Program} {w : World} {K : PySem.W.Frag} {mg : Str → Option Value} {base : Heap} {n : Nat}
theorem okI_run {r : List Deed} (h : r.length ≤ 10000) : okI 2 (runD r) = true := by
  show (decide ((r.map Deed.d).length ≤ 10000) && (r.map Deed.d).all (okI 1)) = true
  rw [Bool.and_eq_true]
  refine ⟨decide_eq_true (by rw [List.length_map]; exact h), List.all_eq_true.mpr fun d m => ?_⟩
  obtain ⟨x, _, rfl⟩ := List.mem_map.mp m
  cases x <;> rfl
theorem readR_len : ∀ {ls : List Str} {i : Nat} {r : List Deed}, readR ls i = .inr r → r.length = ls.length
  | [], i, r, h => by cases h; rfl
  | l :: ls, i, r, h => by
    rw [readR] at h
    split at h
    · rename_i x _
      split at h
      · cases h
      · rename_i s e
        cases h
        simp [readR_len e]
    · cases h
theorem okI_due {d : D} (h : ∀ z, d = .str z → z.length ≤ 5000) : okI 3 (dueT d) = true := by
  cases d with
  | str z =>
    have hz := h z rfl
    show okI 3 (match readS z with | .inl k => D.tup [.str "text", natD (k + 1)] | .inr r => .tup [.str "told", runD r]) = true
    cases e : readS z with
    | inl k => rfl
    | inr r =>
      have hr : r.length ≤ 10000 := by
        unfold readS at e
        split at e
        · cases e; simp
        · rw [readR_len e]
          exact Nat.le_trans (split_many _ _) (by omega)
      show (decide (2 ≤ 10000) && ([D.str "told", runD r]).all (okI 2)) = true
      rw [Bool.and_eq_true]
      exact ⟨rfl, by rw [List.all_cons, List.all_cons, okI_run hr]; rfl⟩
  | _ => rfl
theorem is_ok {d : D} {S : Store} {Q : QD} {E : XQ} (h : okI 3 d = true) (q : Q (.bl true) S) : spIs 4 [d, d] S Q E := ⟨d, rfl, h, q⟩
theorem runOf_sm {r : List Deed} (h : ∀ x ∈ r, deedSm x) : runOf (runD r) = some r := by
  show deedsOf (r.map Deed.d) = some r
  induction r with
  | nil => rfl
  | cons x r ih =>
    rw [List.map_cons, deedsOf, deed_n (h x (by simp)), ih fun y m => h y (List.mem_cons_of_mem _ m)]
theorem right_ok {ρ : Rho} {E : XQ} {T : QD} {S : Store} {d : D} (h8 : ρ[8]? = some (some d)) (h11 : 11 < ρ.length) (gd : GoodR d) (t : T (.bl (runOf d).isSome) S) :
    if isiT "tuple" (tagD d) = true then dCB cAll (dCons (dLc (jSq (dVar 8)) (c1 11) dYes (dCall spIsDeed (dCons (dVar 11) dNil))) dNil) ρ S T E else T (.bl false) S := by
  have pd := gd.1.1
  cases d with
  | tup xs =>
    obtain ⟨hz, hx⟩ := gd.1.2 xs rfl
    refine ifYes rfl ?_
    refine c_cb (c_cons (c_lc (s_sq (c_var h8 ⟨xs, rfl, ?_⟩))))
    refine o_lcM (fun x => .bl (deedOf x).isSome) rfl (small (by omega)) (fun x mx Pz hP => ?_) ?_
    · refine c_call (c_cons (c_var (d := x) (by rw [List.getElem?_set_self h11]) (c_nil ?_)))
      exact ⟨x, rfl, hx x mx, hP⟩
    refine c_nil (o_all (g := fun x => (deedOf x).isSome) ?_)
    rw [← deedsOf_all]
    exact t
  | _ => first | exact t | cases pd
theorem odd_no {r : List Deed} {z : Str} {d : D} (m : d ∈ [D.non, .int 0, .bl true, .lst [.str z], .tup [.str z], .dic [] [], runD r, deepD 0 28, .int (10 ^ (30 : Int).toNat)]) : plainD d = true ∧ ∀ z, d ≠ .str z := by
  obtain ⟨y, ey⟩ := deep_0
  rw [ey] at m
  simp only [List.mem_cons, List.not_mem_nil, or_false] at m
  rcases m with rfl | rfl | rfl | rfl | rfl | rfl | rfl | rfl | rfl <;> exact ⟨rfl, by intro z e; cases e⟩
theorem okF_law (T : Txt K mg cCopyError cNoRun cBadText aL w) (c__law_hand : Cal P w K mg base "_law_hand" 1 ["_law_script"] spHand) (c__law_run_drawn : Cal P w K mg base "_law_run_drawn" 3 ["_law_hand_here", "_law_many"] spDrawn) (c__law_run_text : Cal P w K mg base "_law_run_text" 1 ["_law_run"] spLText) (c__law_is : Cal P w K mg base "_law_is" 5 ["_law_told_here", "_law_due"] (spIs 4)) (c_run_text : Cal P w K mg base "run_text" 5 ["run"] (spRunText cNoRun)) (c_read_run : Cal P w K mg base "read_run" 6 ["text"] (spRead cBadText)) (c__law_draw : Cal P w K mg base "_law_draw" 1 ["_law_hand_here", "_law_many"] spDraw) (c__law_bent : Cal P w K mg base "_law_bent" 3 ["_law_hand_here", "_law_text"] spBent) (c__law_told : Cal P w K mg base "_law_told" 7 ["_law_text"] spTold) (c__law_read_run : Cal P w K mg base "_law_read_run" 4 ["_law_text"] spLRead) (c__law_bent_run : Cal P w K mg base "_law_bent_run" 3 ["_law_hand_here", "_law_run"] spBentRun) (c__law_is_deed : Cal P w K mg base "_law_is_deed" 1 ["_law_thing"] spIsDeed) (c__law_written : Cal P w K mg base "_law_written" 6 ["_law_thing"] spWrit) (c__law_some : Cal P w K mg base "_law_some" 2 ["_law_hand_here", "_law_things"] spAny) (c__law_deep : Cal P w K mg base "_law_deep" 1 ["_law_kind"] spDeep) {f : Addr} {fd : FuncData} (A : Fun K "law" "law" s_law f fd) : FnOk P w K mg base (L2.CX P w) 60 f fd ["_law_script"] (liftSp K spLaw) := by
  refine dfn A sc_law (by intro ds S Q E h; obtain ⟨_, rfl, _⟩ := h; rfl) (fun cdv A outer s H E hr => ⟨_, (ds_cons (ds_set 1 (fun _ => sc_law.nd) (de_callC (fun _ => c__law_hand) (fun _ => hr) (by omega) (fun _ => bodyTk) (da_cons (de_var 0) da_nil)))
    (ds_cons (ds_for (fun _ => bodyHp) (fun _ => rfl) (di_rng1 (by intro _; rfl) (fun _ => T.b_range) (da_cons de_int da_nil)) (dg_name 2 (fun _ => sc_law.nd))
    (ds_cons (ds_set 3 (fun _ => sc_law.nd) (de_callC (fun _ => c__law_run_drawn) (fun _ => hr) (by omega) (fun _ => bodyTk) (da_cons (de_var 1) (da_cons de_int da_nil))))
    (ds_cons (ds_set 4 (fun _ => sc_law.nd) (de_callC (fun _ => c__law_run_text) (fun _ => hr) (by omega) (fun _ => bodyTk) (da_cons (de_var 3) da_nil)))
    (ds_cons (ds_if (DW.dt (dw_or (dt_not (dt_val (de_callC (fun _ => c__law_is) (fun _ => hr) (by omega) (fun _ => bodyTk) (da_cons (de_callC (fun _ => c_run_text) (fun _ => hr) (by omega) (fun _ => bodyTk) (da_cons (de_var 3) da_nil)) (da_cons (de_var 4) da_nil))))) (dw_or1 (dt_not (dt_val (de_callC (fun _ => c__law_is) (fun _ => hr) (by omega) (fun _ => bodyTk) (da_cons (de_callC (fun _ => c_read_run) (fun _ => hr) (by omega) (fun _ => bodyTk) (da_cons (de_var 4) da_nil)) (da_cons (de_var 3) da_nil))))))))
    (ds_one (ds_ret de_bl))
    ds_nil)
    (ds_cons (ds_for (fun _ => bodyHp) (fun _ => rfl) (di_rng1 (by intro _; rfl) (fun _ => T.b_range) (da_cons de_int da_nil)) (dg_name 5 (fun _ => sc_law.nd))
    (ds_cons (ds_set 6 (fun _ => sc_law.nd) (de_var 4))
    (ds_cons (ds_for (fun _ => bodyHp) (fun _ => rfl) (di_rng1 (by intro _; rfl) (fun _ => T.b_range) (da_cons (de_add de_int (de_callC (fun _ => c__law_draw) (fun _ => hr) (by omega) (fun _ => bodyTk) (da_cons (de_var 1) (da_cons de_int da_nil)))) da_nil)) (dg_name 7 (fun _ => sc_law.nd))
    (ds_one (ds_set 6 (fun _ => sc_law.nd) (de_callC (fun _ => c__law_bent) (fun _ => hr) (by omega) (fun _ => bodyTk) (da_cons (de_var 1) (da_cons (de_var 6) da_nil))))))
    (ds_one (ds_if (dt_not (dt_val (de_callC (fun _ => c__law_is) (fun _ => hr) (by omega) (fun _ => bodyTk) (da_cons (de_callC (fun _ => c__law_told) (fun _ => hr) (by omega) (fun _ => bodyTk) (da_cons (de_var 6) da_nil)) (da_cons (de_callC (fun _ => c__law_read_run) (fun _ => hr) (by omega) (fun _ => bodyTk) (da_cons (de_var 6) da_nil)) da_nil)))))
    (ds_one (ds_ret de_bl))
    ds_nil)))))
    (ds_cons (ds_set 8 (fun _ => sc_law.nd) (de_callC (fun _ => c__law_bent_run) (fun _ => hr) (by omega) (fun _ => bodyTk) (da_cons (de_var 1) (da_cons (de_var 3) da_nil))))
    (ds_cons (ds_set 9 (fun _ => sc_law.nd) (de_and (dc_isi (T := "tuple") (by decide) (by decide) (fun _ => T.b_isinstance) (da_cons (de_var 8) (da_cons (de_bltn (by intro _; rfl) (fun _ => T.b_tuple) bt_tuple (d := .ty "tuple") (v := .ty "tuple") rfl rfl) da_nil))) (de_one (dc_all (fun _ => rfl) (fun _ => T.b_all) (da_cons (de_lc 11 (fun _ => rfl) (fun _ => sc_law.nd) (di_sq (de_var 8)) (fun _ => blkOk_by (N := N_law) (sc := defScope s_law) (by decide +kernel)) dts_nil (de_callC (fun _ => c__law_is_deed) (fun _ => hr) (by omega) (fun _ => takes0) (da_cons (de_var 11) da_nil)) (fun _ => pg_name (i := 11) sc_law.nd rfl (Or.inl rfl))) da_nil)))))
    (ds_cons (ds_if (dt_not (dt_val (de_callC (fun _ => c__law_is) (fun _ => hr) (by omega) (fun _ => bodyTk) (da_cons (de_callC (fun _ => c__law_written) (fun _ => hr) (by omega) (fun _ => bodyTk) (da_cons (de_var 8) da_nil)) (da_cons (de_ifExp (dt_val (de_var 9)) (de_callC (fun _ => c__law_run_text) (fun _ => hr) (by omega) (fun _ => bodyTk) (da_cons (de_var 8) da_nil)) de_int) da_nil)))))
    (ds_one (ds_ret de_bl))
    ds_nil)
    (ds_cons (ds_set 10 (fun _ => sc_law.nd) (de_callC (fun _ => c__law_some) (fun _ => hr) (by omega) (fun _ => bodyTk) (da_cons (de_var 1) (da_cons (de_lst (da_cons de_non (da_cons de_int (da_cons de_bl (da_cons (de_lst (da_cons (de_var 4) da_nil)) (da_cons (de_tup (da_cons (de_var 4) da_nil)) (da_cons de_dnil (da_cons (de_var 3) (da_cons (de_callC (fun _ => c__law_deep) (fun _ => hr) (by omega) (fun _ => bodyTk) (da_cons de_int da_nil)) (da_cons (de_pow de_int de_int) da_nil)))))))))) da_nil))))
    (ds_one (ds_if (dt_not (dt_val (de_callC (fun _ => c__law_is) (fun _ => hr) (by omega) (fun _ => bodyTk) (da_cons (de_callC (fun _ => c__law_told) (fun _ => hr) (by omega) (fun _ => bodyTk) (da_cons (de_var 10) da_nil)) (da_cons (de_tup (da_cons de_str (da_cons de_int da_nil))) da_nil)))))
    (ds_one (ds_ret de_bl))
    ds_nil)))))))))))
    (ds_one (ds_ret de_bl)))), fun ds S Q E h => ?_⟩)
  obtain ⟨ns, rfl, rfl, h⟩ := h
  walk_at "go"
  refine ⟨ns, rfl, fun S0 n hp0 _ _ _ => ?_⟩
  walk_at "go"
  refine ⟨3, rfl, by decide, by decide, ?_⟩
  refine ⟨fun i ρ S' => HandAt S' n ∧ ∃ (o2 o3 o4 o5 o6 o7 o8 o9 o10 o11 : Option D), ρ = [some (.frz (ns.map .int)), some (.ref n), o2, o3, o4, o5, o6, o7, o8, o9, o10, o11], ⟨hp0, none, none, none, none, none, none, none, none, none, none, rfl⟩, fun _ _ _ _ _ => trivial, ?_, ?_⟩
  · rintro i x ρ S1 hx ⟨hp1, o2, o3, o4, o5, o6, o7, o8, o9, o10, o11, rfl⟩
    walk_at "go"
    refine ⟨n, rfl, hp1, fun r S2 hl hs hp2 kg2 => ?_⟩
    have er := runOf_sm hs
    have htl := text_le hs
    walk_at "go"
    refine ⟨r, rfl, by omega, hs, ?_⟩
    walk_at "go"
    refine ⟨_, rfl, ⟨rfl, fun xs e => by cases e; exact ⟨by simp; omega, fun d m => by obtain ⟨y, _, rfl⟩ := List.mem_map.mp m; exact plain_d⟩⟩, fun z => (by rw [er] at z; cases z), fun r' er' => ?_⟩
    rw [er] at er'
    cases er'
    refine ⟨by omega, hs, ?_⟩
    walk_at "go"
    refine is_ok rfl ?_
    walk_at "go"
    refine ⟨_, rfl, rfl, fun z => absurd rfl (z _), fun z ez => ?_⟩
    cases ez
    refine ⟨by omega, fun k S3 e => (by rw [read_back hs] at e; cases e), fun r' S3 e g3 => ?_⟩
    rw [read_back hs] at e
    cases e
    have hp3 := hp2.grown g3
    walk_at "go"
    refine is_ok (okI_mono _ _ (okI_run (by omega))) ?_
    walk_at "go"
    refine ⟨3, rfl, by decide, by decide, ?_⟩
    refine ⟨fun i ρ S' => HandAt S' n ∧ ∃ (o5 o6 o7 : Option D), ρ = [some (.frz (ns.map .int)), some (.ref n), some x, some (runD r), some (.str (textS r)), o5, o6, o7, o8, o9, o10, o11], ⟨hp3, _, _, _, rfl⟩, fun _ _ _ _ _ => trivial, ?_, ?_⟩
    · rintro i2 x2 ρ S4 hx2 ⟨hp4, o5, o6, o7, rfl⟩
      walk_at "go"
      refine draw_ok hp4 (by decide) (by decide) fun q S5 q0 q1 hp5 k5 => ?_
      walk_at "go"
      refine ⟨_, rfl, by omega, by omega, ?_⟩
      refine ⟨fun i ρ S' => HandAt S' n ∧ ∃ (z : Str) (o7 : Option D), z.length ≤ (if i = 0 then 336 else if i = 1 then 1028 else 3104) ∧ ρ = [some (.frz (ns.map .int)), some (.ref n), some x, some (runD r), some (.str (textS r)), some x2, some (.str z), o7, o8, o9, o10, o11], ⟨hp5, textS r, o7, by rw [if_pos rfl]; omega, rfl⟩, fun _ _ _ _ _ => trivial, ?_, ?_⟩
      · rintro i3 x3 ρ S6 hx3 ⟨hp6, z, o7, hz, rfl⟩
        have hi3 : i3 < 2 := by
          have := (List.getElem?_eq_some_iff.mp hx3).1
          rw [rng_len] at this
          omega
        walk_at "go"
        refine ⟨n, z, rfl, hp6, by split at hz <;> (try split at hz) <;> omega, fun z' S7 hz' hp7 kg7 => ?_⟩
        walk_at "go"
        refine ⟨hp7, z', _, ?_, rfl⟩
        obtain rfl | rfl : i3 = 0 ∨ i3 = 1 := by omega
        · rw [if_pos rfl] at hz
          show z'.length ≤ 1028
          omega
        · have hz : z.length ≤ 1028 := hz
          show z'.length ≤ 3104
          omega
      · rintro ρ S6 ⟨hp6, z, o7, hz, rfl⟩
        have hz5 : z.length ≤ 5000 := by split at hz <;> (try split at hz) <;> omega
        walk_at "go"
        refine ⟨_, rfl, rfl, fun z2 e => by cases e; exact hz5, fun S7 g7 => ?_⟩
        walk_at "go"
        refine ⟨_, rfl, rfl, fun z2 e => by cases e; exact hz5, fun S8 g8 => ?_⟩
        walk_at "go"
        refine is_ok (okI_due fun z2 e => by cases e; exact hz5) ?_
        walk_at "go"
        exact ⟨(hp6.grown g7).grown g8, _, _, _, rfl⟩
    · rintro ρ S4 ⟨hp4, o5, o6, o7, rfl⟩
      walk_at "go"
      refine ⟨n, r, rfl, hp4, hl, hs, fun d S5 gd hp5 kg5 => ?_⟩
      have pd := gd.1.1
      walk_at "go"
      refine right_ok rfl (by simp) gd ?_
      walk_at "go"
      refine ⟨d, rfl, gd, ?_⟩
      cases er2 : runOf d with
      | none =>
        have ew : writD d = .int 0 := by unfold writD; rw [er2]
        rw [ew]
        walk_at "go"
        refine is_ok rfl ?_
        walk_at "go"
        refine ⟨0, rfl, ?_⟩
        walk_at "go"
        refine any_ok hp5 (by simp) (by simp) fun dd S6 md hp6 k6 => ?_
        walk_at "go"
        have ⟨pdd, ndd⟩ := odd_no (r := r) (z := textS r) md
        have edd : dueT dd = .tup [.str "text", .int 0] := by
          cases dd <;> first | rfl | exact absurd rfl (ndd _)
        refine ⟨dd, rfl, pdd, fun z e => absurd e (ndd z), fun S7 g7 => ?_⟩
        rw [edd]
        walk_at "go"
        refine is_ok rfl ?_
        walk_at "go"
        exact ⟨hp6.grown g7, _, _, _, _, _, _, _, _, _, _, rfl⟩
      | some r2 =>
        obtain ⟨l2, s2⟩ := gd.2 r2 er2
        have ew : writD d = .str (textS r2) := by unfold writD; rw [er2]
        have ed := runOf_d er2
        rw [ew]
        walk_at "go"
        refine ⟨r2, by rw [ed], l2, s2, ?_⟩
        walk_at "go"
        refine is_ok rfl ?_
        walk_at "go"
        refine ⟨0, rfl, ?_⟩
        walk_at "go"
        refine any_ok hp5 (by simp) (by simp) fun dd S6 md hp6 k6 => ?_
        walk_at "go"
        have ⟨pdd, ndd⟩ := odd_no (r := r) (z := textS r) md
        have edd : dueT dd = .tup [.str "text", .int 0] := by
          cases dd <;> first | rfl | exact absurd rfl (ndd _)
        refine ⟨dd, rfl, pdd, fun z e => absurd e (ndd z), fun S7 g7 => ?_⟩
        rw [edd]
        walk_at "go"
        refine is_ok rfl ?_
        walk_at "go"
        exact ⟨hp6.grown g7, _, _, _, _, _, _, _, _, _, _, rfl⟩
  · rintro ρ S1 ⟨hp1, o2, o3, o4, o5, o6, o7, o8, o9, o10, o11, rfl⟩
    walk_at "go"
    exact h S1
end
open PySem PySem.Spec PyProof.Rows L2 Dy
theorem ktab_len {K : PySem.W.Frag} {w : World} {aL : Addr} {h1 h2 h3 h4 : Int} {t1 t2 t3 t4 u1 u2 u3 u4 : Tok} {nL : Nat} (x : K.lookup aL = some ⟨.type "dict", none, .dict #[⟨h1, .str "change" t1, .int 2 u1⟩, ⟨h2, .str "fork" t2, .int 2 u2⟩, ⟨h3, .str "join" t3, .int 3 u3⟩, ⟨h4, .str "lose" t4, .int 2 u4⟩] nL, #[]⟩)
    (y : PySem.W.KeysLit w.params [⟨h1, .str "change" t1, .int 2 u1⟩, ⟨h2, .str "fork" t2, .int 2 u2⟩, ⟨h3, .str "join" t3, .int 3 u3⟩, ⟨h4, .str "lose" t4, .int 2 u4⟩]) (v : (aL == sysModules) = false) : KTab K w aL tabL := by
  refine ⟨⟨_, _, x, y, v⟩, fun s => ?_⟩
  unfold PySem.W.nsIn
  rw [x]
  by_cases e1 : s = "change"
  · subst e1; exact .inl ⟨.int 2, _, .int 2, rfl, rfl, ⟨_, rfl⟩, rfl⟩
  · by_cases e2 : s = "fork"
    · subst e2; exact .inl ⟨.int 2, _, .int 2, rfl, rfl, ⟨_, rfl⟩, rfl⟩
    · by_cases e3 : s = "join"
      · subst e3; exact .inl ⟨.int 3, _, .int 3, rfl, rfl, ⟨_, rfl⟩, rfl⟩
      · by_cases e4 : s = "lose"
        · subst e4; exact .inl ⟨.int 2, _, .int 2, rfl, rfl, ⟨_, rfl⟩, rfl⟩
        · right
          refine ⟨tab_no (by simp only [dwords, List.mem_cons, List.not_mem_nil, or_false, not_or]; exact ⟨e1, e2, e4⟩) e3, ?_⟩
          have q1 : (("change" : Str) == s) = false := by simpa using fun z : "change" = s => e1 z.symm
          have q2 : (("fork" : Str) == s) = false := by simpa using fun z : "fork" = s => e2 z.symm
          have q3 : (("join" : Str) == s) = false := by simpa using fun z : "join" = s => e3 z.symm
          have q4 : (("lose" : Str) == s) = false := by simpa using fun z : "lose" = s => e4 z.symm
          simp only [List.find?_cons, Value.isStr, q1, q2, q3, q4, List.find?_nil, List.any_cons, List.any_nil]
          rfl
theorem kit_self {K : PySem.W.Frag} {C : Addr} : PySem.W.kitOne K (.ref C) (.ref C) = some true := by
  unfold PySem.W.kitOne
  rw [if_pos (by simp)]
theorem kit_no {K : PySem.W.Frag} {C D : Addr} (hne : ¬ C = D) (h2 : PySem.W.isClsIn K D = true) (h3 : PySem.W.typeIn K (.ref D) = some (.type "type")) (h : PySem.W.subIn K (.ref C) (.ref D) = some false) : PySem.W.kitOne K (.ref C) (.ref D) = some false := by
  unfold PySem.W.kitOne
  have q : ¬ ((Value.ref C == Value.ref D) = true) := by
    intro z
    first
      | exact hne (Value.ref.inj (eq_of_beq z))
      | (simp at z; exact hne z)
      | exact hne (by simpa using z)
  rw [if_neg q]
  unfold PySem.W.kitCls
  have e2 : ((PySem.W.clsIn K D).isSome && PySem.W.typeIn K (.ref D) == some (.type "type")) = true := by
    have h2' : (PySem.W.clsIn K D).isSome = true := h2
    rw [h2', h3]; rfl
  exact (if_pos e2).trans h
theorem all_mk {l : PySem.W.OpenLaw} {w : World} {K : PySem.W.Frag} {h : Heap} {mg : Str → Option Value} {fa : Addr} (X : K.In h) (G : h.Ns mainGlobals mg) (hfa : mg "law" = some (.ref fa))
    {od_is_integer an_is_integer : Option Addr} {sl_is_integer : Array (Option Value)} {oc_is_integer kV_is_integer dc_is_integer pm_is_integer cd_is_integer ct_is_integer : Value} {f_is_integer : Addr}
    {od_is_deed an_is_deed : Option Addr} {sl_is_deed : Array (Option Value)} {oc_is_deed kV_is_deed dc_is_deed pm_is_deed cd_is_deed ct_is_deed : Value} {f_is_deed : Addr}
    {od_is_run an_is_run : Option Addr} {sl_is_run : Array (Option Value)} {oc_is_run kV_is_run dc_is_run pm_is_run cd_is_run ct_is_run : Value} {f_is_run : Addr}
    {od_line_of an_line_of : Option Addr} {sl_line_of : Array (Option Value)} {oc_line_of kV_line_of dc_line_of pm_line_of cd_line_of ct_line_of : Value} {f_line_of : Addr}
    {od_run_text an_run_text : Option Addr} {sl_run_text : Array (Option Value)} {oc_run_text kV_run_text dc_run_text pm_run_text cd_run_text ct_run_text : Value} {f_run_text : Addr}
    {od_check_text an_check_text : Option Addr} {sl_check_text : Array (Option Value)} {oc_check_text kV_check_text dc_check_text pm_check_text cd_check_text ct_check_text : Value} {f_check_text : Addr}
    {od_number_in an_number_in : Option Addr} {sl_number_in : Array (Option Value)} {oc_number_in kV_number_in dc_number_in pm_number_in cd_number_in ct_number_in : Value} {f_number_in : Addr}
    {od_read_run an_read_run : Option Addr} {sl_read_run : Array (Option Value)} {oc_read_run kV_read_run dc_read_run pm_read_run cd_read_run ct_read_run : Value} {f_read_run : Addr}
    {od__law_hand an__law_hand : Option Addr} {sl__law_hand : Array (Option Value)} {oc__law_hand kV__law_hand dc__law_hand pm__law_hand cd__law_hand ct__law_hand : Value} {f__law_hand : Addr}
    {od__law_draw an__law_draw : Option Addr} {sl__law_draw : Array (Option Value)} {oc__law_draw kV__law_draw dc__law_draw pm__law_draw cd__law_draw ct__law_draw : Value} {f__law_draw : Addr}
    {od__law_some an__law_some : Option Addr} {sl__law_some : Array (Option Value)} {oc__law_some kV__law_some dc__law_some pm__law_some cd__law_some ct__law_some : Value} {f__law_some : Addr}
    {od__law_is an__law_is : Option Addr} {sl__law_is : Array (Option Value)} {oc__law_is kV__law_is dc__law_is pm__law_is cd__law_is ct__law_is : Value} {f__law_is : Addr}
    {od__law_deep an__law_deep : Option Addr} {sl__law_deep : Array (Option Value)} {oc__law_deep kV__law_deep dc__law_deep pm__law_deep cd__law_deep ct__law_deep : Value} {f__law_deep : Addr}
    {od__law_is_deed an__law_is_deed : Option Addr} {sl__law_is_deed : Array (Option Value)} {oc__law_is_deed kV__law_is_deed dc__law_is_deed pm__law_is_deed cd__law_is_deed ct__law_is_deed : Value} {f__law_is_deed : Addr}
    {od__law_run_drawn an__law_run_drawn : Option Addr} {sl__law_run_drawn : Array (Option Value)} {oc__law_run_drawn kV__law_run_drawn dc__law_run_drawn pm__law_run_drawn cd__law_run_drawn ct__law_run_drawn : Value} {f__law_run_drawn : Addr}
    {od__law_run_text an__law_run_text : Option Addr} {sl__law_run_text : Array (Option Value)} {oc__law_run_text kV__law_run_text dc__law_run_text pm__law_run_text cd__law_run_text ct__law_run_text : Value} {f__law_run_text : Addr}
    {od__law_number an__law_number : Option Addr} {sl__law_number : Array (Option Value)} {oc__law_number kV__law_number dc__law_number pm__law_number cd__law_number ct__law_number : Value} {f__law_number : Addr}
    {od__law_numbers an__law_numbers : Option Addr} {sl__law_numbers : Array (Option Value)} {oc__law_numbers kV__law_numbers dc__law_numbers pm__law_numbers cd__law_numbers ct__law_numbers : Value} {f__law_numbers : Addr}
    {od__law_read_run an__law_read_run : Option Addr} {sl__law_read_run : Array (Option Value)} {oc__law_read_run kV__law_read_run dc__law_read_run pm__law_read_run cd__law_read_run ct__law_read_run : Value} {f__law_read_run : Addr}
    {od__law_told an__law_told : Option Addr} {sl__law_told : Array (Option Value)} {oc__law_told kV__law_told dc__law_told pm__law_told cd__law_told ct__law_told : Value} {f__law_told : Addr}
    {od__law_written an__law_written : Option Addr} {sl__law_written : Array (Option Value)} {oc__law_written kV__law_written dc__law_written pm__law_written cd__law_written ct__law_written : Value} {f__law_written : Addr}
    {od__law_bent an__law_bent : Option Addr} {sl__law_bent : Array (Option Value)} {oc__law_bent kV__law_bent dc__law_bent pm__law_bent cd__law_bent ct__law_bent : Value} {f__law_bent : Addr}
    {od__law_bent_run an__law_bent_run : Option Addr} {sl__law_bent_run : Array (Option Value)} {oc__law_bent_run kV__law_bent_run dc__law_bent_run pm__law_bent_run cd__law_bent_run ct__law_bent_run : Value} {f__law_bent_run : Addr}
    {od_law an_law : Option Addr} {sl_law : Array (Option Value)} {oc_law kV_law dc_law pm_law cd_law ct_law : Value} {f_law : Addr}
    {cCopyError : Addr}
    {cNoRun : Addr}
    {cBadText : Addr}
    {nm_BadText q_BadText : Str} {N_BadText : Addr} {bs_BadText sub_BadText : List Value} {sn_BadText : List Str} {ab_BadText : Bool} {col_BadText : Option Bool} {dd_BadText : Option Addr} {m0_BadText m1_BadText m2_BadText m3_BadText m5_BadText : Option Value} {bm_BadText : List Value}
    {od_BadText___init__ an_BadText___init__ : Option Addr} {sl_BadText___init__ : Array (Option Value)} {oc_BadText___init__ kV_BadText___init__ dc_BadText___init__ pm_BadText___init__ cd_BadText___init__ ct_BadText___init__ : Value} {f_BadText___init__ : Addr}
    {tDI tMF : Tok} {aL : Addr} {h1 h2 h3 h4 : Int} {t1 t2 t3 t4 u1 u2 u3 u4 : Tok} {nL : Nat}
    (z_ValueError : PySem.W.nsIn K mainGlobals "ValueError" = some none)
    (z_abs : PySem.W.nsIn K mainGlobals "abs" = some none)
    (z_all : PySem.W.nsIn K mainGlobals "all" = some none)
    (z_any : PySem.W.nsIn K mainGlobals "any" = some none)
    (z_bool : PySem.W.nsIn K mainGlobals "bool" = some none)
    (z_dict : PySem.W.nsIn K mainGlobals "dict" = some none)
    (z_enumerate : PySem.W.nsIn K mainGlobals "enumerate" = some none)
    (z_int : PySem.W.nsIn K mainGlobals "int" = some none)
    (z_isinstance : PySem.W.nsIn K mainGlobals "isinstance" = some none)
    (z_len : PySem.W.nsIn K mainGlobals "len" = some none)
    (z_list : PySem.W.nsIn K mainGlobals "list" = some none)
    (z_max : PySem.W.nsIn K mainGlobals "max" = some none)
    (z_min : PySem.W.nsIn K mainGlobals "min" = some none)
    (z_range : PySem.W.nsIn K mainGlobals "range" = some none)
    (z_set : PySem.W.nsIn K mainGlobals "set" = some none)
    (z_sorted : PySem.W.nsIn K mainGlobals "sorted" = some none)
    (z_str : PySem.W.nsIn K mainGlobals "str" = some none)
    (z_sum : PySem.W.nsIn K mainGlobals "sum" = some none)
    (z_tuple : PySem.W.nsIn K mainGlobals "tuple" = some none)
    (z_type : PySem.W.nsIn K mainGlobals "type" = some none)
    (a_is_integer : PySem.W.nsIn K mainGlobals "is_integer" = some (some (.ref f_is_integer)))
    (l_is_integer : K.lookup f_is_integer = some ⟨oc_is_integer, od_is_integer, .func (PySem.W.fnOf "is_integer" "is_integer" (defArgs s_is_integer) (defBody s_is_integer) (defScope s_is_integer) .none kV_is_integer dc_is_integer pm_is_integer an_is_integer cd_is_integer ct_is_integer), sl_is_integer⟩)
    (c_is_integer : PySem.W.codeIn K cd_is_integer "is_integer" = true)
    (k_is_integer : PySem.W.keepIn K (.ref f_is_integer) = true)
    (a_is_deed : PySem.W.nsIn K mainGlobals "is_deed" = some (some (.ref f_is_deed)))
    (l_is_deed : K.lookup f_is_deed = some ⟨oc_is_deed, od_is_deed, .func (PySem.W.fnOf "is_deed" "is_deed" (defArgs s_is_deed) (defBody s_is_deed) (defScope s_is_deed) .none kV_is_deed dc_is_deed pm_is_deed an_is_deed cd_is_deed ct_is_deed), sl_is_deed⟩)
    (c_is_deed : PySem.W.codeIn K cd_is_deed "is_deed" = true)
    (k_is_deed : PySem.W.keepIn K (.ref f_is_deed) = true)
    (a_is_run : PySem.W.nsIn K mainGlobals "is_run" = some (some (.ref f_is_run)))
    (l_is_run : K.lookup f_is_run = some ⟨oc_is_run, od_is_run, .func (PySem.W.fnOf "is_run" "is_run" (defArgs s_is_run) (defBody s_is_run) (defScope s_is_run) .none kV_is_run dc_is_run pm_is_run an_is_run cd_is_run ct_is_run), sl_is_run⟩)
    (c_is_run : PySem.W.codeIn K cd_is_run "is_run" = true)
    (k_is_run : PySem.W.keepIn K (.ref f_is_run) = true)
    (a_line_of : PySem.W.nsIn K mainGlobals "line_of" = some (some (.ref f_line_of)))
    (l_line_of : K.lookup f_line_of = some ⟨oc_line_of, od_line_of, .func (PySem.W.fnOf "line_of" "line_of" (defArgs s_line_of) (defBody s_line_of) (defScope s_line_of) .none kV_line_of dc_line_of pm_line_of an_line_of cd_line_of ct_line_of), sl_line_of⟩)
    (c_line_of : PySem.W.codeIn K cd_line_of "line_of" = true)
    (k_line_of : PySem.W.keepIn K (.ref f_line_of) = true)
    (a_run_text : PySem.W.nsIn K mainGlobals "run_text" = some (some (.ref f_run_text)))
    (l_run_text : K.lookup f_run_text = some ⟨oc_run_text, od_run_text, .func (PySem.W.fnOf "run_text" "run_text" (defArgs s_run_text) (defBody s_run_text) (defScope s_run_text) .none kV_run_text dc_run_text pm_run_text an_run_text cd_run_text ct_run_text), sl_run_text⟩)
    (c_run_text : PySem.W.codeIn K cd_run_text "run_text" = true)
    (k_run_text : PySem.W.keepIn K (.ref f_run_text) = true)
    (a_check_text : PySem.W.nsIn K mainGlobals "check_text" = some (some (.ref f_check_text)))
    (l_check_text : K.lookup f_check_text = some ⟨oc_check_text, od_check_text, .func (PySem.W.fnOf "check_text" "check_text" (defArgs s_check_text) (defBody s_check_text) (defScope s_check_text) .none kV_check_text dc_check_text pm_check_text an_check_text cd_check_text ct_check_text), sl_check_text⟩)
    (c_check_text : PySem.W.codeIn K cd_check_text "check_text" = true)
    (k_check_text : PySem.W.keepIn K (.ref f_check_text) = true)
    (a_number_in : PySem.W.nsIn K mainGlobals "number_in" = some (some (.ref f_number_in)))
    (l_number_in : K.lookup f_number_in = some ⟨oc_number_in, od_number_in, .func (PySem.W.fnOf "number_in" "number_in" (defArgs s_number_in) (defBody s_number_in) (defScope s_number_in) .none kV_number_in dc_number_in pm_number_in an_number_in cd_number_in ct_number_in), sl_number_in⟩)
    (c_number_in : PySem.W.codeIn K cd_number_in "number_in" = true)
    (k_number_in : PySem.W.keepIn K (.ref f_number_in) = true)
    (a_read_run : PySem.W.nsIn K mainGlobals "read_run" = some (some (.ref f_read_run)))
    (l_read_run : K.lookup f_read_run = some ⟨oc_read_run, od_read_run, .func (PySem.W.fnOf "read_run" "read_run" (defArgs s_read_run) (defBody s_read_run) (defScope s_read_run) .none kV_read_run dc_read_run pm_read_run an_read_run cd_read_run ct_read_run), sl_read_run⟩)
    (c_read_run : PySem.W.codeIn K cd_read_run "read_run" = true)
    (k_read_run : PySem.W.keepIn K (.ref f_read_run) = true)
    (a__law_hand : PySem.W.nsIn K mainGlobals "_law_hand" = some (some (.ref f__law_hand)))
    (l__law_hand : K.lookup f__law_hand = some ⟨oc__law_hand, od__law_hand, .func (PySem.W.fnOf "_law_hand" "_law_hand" (defArgs s__law_hand) (defBody s__law_hand) (defScope s__law_hand) .none kV__law_hand dc__law_hand pm__law_hand an__law_hand cd__law_hand ct__law_hand), sl__law_hand⟩)
    (c__law_hand : PySem.W.codeIn K cd__law_hand "_law_hand" = true)
    (k__law_hand : PySem.W.keepIn K (.ref f__law_hand) = true)
    (a__law_draw : PySem.W.nsIn K mainGlobals "_law_draw" = some (some (.ref f__law_draw)))
    (l__law_draw : K.lookup f__law_draw = some ⟨oc__law_draw, od__law_draw, .func (PySem.W.fnOf "_law_draw" "_law_draw" (defArgs s__law_draw) (defBody s__law_draw) (defScope s__law_draw) .none kV__law_draw dc__law_draw pm__law_draw an__law_draw cd__law_draw ct__law_draw), sl__law_draw⟩)
    (c__law_draw : PySem.W.codeIn K cd__law_draw "_law_draw" = true)
    (k__law_draw : PySem.W.keepIn K (.ref f__law_draw) = true)
    (a__law_some : PySem.W.nsIn K mainGlobals "_law_some" = some (some (.ref f__law_some)))
    (l__law_some : K.lookup f__law_some = some ⟨oc__law_some, od__law_some, .func (PySem.W.fnOf "_law_some" "_law_some" (defArgs s__law_some) (defBody s__law_some) (defScope s__law_some) .none kV__law_some dc__law_some pm__law_some an__law_some cd__law_some ct__law_some), sl__law_some⟩)
    (c__law_some : PySem.W.codeIn K cd__law_some "_law_some" = true)
    (k__law_some : PySem.W.keepIn K (.ref f__law_some) = true)
    (a__law_is : PySem.W.nsIn K mainGlobals "_law_is" = some (some (.ref f__law_is)))
    (l__law_is : K.lookup f__law_is = some ⟨oc__law_is, od__law_is, .func (PySem.W.fnOf "_law_is" "_law_is" (defArgs s__law_is) (defBody s__law_is) (defScope s__law_is) .none kV__law_is dc__law_is pm__law_is an__law_is cd__law_is ct__law_is), sl__law_is⟩)
    (c__law_is : PySem.W.codeIn K cd__law_is "_law_is" = true)
    (k__law_is : PySem.W.keepIn K (.ref f__law_is) = true)
    (a__law_deep : PySem.W.nsIn K mainGlobals "_law_deep" = some (some (.ref f__law_deep)))
    (l__law_deep : K.lookup f__law_deep = some ⟨oc__law_deep, od__law_deep, .func (PySem.W.fnOf "_law_deep" "_law_deep" (defArgs s__law_deep) (defBody s__law_deep) (defScope s__law_deep) .none kV__law_deep dc__law_deep pm__law_deep an__law_deep cd__law_deep ct__law_deep), sl__law_deep⟩)
    (c__law_deep : PySem.W.codeIn K cd__law_deep "_law_deep" = true)
    (k__law_deep : PySem.W.keepIn K (.ref f__law_deep) = true)
    (a__law_is_deed : PySem.W.nsIn K mainGlobals "_law_is_deed" = some (some (.ref f__law_is_deed)))
    (l__law_is_deed : K.lookup f__law_is_deed = some ⟨oc__law_is_deed, od__law_is_deed, .func (PySem.W.fnOf "_law_is_deed" "_law_is_deed" (defArgs s__law_is_deed) (defBody s__law_is_deed) (defScope s__law_is_deed) .none kV__law_is_deed dc__law_is_deed pm__law_is_deed an__law_is_deed cd__law_is_deed ct__law_is_deed), sl__law_is_deed⟩)
    (c__law_is_deed : PySem.W.codeIn K cd__law_is_deed "_law_is_deed" = true)
    (k__law_is_deed : PySem.W.keepIn K (.ref f__law_is_deed) = true)
    (a__law_run_drawn : PySem.W.nsIn K mainGlobals "_law_run_drawn" = some (some (.ref f__law_run_drawn)))
    (l__law_run_drawn : K.lookup f__law_run_drawn = some ⟨oc__law_run_drawn, od__law_run_drawn, .func (PySem.W.fnOf "_law_run_drawn" "_law_run_drawn" (defArgs s__law_run_drawn) (defBody s__law_run_drawn) (defScope s__law_run_drawn) .none kV__law_run_drawn dc__law_run_drawn pm__law_run_drawn an__law_run_drawn cd__law_run_drawn ct__law_run_drawn), sl__law_run_drawn⟩)
    (c__law_run_drawn : PySem.W.codeIn K cd__law_run_drawn "_law_run_drawn" = true)
    (k__law_run_drawn : PySem.W.keepIn K (.ref f__law_run_drawn) = true)
    (a__law_run_text : PySem.W.nsIn K mainGlobals "_law_run_text" = some (some (.ref f__law_run_text)))
    (l__law_run_text : K.lookup f__law_run_text = some ⟨oc__law_run_text, od__law_run_text, .func (PySem.W.fnOf "_law_run_text" "_law_run_text" (defArgs s__law_run_text) (defBody s__law_run_text) (defScope s__law_run_text) .none kV__law_run_text dc__law_run_text pm__law_run_text an__law_run_text cd__law_run_text ct__law_run_text), sl__law_run_text⟩)
    (c__law_run_text : PySem.W.codeIn K cd__law_run_text "_law_run_text" = true)
    (k__law_run_text : PySem.W.keepIn K (.ref f__law_run_text) = true)
    (a__law_number : PySem.W.nsIn K mainGlobals "_law_number" = some (some (.ref f__law_number)))
    (l__law_number : K.lookup f__law_number = some ⟨oc__law_number, od__law_number, .func (PySem.W.fnOf "_law_number" "_law_number" (defArgs s__law_number) (defBody s__law_number) (defScope s__law_number) .none kV__law_number dc__law_number pm__law_number an__law_number cd__law_number ct__law_number), sl__law_number⟩)
    (c__law_number : PySem.W.codeIn K cd__law_number "_law_number" = true)
    (k__law_number : PySem.W.keepIn K (.ref f__law_number) = true)
    (a__law_numbers : PySem.W.nsIn K mainGlobals "_law_numbers" = some (some (.ref f__law_numbers)))
    (l__law_numbers : K.lookup f__law_numbers = some ⟨oc__law_numbers, od__law_numbers, .func (PySem.W.fnOf "_law_numbers" "_law_numbers" (defArgs s__law_numbers) (defBody s__law_numbers) (defScope s__law_numbers) .none kV__law_numbers dc__law_numbers pm__law_numbers an__law_numbers cd__law_numbers ct__law_numbers), sl__law_numbers⟩)
    (c__law_numbers : PySem.W.codeIn K cd__law_numbers "_law_numbers" = true)
    (k__law_numbers : PySem.W.keepIn K (.ref f__law_numbers) = true)
    (a__law_read_run : PySem.W.nsIn K mainGlobals "_law_read_run" = some (some (.ref f__law_read_run)))
    (l__law_read_run : K.lookup f__law_read_run = some ⟨oc__law_read_run, od__law_read_run, .func (PySem.W.fnOf "_law_read_run" "_law_read_run" (defArgs s__law_read_run) (defBody s__law_read_run) (defScope s__law_read_run) .none kV__law_read_run dc__law_read_run pm__law_read_run an__law_read_run cd__law_read_run ct__law_read_run), sl__law_read_run⟩)
    (c__law_read_run : PySem.W.codeIn K cd__law_read_run "_law_read_run" = true)
    (k__law_read_run : PySem.W.keepIn K (.ref f__law_read_run) = true)
    (a__law_told : PySem.W.nsIn K mainGlobals "_law_told" = some (some (.ref f__law_told)))
    (l__law_told : K.lookup f__law_told = some ⟨oc__law_told, od__law_told, .func (PySem.W.fnOf "_law_told" "_law_told" (defArgs s__law_told) (defBody s__law_told) (defScope s__law_told) .none kV__law_told dc__law_told pm__law_told an__law_told cd__law_told ct__law_told), sl__law_told⟩)
    (c__law_told : PySem.W.codeIn K cd__law_told "_law_told" = true)
    (k__law_told : PySem.W.keepIn K (.ref f__law_told) = true)
    (a__law_written : PySem.W.nsIn K mainGlobals "_law_written" = some (some (.ref f__law_written)))
    (l__law_written : K.lookup f__law_written = some ⟨oc__law_written, od__law_written, .func (PySem.W.fnOf "_law_written" "_law_written" (defArgs s__law_written) (defBody s__law_written) (defScope s__law_written) .none kV__law_written dc__law_written pm__law_written an__law_written cd__law_written ct__law_written), sl__law_written⟩)
    (c__law_written : PySem.W.codeIn K cd__law_written "_law_written" = true)
    (k__law_written : PySem.W.keepIn K (.ref f__law_written) = true)
    (a__law_bent : PySem.W.nsIn K mainGlobals "_law_bent" = some (some (.ref f__law_bent)))
    (l__law_bent : K.lookup f__law_bent = some ⟨oc__law_bent, od__law_bent, .func (PySem.W.fnOf "_law_bent" "_law_bent" (defArgs s__law_bent) (defBody s__law_bent) (defScope s__law_bent) .none kV__law_bent dc__law_bent pm__law_bent an__law_bent cd__law_bent ct__law_bent), sl__law_bent⟩)
    (c__law_bent : PySem.W.codeIn K cd__law_bent "_law_bent" = true)
    (k__law_bent : PySem.W.keepIn K (.ref f__law_bent) = true)
    (a__law_bent_run : PySem.W.nsIn K mainGlobals "_law_bent_run" = some (some (.ref f__law_bent_run)))
    (l__law_bent_run : K.lookup f__law_bent_run = some ⟨oc__law_bent_run, od__law_bent_run, .func (PySem.W.fnOf "_law_bent_run" "_law_bent_run" (defArgs s__law_bent_run) (defBody s__law_bent_run) (defScope s__law_bent_run) .none kV__law_bent_run dc__law_bent_run pm__law_bent_run an__law_bent_run cd__law_bent_run ct__law_bent_run), sl__law_bent_run⟩)
    (c__law_bent_run : PySem.W.codeIn K cd__law_bent_run "_law_bent_run" = true)
    (k__law_bent_run : PySem.W.keepIn K (.ref f__law_bent_run) = true)
    (a_law : PySem.W.nsIn K mainGlobals "law" = some (some (.ref f_law)))
    (l_law : K.lookup f_law = some ⟨oc_law, od_law, .func (PySem.W.fnOf "law" "law" (defArgs s_law) (defBody s_law) (defScope s_law) .none kV_law dc_law pm_law an_law cd_law ct_law), sl_law⟩)
    (c_law : PySem.W.codeIn K cd_law "law" = true)
    (k_law : PySem.W.keepIn K (.ref f_law) = true)
    (g_CopyError : PySem.W.nsIn K mainGlobals "CopyError" = some (some (.ref cCopyError)))
    (g_NoRun : PySem.W.nsIn K mainGlobals "NoRun" = some (some (.ref cNoRun)))
    (g_BadText : PySem.W.nsIn K mainGlobals "BadText" = some (some (.ref cBadText)))
    (x_BadText : K.lookup cBadText = some (excClassObj nm_BadText q_BadText cBadText N_BadText bs_BadText bm_BadText true sn_BadText sub_BadText ab_BadText col_BadText dd_BadText m0_BadText m1_BadText m2_BadText m3_BadText m5_BadText "ValueError.__new__"))
    (sa_BadText : PySem.W.findIn K (.ref cBadText) "__setattr__" = some (some (.builtin "object.__setattr__")))
    (ga_BadText : PySem.W.findIn K (.ref cBadText) "__getattribute__" = some (some (.builtin "BaseException.__getattribute__")))
    (gg_BadText : PySem.W.findIn K (.ref cBadText) "__getattr__" = some none)
    (nb_BadText : PySem.W.findIn K (.ref cBadText) "line" = some none)
    (kC_BadText : PySem.W.keepIn K (.ref cBadText) = true)
    (eC_BadText : PySem.W.subIn K (.ref cBadText) (.type "BaseException") = some true)
    (tC_BadText : PySem.W.typeIn K (.ref cBadText) = some (.type "type"))
    (hC_BadText : PySem.W.hasDictIn K cBadText = true)
    (iC_BadText : PySem.W.isClsIn K cBadText = true)
    (sC_BadText : PySem.W.subIn K (.ref cBadText) (.ref cBadText) = some true)
    (vC_BadText : PySem.W.subIn K (.ref cBadText) (.type "ValueError") = some true)
    (ca_BadText : PySem.W.findIn K (.ref cBadText) "__class__" = some (some (.builtin "object.__class__")))
    (cn_BadText : PySem.W.specialIn K (.builtin "object.__class__") "__get__" = some (some (.builtin "getset_descriptor.__get__")))
    (ck_BadText : PySem.W.takesIn K (.builtin "object.__class__") = some true)
    (cm_BadText : PySem.W.mroIn K cBadText (.type "object") = some true)
    (rv_BadText : PySem.HandSPX.refsVE bm_BadText = true)
    (a_BadText___init__ : PySem.W.findIn K (.ref cBadText) "__init__" = some (some (.ref f_BadText___init__)))
    (l_BadText___init__ : K.lookup f_BadText___init__ = some ⟨oc_BadText___init__, od_BadText___init__, .func (PySem.W.fnOf "__init__" "BadText.__init__" (defArgs s_BadText___init__) (defBody s_BadText___init__) (defScope s_BadText___init__) .none kV_BadText___init__ dc_BadText___init__ pm_BadText___init__ an_BadText___init__ cd_BadText___init__ ct_BadText___init__), sl_BadText___init__⟩)
    (c_BadText___init__ : PySem.W.codeIn K cd_BadText___init__ "BadText.__init__" = true)
    (k_BadText___init__ : PySem.W.keepIn K (.ref f_BadText___init__) = true)
    (t_BadText___init__ : PySem.W.typeIn K (.ref f_BadText___init__) = some (.type "function"))
    (g_DI : PySem.W.nsIn K mainGlobals "DIGITS" = some (some (.str "0123456789" tDI)))
    (g_MF : PySem.W.nsIn K mainGlobals "MOST_FIGURES" = some (some (.int 9 tMF)))
    (g_LENGTHS : PySem.W.nsIn K mainGlobals "LENGTHS" = some (some (.ref aL)))
    (x_LENGTHS : K.lookup aL = some ⟨.type "dict", none, .dict #[⟨h1, .str "change" t1, .int 2 u1⟩, ⟨h2, .str "fork" t2, .int 2 u2⟩, ⟨h3, .str "join" t3, .int 3 u3⟩, ⟨h4, .str "lose" t4, .int 2 u4⟩] nL, #[]⟩)
    (y_LENGTHS : PySem.W.KeysLit w.params [⟨h1, .str "change" t1, .int 2 u1⟩, ⟨h2, .str "fork" t2, .int 2 u2⟩, ⟨h3, .str "join" t3, .int 3 u3⟩, ⟨h4, .str "lose" t4, .int 2 u4⟩])
    (v_LENGTHS : (aL == sysModules) = false)
    (ga_NoRun : PySem.W.findIn K (.ref cNoRun) "__getattribute__" = some (some (.builtin "BaseException.__getattribute__")))
    (gg_NoRun : PySem.W.findIn K (.ref cNoRun) "__getattr__" = some none)
    (kC_NoRun : PySem.W.keepIn K (.ref cNoRun) = true)
    (eC_NoRun : PySem.W.subIn K (.ref cNoRun) (.type "BaseException") = some true)
    (tC_NoRun : PySem.W.typeIn K (.ref cNoRun) = some (.type "type"))
    (iC_NoRun : PySem.W.isClsIn K cNoRun = true)
    (vC_NoRun : PySem.W.subIn K (.ref cNoRun) (.type "ValueError") = some true)
    (ca_NoRun : PySem.W.findIn K (.ref cNoRun) "__class__" = some (some (.builtin "object.__class__")))
    (cn_NoRun : PySem.W.specialIn K (.builtin "object.__class__") "__get__" = some (some (.builtin "getset_descriptor.__get__")))
    (ck_NoRun : PySem.W.takesIn K (.builtin "object.__class__") = some true)
    (cm_NoRun : PySem.W.mroIn K cNoRun (.type "object") = some true)
    (ex_NoRun : PySem.W.excIn K cNoRun [.type "ValueError", .type "Exception", .type "BaseException", .type "object"] "ValueError.__new__" = true)
    (eC_CopyError : PySem.W.subIn K (.ref cCopyError) (.type "BaseException") = some true)
    (tC_CopyError : PySem.W.typeIn K (.ref cCopyError) = some (.type "type"))
    (iC_CopyError : PySem.W.isClsIn K cCopyError = true)
    (s_NoRun_CopyError : PySem.W.subIn K (.ref cNoRun) (.ref cCopyError) = some true)
    (s_BadText_CopyError : PySem.W.subIn K (.ref cBadText) (.ref cCopyError) = some true) :
    ∃ fd : FuncData, (∀ (s : Shared) (u : Value), BindsTo s fd ⟨[u], []⟩ [("_law_script", u)]) ∧ ∀ base : Heap, K.In base → base.Ns mainGlobals mg → FnOk l.prog w K mg base (L2.CX l.prog w) 60 fa fd ["_law_script"] (liftSp K spLaw) := by
  have e := hfa.symm.trans (PySem.W.mg_of X G a_law)
  cases e
  have F_is_integer := fun_mk (st := s_is_integer) l_is_integer c_is_integer k_is_integer
  have b_is_integer := F_is_integer.binds (ps := ["thing"]) fun _ _ _ _ _ _ us hl => match us, hl with | [_], _ => rfl
  have F_is_deed := fun_mk (st := s_is_deed) l_is_deed c_is_deed k_is_deed
  have b_is_deed := F_is_deed.binds (ps := ["thing"]) fun _ _ _ _ _ _ us hl => match us, hl with | [_], _ => rfl
  have F_is_run := fun_mk (st := s_is_run) l_is_run c_is_run k_is_run
  have b_is_run := F_is_run.binds (ps := ["thing"]) fun _ _ _ _ _ _ us hl => match us, hl with | [_], _ => rfl
  have F_line_of := fun_mk (st := s_line_of) l_line_of c_line_of k_line_of
  have b_line_of := F_line_of.binds (ps := ["words"]) fun _ _ _ _ _ _ us hl => match us, hl with | [_], _ => rfl
  have F_run_text := fun_mk (st := s_run_text) l_run_text c_run_text k_run_text
  have b_run_text := F_run_text.binds (ps := ["run"]) fun _ _ _ _ _ _ us hl => match us, hl with | [_], _ => rfl
  have F_check_text := fun_mk (st := s_check_text) l_check_text c_check_text k_check_text
  have b_check_text := F_check_text.binds (ps := ["thing"]) fun _ _ _ _ _ _ us hl => match us, hl with | [_], _ => rfl
  have F_number_in := fun_mk (st := s_number_in) l_number_in c_number_in k_number_in
  have b_number_in := F_number_in.binds (ps := ["word"]) fun _ _ _ _ _ _ us hl => match us, hl with | [_], _ => rfl
  have F_read_run := fun_mk (st := s_read_run) l_read_run c_read_run k_read_run
  have b_read_run := F_read_run.binds (ps := ["text"]) fun _ _ _ _ _ _ us hl => match us, hl with | [_], _ => rfl
  have F__law_hand := fun_mk (st := s__law_hand) l__law_hand c__law_hand k__law_hand
  have b__law_hand := F__law_hand.binds (ps := ["_law_script"]) fun _ _ _ _ _ _ us hl => match us, hl with | [_], _ => rfl
  have F__law_draw := fun_mk (st := s__law_draw) l__law_draw c__law_draw k__law_draw
  have b__law_draw := F__law_draw.binds (ps := ["_law_hand_here", "_law_many"]) fun _ _ _ _ _ _ us hl => match us, hl with | [_, _], _ => rfl
  have F__law_some := fun_mk (st := s__law_some) l__law_some c__law_some k__law_some
  have b__law_some := F__law_some.binds (ps := ["_law_hand_here", "_law_things"]) fun _ _ _ _ _ _ us hl => match us, hl with | [_, _], _ => rfl
  have F__law_is := fun_mk (st := s__law_is) l__law_is c__law_is k__law_is
  have b__law_is := F__law_is.binds (ps := ["_law_told_here", "_law_due"]) fun _ _ _ _ _ _ us hl => match us, hl with | [_, _], _ => rfl
  have F__law_deep := fun_mk (st := s__law_deep) l__law_deep c__law_deep k__law_deep
  have b__law_deep := F__law_deep.binds (ps := ["_law_kind"]) fun _ _ _ _ _ _ us hl => match us, hl with | [_], _ => rfl
  have F__law_is_deed := fun_mk (st := s__law_is_deed) l__law_is_deed c__law_is_deed k__law_is_deed
  have b__law_is_deed := F__law_is_deed.binds (ps := ["_law_thing"]) fun _ _ _ _ _ _ us hl => match us, hl with | [_], _ => rfl
  have F__law_run_drawn := fun_mk (st := s__law_run_drawn) l__law_run_drawn c__law_run_drawn k__law_run_drawn
  have b__law_run_drawn := F__law_run_drawn.binds (ps := ["_law_hand_here", "_law_many"]) fun _ _ _ _ _ _ us hl => match us, hl with | [_, _], _ => rfl
  have F__law_run_text := fun_mk (st := s__law_run_text) l__law_run_text c__law_run_text k__law_run_text
  have b__law_run_text := F__law_run_text.binds (ps := ["_law_run"]) fun _ _ _ _ _ _ us hl => match us, hl with | [_], _ => rfl
  have F__law_number := fun_mk (st := s__law_number) l__law_number c__law_number k__law_number
  have b__law_number := F__law_number.binds (ps := ["_law_word"]) fun _ _ _ _ _ _ us hl => match us, hl with | [_], _ => rfl
  have F__law_numbers := fun_mk (st := s__law_numbers) l__law_numbers c__law_numbers k__law_numbers
  have b__law_numbers := F__law_numbers.binds (ps := ["_law_words", "_law_many"]) fun _ _ _ _ _ _ us hl => match us, hl with | [_, _], _ => rfl
  have F__law_read_run := fun_mk (st := s__law_read_run) l__law_read_run c__law_read_run k__law_read_run
  have b__law_read_run := F__law_read_run.binds (ps := ["_law_text"]) fun _ _ _ _ _ _ us hl => match us, hl with | [_], _ => rfl
  have F__law_told := fun_mk (st := s__law_told) l__law_told c__law_told k__law_told
  have b__law_told := F__law_told.binds (ps := ["_law_text"]) fun _ _ _ _ _ _ us hl => match us, hl with | [_], _ => rfl
  have F__law_written := fun_mk (st := s__law_written) l__law_written c__law_written k__law_written
  have b__law_written := F__law_written.binds (ps := ["_law_thing"]) fun _ _ _ _ _ _ us hl => match us, hl with | [_], _ => rfl
  have F__law_bent := fun_mk (st := s__law_bent) l__law_bent c__law_bent k__law_bent
  have b__law_bent := F__law_bent.binds (ps := ["_law_hand_here", "_law_text"]) fun _ _ _ _ _ _ us hl => match us, hl with | [_, _], _ => rfl
  have F__law_bent_run := fun_mk (st := s__law_bent_run) l__law_bent_run c__law_bent_run k__law_bent_run
  have b__law_bent_run := F__law_bent_run.binds (ps := ["_law_hand_here", "_law_run"]) fun _ _ _ _ _ _ us hl => match us, hl with | [_, _], _ => rfl
  have F_law := fun_mk (st := s_law) l_law c_law k_law
  have b_law := F_law.binds (ps := ["_law_script"]) fun _ _ _ _ _ _ us hl => match us, hl with | [_], _ => rfl
  have F_BadText___init__ := fun_mk (st := s_BadText___init__) l_BadText___init__ c_BadText___init__ k_BadText___init__
  have b_BadText___init__ := F_BadText___init__.binds (ps := ["self", "line"]) fun _ _ _ _ _ _ us hl => match us, hl with | [_, _], _ => rfl
  have T : Txt K mg cCopyError cNoRun cBadText aL w := {
    b_ValueError := PySem.W.mg_none_of X G z_ValueError,
    b_abs := PySem.W.mg_none_of X G z_abs,
    b_all := PySem.W.mg_none_of X G z_all,
    b_any := PySem.W.mg_none_of X G z_any,
    b_bool := PySem.W.mg_none_of X G z_bool,
    b_dict := PySem.W.mg_none_of X G z_dict,
    b_enumerate := PySem.W.mg_none_of X G z_enumerate,
    b_int := PySem.W.mg_none_of X G z_int,
    b_isinstance := PySem.W.mg_none_of X G z_isinstance,
    b_len := PySem.W.mg_none_of X G z_len,
    b_list := PySem.W.mg_none_of X G z_list,
    b_max := PySem.W.mg_none_of X G z_max,
    b_min := PySem.W.mg_none_of X G z_min,
    b_range := PySem.W.mg_none_of X G z_range,
    b_set := PySem.W.mg_none_of X G z_set,
    b_sorted := PySem.W.mg_none_of X G z_sorted,
    b_str := PySem.W.mg_none_of X G z_str,
    b_sum := PySem.W.mg_none_of X G z_sum,
    b_tuple := PySem.W.mg_none_of X G z_tuple,
    b_type := PySem.W.mg_none_of X G z_type,
    d_is_integer := ⟨_, _, F_is_integer, PySem.W.mg_of X G a_is_integer, k_is_integer, b_is_integer⟩,
    d_is_deed := ⟨_, _, F_is_deed, PySem.W.mg_of X G a_is_deed, k_is_deed, b_is_deed⟩,
    d_is_run := ⟨_, _, F_is_run, PySem.W.mg_of X G a_is_run, k_is_run, b_is_run⟩,
    d_line_of := ⟨_, _, F_line_of, PySem.W.mg_of X G a_line_of, k_line_of, b_line_of⟩,
    d_run_text := ⟨_, _, F_run_text, PySem.W.mg_of X G a_run_text, k_run_text, b_run_text⟩,
    d_check_text := ⟨_, _, F_check_text, PySem.W.mg_of X G a_check_text, k_check_text, b_check_text⟩,
    d_number_in := ⟨_, _, F_number_in, PySem.W.mg_of X G a_number_in, k_number_in, b_number_in⟩,
    d_read_run := ⟨_, _, F_read_run, PySem.W.mg_of X G a_read_run, k_read_run, b_read_run⟩,
    d__law_hand := ⟨_, _, F__law_hand, PySem.W.mg_of X G a__law_hand, k__law_hand, b__law_hand⟩,
    d__law_draw := ⟨_, _, F__law_draw, PySem.W.mg_of X G a__law_draw, k__law_draw, b__law_draw⟩,
    d__law_some := ⟨_, _, F__law_some, PySem.W.mg_of X G a__law_some, k__law_some, b__law_some⟩,
    d__law_is := ⟨_, _, F__law_is, PySem.W.mg_of X G a__law_is, k__law_is, b__law_is⟩,
    d__law_deep := ⟨_, _, F__law_deep, PySem.W.mg_of X G a__law_deep, k__law_deep, b__law_deep⟩,
    d__law_is_deed := ⟨_, _, F__law_is_deed, PySem.W.mg_of X G a__law_is_deed, k__law_is_deed, b__law_is_deed⟩,
    d__law_run_drawn := ⟨_, _, F__law_run_drawn, PySem.W.mg_of X G a__law_run_drawn, k__law_run_drawn, b__law_run_drawn⟩,
    d__law_run_text := ⟨_, _, F__law_run_text, PySem.W.mg_of X G a__law_run_text, k__law_run_text, b__law_run_text⟩,
    d__law_number := ⟨_, _, F__law_number, PySem.W.mg_of X G a__law_number, k__law_number, b__law_number⟩,
    d__law_numbers := ⟨_, _, F__law_numbers, PySem.W.mg_of X G a__law_numbers, k__law_numbers, b__law_numbers⟩,
    d__law_read_run := ⟨_, _, F__law_read_run, PySem.W.mg_of X G a__law_read_run, k__law_read_run, b__law_read_run⟩,
    d__law_told := ⟨_, _, F__law_told, PySem.W.mg_of X G a__law_told, k__law_told, b__law_told⟩,
    d__law_written := ⟨_, _, F__law_written, PySem.W.mg_of X G a__law_written, k__law_written, b__law_written⟩,
    d__law_bent := ⟨_, _, F__law_bent, PySem.W.mg_of X G a__law_bent, k__law_bent, b__law_bent⟩,
    d__law_bent_run := ⟨_, _, F__law_bent_run, PySem.W.mg_of X G a__law_bent_run, k__law_bent_run, b__law_bent_run⟩,
    d_law := ⟨_, _, F_law, PySem.W.mg_of X G a_law, k_law, b_law⟩,
    d_BadText___init__ := ⟨_, _, F_BadText___init__, ⟨⟨kC_BadText, eC_BadText, tC_BadText⟩, ⟨_, _, _, _, _, _, _, _, _, _, _, _, _, _, _, x_BadText, rv_BadText⟩, sa_BadText, nb_BadText, a_BadText___init__, t_BadText___init__⟩, b_BadText___init__⟩,
    c_BadText := PySem.W.mg_of X G g_BadText,
    k_DIGITS := ⟨.str "0123456789", .str "0123456789" tDI, PySem.W.mg_of X G g_DI, ⟨tDI, rfl⟩, fun φ H => by rw [RD]⟩,
    k_MOST_FIGURES := ⟨.int 9, .int 9 tMF, PySem.W.mg_of X G g_MF, ⟨tMF, rfl⟩, fun φ H => by rw [RD]⟩,
    k_LENGTHS := ⟨.ref aL, .ref aL, PySem.W.mg_of X G g_LENGTHS, rfl, fun φ H => by rw [RD]⟩,
    e_NoRun := ⟨⟨kC_NoRun, eC_NoRun, tC_NoRun⟩, ex_NoRun⟩,
    c_NoRun := PySem.W.mg_of X G g_NoRun,
    c_CopyError := PySem.W.mg_of X G g_CopyError,
    em_Copy := fun C hC => by
      simp only [List.mem_cons, List.not_mem_nil, or_false] at hC
      rcases hC with h | h
      · rw [h]; exact exm_of eC_CopyError iC_CopyError tC_CopyError s_NoRun_CopyError
      · rw [h]; exact exm_of eC_CopyError iC_CopyError tC_CopyError s_BadText_CopyError,
    xiR := ⟨iC_NoRun, ga_NoRun, gg_NoRun, eC_NoRun, ca_NoRun, cn_NoRun, ck_NoRun, cm_NoRun⟩,
    kitR := kt_tab (fun n b hm => by
        simp only [List.mem_cons, Prod.mk.injEq, D.ty.injEq, reduceCtorEq, false_and, or_false, List.not_mem_nil] at hm
        rw [hm.1, hm.2]
        exact kit_ty_of vC_NoRun) (fun n b hm => by
        simp only [List.mem_cons, Prod.mk.injEq, D.cls.injEq, reduceCtorEq, false_and, false_or, or_false, List.not_mem_nil] at hm
        rw [hm.1, hm.2]
        exact kit_self),
    xiT := ⟨iC_BadText, ga_BadText, gg_BadText, eC_BadText, ca_BadText, cn_BadText, ck_BadText, cm_BadText⟩,
    kitT := kt_tab (fun n b hm => by
        simp only [List.mem_cons, Prod.mk.injEq, D.ty.injEq, reduceCtorEq, false_and, or_false, List.not_mem_nil] at hm
        rw [hm.1, hm.2]
        exact kit_ty_of vC_BadText) (fun n b hm => by
        simp only [List.mem_cons, Prod.mk.injEq, D.cls.injEq, reduceCtorEq, false_and, false_or, or_false, List.not_mem_nil] at hm
        rw [hm.1, hm.2]
        exact kit_self),
    xf := ⟨ga_BadText, gg_BadText, eC_BadText, hC_BadText⟩,
    nof := nb_BadText,
    t_LENGTHS := ktab_len x_LENGTHS y_LENGTHS v_LENGTHS }
  exact ⟨PySem.W.fnOf "law" "law" (defArgs s_law) (defBody s_law) (defScope s_law) .none kV_law dc_law pm_law an_law cd_law ct_law, fun s u => .of_eq rfl, fun base _ _ => okF_law T (ok__law_hand T) (ok__law_run_drawn T (ok__law_draw T) (ok__law_some T (ok__law_draw T))) (ok__law_run_text T) (ok_is T 4) (ok_run_text T (ok_is_run T (ok_is_deed T (ok_is_integer T))) (ok_line_of T)) (ok_read_run T (ok_check_text T (ok_BadText T)) (ok_number_in T) (ok_is_deed T (ok_is_integer T)) (ok_BadText T)) (ok__law_draw T) (ok__law_bent T (ok__law_draw T) (ok__law_some T (ok__law_draw T))) (ok__law_told T (ok_read_run T (ok_check_text T (ok_BadText T)) (ok_number_in T) (ok_is_deed T (ok_is_integer T)) (ok_BadText T))) (ok__law_read_run T (ok__law_numbers T (ok__law_number T)) (ok__law_is_deed T)) (ok__law_bent_run T (ok__law_draw T) (ok__law_some T (ok__law_draw T)) (ok__law_deep T)) (ok__law_is_deed T) (ok__law_written T (ok_run_text T (ok_is_run T (ok_is_deed T (ok_is_integer T))) (ok_line_of T))) (ok__law_some T (ok__law_draw T)) (ok__law_deep T) F_law⟩
end K53
open PySem PySem.W PyProof.Rows in
set_option maxRecDepth 100000 in
set_option maxHeartbeats 0 in
theorem PySem.Challenge.cw_threecopies_k53_whole_texts_of_runs_holds : PySem.Challenge.rw_threecopies_k53_whole_texts_of_runs.Holds := by
  w_on; o_law; k_head; (case hw => w_witness2)
  k_fill
  refine Dy.dy_walkX "_law_script" (l := PySem.Challenge.rw_threecopies_k53_whole_texts_of_runs) (k := 60) rfl rfl ⟨rfl, by decide, by decide⟩ (fun w h Y => PySem.W.kIn_of Y) ?F
  case F =>
    intro w mg fa h KX G hmg
    refine' K53.all_mk KX G hmg ?z_ValueError ?z_abs ?z_all ?z_any ?z_bool ?z_dict ?z_enumerate ?z_int ?z_isinstance ?z_len ?z_list ?z_max ?z_min ?z_range ?z_set ?z_sorted ?z_str ?z_sum ?z_tuple ?z_type ?a_is_integer ?l_is_integer ?c_is_integer ?k_is_integer ?a_is_deed ?l_is_deed ?c_is_deed ?k_is_deed ?a_is_run ?l_is_run ?c_is_run ?k_is_run ?a_line_of ?l_line_of ?c_line_of ?k_line_of ?a_run_text ?l_run_text ?c_run_text ?k_run_text ?a_check_text ?l_check_text ?c_check_text ?k_check_text ?a_number_in ?l_number_in ?c_number_in ?k_number_in ?a_read_run ?l_read_run ?c_read_run ?k_read_run ?a__law_hand ?l__law_hand ?c__law_hand ?k__law_hand ?a__law_draw ?l__law_draw ?c__law_draw ?k__law_draw ?a__law_some ?l__law_some ?c__law_some ?k__law_some ?a__law_is ?l__law_is ?c__law_is ?k__law_is ?a__law_deep ?l__law_deep ?c__law_deep ?k__law_deep ?a__law_is_deed ?l__law_is_deed ?c__law_is_deed ?k__law_is_deed ?a__law_run_drawn ?l__law_run_drawn ?c__law_run_drawn ?k__law_run_drawn ?a__law_run_text ?l__law_run_text ?c__law_run_text ?k__law_run_text ?a__law_number ?l__law_number ?c__law_number ?k__law_number ?a__law_numbers ?l__law_numbers ?c__law_numbers ?k__law_numbers ?a__law_read_run ?l__law_read_run ?c__law_read_run ?k__law_read_run ?a__law_told ?l__law_told ?c__law_told ?k__law_told ?a__law_written ?l__law_written ?c__law_written ?k__law_written ?a__law_bent ?l__law_bent ?c__law_bent ?k__law_bent ?a__law_bent_run ?l__law_bent_run ?c__law_bent_run ?k__law_bent_run ?a_law ?l_law ?c_law ?k_law ?g_CopyError ?g_NoRun ?g_BadText ?x_BadText ?sa_BadText ?ga_BadText ?gg_BadText ?nb_BadText ?kC_BadText ?eC_BadText ?tC_BadText ?hC_BadText ?iC_BadText ?sC_BadText ?vC_BadText ?ca_BadText ?cn_BadText ?ck_BadText ?cm_BadText ?rv_BadText ?a_BadText___init__ ?l_BadText___init__ ?c_BadText___init__ ?k_BadText___init__ ?t_BadText___init__ ?g_DI ?g_MF ?g_LENGTHS ?x_LENGTHS ?y_LENGTHS ?v_LENGTHS ?ga_NoRun ?gg_NoRun ?kC_NoRun ?eC_NoRun ?tC_NoRun ?iC_NoRun ?vC_NoRun ?ca_NoRun ?cn_NoRun ?ck_NoRun ?cm_NoRun ?ex_NoRun ?eC_CopyError ?tC_CopyError ?iC_CopyError ?s_NoRun_CopyError ?s_BadText_CopyError
    (case z_ValueError => k_is)
    (case z_abs => k_is)
    (case z_all => k_is)
    (case z_any => k_is)
    (case z_bool => k_is)
    (case z_dict => k_is)
    (case z_enumerate => k_is)
    (case z_int => k_is)
    (case z_isinstance => k_is)
    (case z_len => k_is)
    (case z_list => k_is)
    (case z_max => k_is)
    (case z_min => k_is)
    (case z_range => k_is)
    (case z_set => k_is)
    (case z_sorted => k_is)
    (case z_str => k_is)
    (case z_sum => k_is)
    (case z_tuple => k_is)
    (case z_type => k_is)
    (case a_is_integer => k_is)
    (case l_is_integer => k_is)
    (case c_is_integer => k_is)
    (case k_is_integer => k_is)
    (case a_is_deed => k_is)
    (case l_is_deed => k_is)
    (case c_is_deed => k_is)
    (case k_is_deed => k_is)
    (case a_is_run => k_is)
    (case l_is_run => k_is)
    (case c_is_run => k_is)
    (case k_is_run => k_is)
    (case a_line_of => k_is)
    (case l_line_of => k_is)
    (case c_line_of => k_is)
    (case k_line_of => k_is)
    (case a_run_text => k_is)
    (case l_run_text => k_is)
    (case c_run_text => k_is)
    (case k_run_text => k_is)
    (case a_check_text => k_is)
    (case l_check_text => k_is)
    (case c_check_text => k_is)
    (case k_check_text => k_is)
    (case a_number_in => k_is)
    (case l_number_in => k_is)
    (case c_number_in => k_is)
    (case k_number_in => k_is)
    (case a_read_run => k_is)
    (case l_read_run => k_is)
    (case c_read_run => k_is)
    (case k_read_run => k_is)
    (case a__law_hand => k_is)
    (case l__law_hand => k_is)
    (case c__law_hand => k_is)
    (case k__law_hand => k_is)
    (case a__law_draw => k_is)
    (case l__law_draw => k_is)
    (case c__law_draw => k_is)
    (case k__law_draw => k_is)
    (case a__law_some => k_is)
    (case l__law_some => k_is)
    (case c__law_some => k_is)
    (case k__law_some => k_is)
    (case a__law_is => k_is)
    (case l__law_is => k_is)
    (case c__law_is => k_is)
    (case k__law_is => k_is)
    (case a__law_deep => k_is)
    (case l__law_deep => k_is)
    (case c__law_deep => k_is)
    (case k__law_deep => k_is)
    (case a__law_is_deed => k_is)
    (case l__law_is_deed => k_is)
    (case c__law_is_deed => k_is)
    (case k__law_is_deed => k_is)
    (case a__law_run_drawn => k_is)
    (case l__law_run_drawn => k_is)
    (case c__law_run_drawn => k_is)
    (case k__law_run_drawn => k_is)
    (case a__law_run_text => k_is)
    (case l__law_run_text => k_is)
    (case c__law_run_text => k_is)
    (case k__law_run_text => k_is)
    (case a__law_number => k_is)
    (case l__law_number => k_is)
    (case c__law_number => k_is)
    (case k__law_number => k_is)
    (case a__law_numbers => k_is)
    (case l__law_numbers => k_is)
    (case c__law_numbers => k_is)
    (case k__law_numbers => k_is)
    (case a__law_read_run => k_is)
    (case l__law_read_run => k_is)
    (case c__law_read_run => k_is)
    (case k__law_read_run => k_is)
    (case a__law_told => k_is)
    (case l__law_told => k_is)
    (case c__law_told => k_is)
    (case k__law_told => k_is)
    (case a__law_written => k_is)
    (case l__law_written => k_is)
    (case c__law_written => k_is)
    (case k__law_written => k_is)
    (case a__law_bent => k_is)
    (case l__law_bent => k_is)
    (case c__law_bent => k_is)
    (case k__law_bent => k_is)
    (case a__law_bent_run => k_is)
    (case l__law_bent_run => k_is)
    (case c__law_bent_run => k_is)
    (case k__law_bent_run => k_is)
    (case a_law => k_is)
    (case l_law => k_is)
    (case c_law => k_is)
    (case k_law => k_is)
    (case g_CopyError => k_is)
    (case g_NoRun => k_is)
    (case g_BadText => k_is)
    (case x_BadText => k_is)
    (case sa_BadText => k_is)
    (case ga_BadText => k_is)
    (case gg_BadText => k_is)
    (case nb_BadText => k_is)
    (case kC_BadText => k_is)
    (case eC_BadText => k_is)
    (case tC_BadText => k_is)
    (case hC_BadText => k_is)
    (case iC_BadText => k_is)
    (case sC_BadText => k_is)
    (case vC_BadText => k_is)
    (case ca_BadText => k_is)
    (case cn_BadText => k_is)
    (case ck_BadText => k_is)
    (case cm_BadText => k_is)
    (case rv_BadText => decide +kernel)
    (case a_BadText___init__ => k_is)
    (case l_BadText___init__ => k_is)
    (case c_BadText___init__ => k_is)
    (case k_BadText___init__ => k_is)
    (case t_BadText___init__ => k_is)
    (case g_DI => k_is)
    (case g_MF => k_is)
    (case g_LENGTHS => k_is)
    (case x_LENGTHS => k_is)
    (case y_LENGTHS => k_keys)
    (case v_LENGTHS => first | rfl | decide)
    (case ga_NoRun => k_is)
    (case gg_NoRun => k_is)
    (case kC_NoRun => k_is)
    (case eC_NoRun => k_is)
    (case tC_NoRun => k_is)
    (case iC_NoRun => k_is)
    (case vC_NoRun => k_is)
    (case ca_NoRun => k_is)
    (case cn_NoRun => k_is)
    (case ck_NoRun => k_is)
    (case cm_NoRun => k_is)
    (case ex_NoRun => first | k_exc | decide +kernel)
    (case eC_CopyError => k_is)
    (case tC_CopyError => k_is)
    (case iC_CopyError => k_is)
    (case s_NoRun_CopyError => k_is)
    (case s_BadText_CopyError => k_is)
