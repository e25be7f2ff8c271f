import PyProof.Rows.All
import Wide.All
import OpenK.AllK
import Wide.FinOn
import HandS.ForMost
import HandS.WordsExc
import HandS.ExcInit
import HandS.IsInst
import HandS.Wide
import HandS.TupAny
import HandS.TupMul
import HandS.TryOnly
import HandS.ExcField
import HandS.Style
import HandS.SetFor
import HandS.Small
import HandS.ExcIs
import KE.KExcIs
import KE.DataEq
import KE.Datum
import PyProof.EqKinds
import HandS.WideBits
import HandS.Dict
import HandS.More
import HandS.Conv
import HandS.SortInts
import HandS.Iter
import KE.GoesMore
import KE.GoesEnum
import HandS.Strs
import HandS.WrittenGet
import HandS.NamedTupSort
import HandS.TupSets
import PyProof.TupleOfSeq
import HandS.Text
import HandS.Steps
import HandS.Star
import PyProof.Rows.StrSplitCount
import HandS.DictComp
import HandS.FStr
import HandS.OwnEq
import PyProof.InstEq
import PySem.Challenge.RW_threecopies_k54_whole_texts_of_books
set_option Elab.async false
set_option linter.all false
set_option maxRecDepth 100000
set_option maxHeartbeats 4000000
namespace Dy
open PySem PySem.Spec PyProof.Rows L2
/-- a value as a tree; exo: a caught error at a, its own dict at d; lst, dic: a list, a dict that is never changed any more; ref: the n-th object that may change -/
inductive D where
  | non | bl (b : Bool) | int (i : Int) | str (x : Str) | ty (n : String)
  | tup (xs : List D) | lst (xs : List D) | frz (xs : List D) | dic (ks : List Key) (xs : List D) | ref (n : Nat) | cls (C : Addr)
  | exo (a d : Addr) (ks : List Str) (xs : List D)
/-- l: the objects that may change; b: lists that are being made -/
structure Al where
  l : List Addr
  b : List Addr
abbrev Al.push (φ : Al) (p : Addr) : Al := ⟨φ.l ++ [p], φ.b⟩
/-- a list that is read and never changed -/
def LsF (φ : Al) (H : Hp) (a : Addr) (vs : List V) : Prop := H a = some (.lst vs) ∧ a ∉ φ.l ∧ a ∉ φ.b
/-- a list that nobody can change: the script, a constant of the module -/
def FrF (K : PySem.W.Frag) (H : Hp) (a : Addr) (vs : List V) : Prop := (∃ o, H a = some (.frz o (.lst vs))) ∨ SqL K (fun _ => none) a vs
def DcF (φ : Al) (H : Hp) (a : Addr) (kvs : List (Key × V)) : Prop := H a = some (.dK kvs) ∧ a ∉ φ.l ∧ a ∉ φ.b
mutual
def RD (K : PySem.W.Frag) (φ : Al) (H : Hp) : D → V → Prop
  | .non, v => v = .non
  | .bl b, v => v = .bl b
  | .int i, v => v = .int i
  | .str x, v => v = .str x
  | .ty n, v => v = .ty n
  | .tup xs, v => ∃ a vs, v = .ref a ∧ SqT K H a vs ∧ RDs K φ H xs vs
  | .lst xs, v => ∃ a vs, v = .ref a ∧ LsF φ H a vs ∧ RDs K φ H xs vs
  | .frz xs, v => ∃ a vs, v = .ref a ∧ FrF K H a vs ∧ RDs K φ H xs vs
  | .dic ks xs, v => ∃ a vs, v = .ref a ∧ DcF φ H a (ks.zip vs) ∧ ks.length = vs.length ∧ RDs K φ H xs vs
  | .ref n, v => ∃ a, v = .ref a ∧ φ.l[n]? = some a
  | .cls C, v => v = .ref C
  | .exo a d ks xs, v => ∃ vs, v = .ref a ∧ H d = some (.xd (ks.zip vs)) ∧ ks.length = vs.length ∧ RDs K φ H xs vs
def RDs (K : PySem.W.Frag) (φ : Al) (H : Hp) : List D → List V → Prop
  | [], vs => vs = []
  | x :: xs, vs => ∃ v r, vs = v :: r ∧ RD K φ H x v ∧ RDs K φ H xs r
end
/-- from one state to a later one, but for what is being made -/
structure StepW (φ φ' : Al) (H H' : Hp) : Prop where
  pre : ∃ ψ, φ'.l = φ.l ++ ψ
  bs : ∀ a, a ∈ φ'.b → a ∉ φ.b → a ∉ φ.l → H a = none
  keep : ∀ a o, H a = some o → a ∉ φ.l → a ∉ φ.b → H' a = some o
  new : ∀ a, a ∈ φ'.l → a ∉ φ.l → a ∉ φ.b → H a = none
/-- from one state to a later one -/
structure Step (φ φ' : Al) (H H' : Hp) : Prop where
  pre : ∃ ψ, φ'.l = φ.l ++ ψ
  bs : ∀ a, a ∈ φ'.b → a ∉ φ.b → a ∉ φ.l → H a = none
  sub : ∀ a, a ∈ φ.b → a ∈ φ'.b
  keep : ∀ a o, H a = some o → a ∉ φ.l → H' a = some o
  new : ∀ a, a ∈ φ'.l → a ∉ φ.l → H a = none
def Muts (φ : Al) (H : Hp) : Prop := ∀ a, a ∈ φ.l → Mut (H a)
def MutB (φ : Al) (H : Hp) : Prop := ∀ a, a ∈ φ.b → (∃ xs, H a = some (.lst xs)) ∨ ∃ kvs, H a = some (.dK kvs)
section
variable {K : PySem.W.Frag} {φ φ' φ1 φ2 : Al} {H H' H1 H2 : Hp}
theorem Step.w (s : Step φ φ' H H') : StepW φ φ' H H' := ⟨s.pre, s.bs, fun a o h n _ => s.keep a o h n, fun a m n _ => s.new a m n⟩
theorem Step.refl : Step φ φ H H := ⟨⟨[], by simp⟩, fun _ h n _ => absurd h n, fun _ h => h, fun _ _ h _ => h, fun _ h n => absurd h n⟩
theorem Step.trans (s : Step φ φ1 H H1) (t : Step φ1 φ2 H1 H2) : Step φ φ2 H H2 := by
  refine ⟨?_, fun a h n nl => ?_, fun a h => t.sub a (s.sub a h), fun a o h n => ?_, fun a h n => ?_⟩
  · obtain ⟨ψ, e⟩ := s.pre
    obtain ⟨χ, e2⟩ := t.pre
    exact ⟨ψ ++ χ, by rw [e2, e]; simp⟩
  · by_cases m : a ∈ φ1.b
    · exact s.bs a m n nl
    · by_cases ml : a ∈ φ1.l
      · exact s.new a ml nl
      · have q := t.bs a h m ml
        cases e : H a with
        | none => rfl
        | some o => rw [s.keep a o e nl] at q; cases q
  · refine t.keep a o (s.keep a o h n) fun m => ?_
    have := s.new a m n
    rw [this] at h; cases h
  · by_cases m : a ∈ φ1.l
    · exact s.new a m n
    · have q := t.new a h m
      cases e : H a with
      | none => rfl
      | some o => rw [s.keep a o e n] at q; cases q
theorem StepW.at (s : StepW φ φ' H H') {n : Nat} {a : Addr} (h : φ.l[n]? = some a) : φ'.l[n]? = some a := by
  obtain ⟨ψ, e⟩ := s.pre
  rw [e]
  exact List.getElem?_append_left (List.getElem?_eq_some_iff.mp h).1 |>.trans h
theorem Step.at (s : Step φ φ' H H') {n : Nat} {a : Addr} (h : φ.l[n]? = some a) : φ'.l[n]? = some a := s.w.at h
theorem StepW.rd (s : StepW φ φ' H H') {a : Addr} {u : HO} (h : Rd H a u) (nm : a ∉ φ.l) (nb : a ∉ φ.b) : Rd H' a u := by
  rcases h with h | ⟨o, h⟩
  · exact .inl (s.keep _ _ h nm nb)
  · exact .inr ⟨o, s.keep _ _ h nm nb⟩
theorem Muts.tup (M : Muts φ H) {a : Addr} {xs : List V} (h : Rd H a (.tup xs)) : a ∉ φ.l := fun m => by
  have q := M a m
  rcases h with h | ⟨o, h⟩ <;> rw [h] at q <;> exact q
theorem MutB.tup (M : MutB φ H) {a : Addr} {xs : List V} (h : Rd H a (.tup xs)) : a ∉ φ.b := fun m => by
  rcases M a m with ⟨ys, q⟩ | ⟨ys, q⟩ <;> rcases h with h | ⟨o, h⟩ <;> rw [h] at q <;> cases q
theorem StepW.sqT (s : StepW φ φ' H H') (M : Muts φ H) (N : MutB φ H) {a : Addr} {xs : List V} (h : SqT K H a xs) : SqT K H' a xs := by
  rcases h with h | h
  · exact .inl (s.rd h (M.tup h) (N.tup h))
  · exact .inr h
theorem sqL_k {a : Addr} {xs : List V} (h : SqL K (fun _ => none) a xs) : SqL K H a xs := by
  rcases h with (h | ⟨_, h⟩) | h
  · cases h
  · cases h
  · exact .inr h
theorem LsF.sq {a : Addr} {xs : List V} (h : LsF φ H a xs) : SqL K H a xs := .inl (.inl h.1)
theorem FrF.sq {a : Addr} {xs : List V} (h : FrF K H a xs) : SqL K H a xs := by
  rcases h with ⟨o, h⟩ | h
  · exact .inl (.inr ⟨o, h⟩)
  · exact sqL_k h
theorem StepW.out (s : StepW φ φ' H H') {a : Addr} {o : HO} (h : H a = some o) (n : a ∉ φ.l) (nb : a ∉ φ.b) : a ∉ φ'.l := fun m => by
  rw [s.new a m n nb] at h; cases h
theorem StepW.outb (s : StepW φ φ' H H') {a : Addr} {o : HO} (h : H a = some o) (nl : a ∉ φ.l) (n : a ∉ φ.b) : a ∉ φ'.b := fun m => by
  rw [s.bs a m n nl] at h; cases h
theorem StepW.lsF (s : StepW φ φ' H H') {a : Addr} {xs : List V} (h : LsF φ H a xs) : LsF φ' H' a xs := ⟨s.keep _ _ h.1 h.2.1 h.2.2, s.out h.1 h.2.1 h.2.2, s.outb h.1 h.2.1 h.2.2⟩
theorem StepW.frF (s : StepW φ φ' H H') (M : Muts φ H) (N : MutB φ H) {a : Addr} {xs : List V} (h : FrF K H a xs) : FrF K H' a xs := by
  rcases h with ⟨o, h⟩ | h
  · have n : a ∉ φ.l := fun m => by
      have q := M a m
      rw [h] at q; exact q
    have nb : a ∉ φ.b := fun m => by
      rcases N a m with ⟨ys, q⟩ | ⟨ys, q⟩ <;> rw [h] at q <;> cases q
    exact .inl ⟨o, s.keep _ _ h n nb⟩
  · exact .inr h
theorem StepW.dcF (s : StepW φ φ' H H') {a : Addr} {kvs : List (Key × V)} (h : DcF φ H a kvs) : DcF φ' H' a kvs := ⟨s.keep _ _ h.1 h.2.1 h.2.2, s.out h.1 h.2.1 h.2.2, s.outb h.1 h.2.1 h.2.2⟩
mutual
theorem RD.monoW (s : StepW φ φ' H H') (M : Muts φ H) (N : MutB φ H) : ∀ (d : D) (v : V), RD K φ H d v → RD K φ' H' d v
  | .non, v, h => h
  | .bl _, v, h => h
  | .int _, v, h => h
  | .str _, v, h => h
  | .ty _, v, h => h
  | .cls _, v, h => h
  | .tup xs, v, h => by
    rw [RD] at h ⊢
    obtain ⟨a, vs, e, h1, h2⟩ := h
    exact ⟨a, vs, e, s.sqT M N h1, RDs.monoW s M N xs vs h2⟩
  | .lst xs, v, h => by
    rw [RD] at h ⊢
    obtain ⟨a, vs, e, h1, h2⟩ := h
    exact ⟨a, vs, e, s.lsF h1, RDs.monoW s M N xs vs h2⟩
  | .frz xs, v, h => by
    rw [RD] at h ⊢
    obtain ⟨a, vs, e, h1, h2⟩ := h
    exact ⟨a, vs, e, s.frF M N h1, RDs.monoW s M N xs vs h2⟩
  | .dic ks xs, v, h => by
    rw [RD] at h ⊢
    obtain ⟨a, vs, e, h1, hl, h2⟩ := h
    exact ⟨a, vs, e, s.dcF h1, hl, RDs.monoW s M N xs vs h2⟩
  | .ref n, v, h => by
    rw [RD] at h ⊢
    obtain ⟨a, e, h1⟩ := h
    exact ⟨a, e, s.at h1⟩
  | .exo a d ks xs, v, h => by
    rw [RD] at h ⊢
    obtain ⟨vs, e, h1, hl, h2⟩ := h
    have n : d ∉ φ.l := fun m => by
      have q := M d m
      rw [h1] at q; exact q
    have nb : d ∉ φ.b := fun m => by
      rcases N d m with ⟨ys, q⟩ | ⟨ys, q⟩ <;> rw [h1] at q <;> cases q
    exact ⟨vs, e, s.keep _ _ h1 n nb, hl, RDs.monoW s M N xs vs h2⟩
theorem RDs.monoW (s : StepW φ φ' H H') (M : Muts φ H) (N : MutB φ H) : ∀ (xs : List D) (vs : List V), RDs K φ H xs vs → RDs K φ' H' xs vs
  | [], vs, h => h
  | x :: xs, vs, h => by
    rw [RDs] at h ⊢
    obtain ⟨v, r, e, h1, h2⟩ := h
    exact ⟨v, r, e, RD.monoW s M N x v h1, RDs.monoW s M N xs r h2⟩
end
/-- all that may change or is being made -/
structure MutA (φ : Al) (H : Hp) : Prop where
  m : Muts φ H
  b : MutB φ H
theorem RD.mono (s : Step φ φ' H H') (M : MutA φ H) (d : D) (v : V) (h : RD K φ H d v) : RD K φ' H' d v := RD.monoW s.w M.m M.b d v h
theorem RDs.mono (s : Step φ φ' H H') (M : MutA φ H) (xs : List D) (vs : List V) (h : RDs K φ H xs vs) : RDs K φ' H' xs vs := RDs.monoW s.w M.m M.b xs vs h
theorem RDs.nil : RDs K φ H [] [] := by rw [RDs]
theorem RDs.cons {x : D} {xs : List D} {v : V} {vs : List V} (h : RD K φ H x v) (r : RDs K φ H xs vs) : RDs K φ H (x :: xs) (v :: vs) := by
  rw [RDs]; exact ⟨v, vs, rfl, h, r⟩
theorem RDs.length : ∀ {xs : List D} {vs : List V}, RDs K φ H xs vs → vs.length = xs.length
  | [], vs, h => by rw [RDs] at h; rw [h]; rfl
  | x :: xs, vs, h => by
    rw [RDs] at h
    obtain ⟨v, r, rfl, _, h2⟩ := h
    rw [List.length_cons, List.length_cons, RDs.length h2]
theorem RDs.append : ∀ {xs ys : List D} {vs ws : List V}, RDs K φ H xs vs → RDs K φ H ys ws → RDs K φ H (xs ++ ys) (vs ++ ws)
  | [], ys, vs, ws, h, q => by rw [RDs] at h; rw [h]; exact q
  | x :: xs, ys, vs, ws, h, q => by
    rw [RDs] at h
    obtain ⟨v, r, rfl, h1, h2⟩ := h
    exact .cons h1 (RDs.append h2 q)
theorem RDs.get : ∀ {xs : List D} {vs : List V} {i : Nat} {x : D}, RDs K φ H xs vs → xs[i]? = some x → ∃ v, vs[i]? = some v ∧ RD K φ H x v
  | [], vs, i, x, h, e => by simp at e
  | y :: xs, vs, 0, x, h, e => by
    rw [RDs] at h
    obtain ⟨v, r, rfl, h1, h2⟩ := h
    simp at e; subst e
    exact ⟨v, rfl, h1⟩
  | y :: xs, vs, i + 1, x, h, e => by
    rw [RDs] at h
    obtain ⟨v, r, rfl, h1, h2⟩ := h
    simp at e
    obtain ⟨u, q1, q2⟩ := RDs.get h2 e
    exact ⟨u, by simpa using q1, q2⟩
theorem RDs.set : ∀ {xs : List D} {vs : List V} (i : Nat) {x : D} {v : V}, RDs K φ H xs vs → RD K φ H x v → RDs K φ H (xs.set i x) (vs.set i v)
  | [], vs, i, x, v, h, q => by rw [RDs] at h; rw [h]; exact .nil
  | y :: xs, vs, 0, x, v, h, q => by
    rw [RDs] at h
    obtain ⟨u, r, rfl, h1, h2⟩ := h
    exact .cons q h2
  | y :: xs, vs, i + 1, x, v, h, q => by
    rw [RDs] at h
    obtain ⟨u, r, rfl, h1, h2⟩ := h
    exact .cons h1 (RDs.set i h2 q)
theorem RDs.drop : ∀ {xs : List D} {vs : List V} (n : Nat), RDs K φ H xs vs → RDs K φ H (xs.drop n) (vs.drop n)
  | _, _, 0, h => h
  | [], vs, n + 1, h => by rw [RDs] at h; rw [h]; exact .nil
  | y :: xs, vs, n + 1, h => by
    rw [RDs] at h
    obtain ⟨u, r, rfl, h1, h2⟩ := h
    exact RDs.drop n h2
theorem RDs.take : ∀ {xs : List D} {vs : List V} (n : Nat), RDs K φ H xs vs → RDs K φ H (xs.take n) (vs.take n)
  | _, _, 0, h => .nil
  | [], vs, n + 1, h => by rw [RDs] at h; rw [h]; exact .nil
  | y :: xs, vs, n + 1, h => by
    rw [RDs] at h
    obtain ⟨u, r, rfl, h1, h2⟩ := h
    exact .cons h1 (RDs.take n h2)
theorem RDs.bls_inv : ∀ {ns : List Bool} {vs : List V}, RDs K φ H (ns.map D.bl) vs → vs = ns.map V.bl
  | [], vs, h => by rw [List.map_nil, RDs] at h; exact h
  | n :: ns, vs, h => by
    rw [List.map_cons, RDs] at h
    obtain ⟨u, r, rfl, h1, h2⟩ := h
    rw [RD] at h1
    rw [h1, RDs.bls_inv h2]; rfl
end
inductive SO where
  | lst (xs : List D) | dK (kvs : List (Key × D)) | ins (C : Addr) (fs : List (Str × D))
abbrev Store := List SO
def RK {κ : Type} (K : PySem.W.Frag) (φ : Al) (H : Hp) (kvs : List (κ × D)) (ws : List (κ × V)) : Prop := kvs.map (·.1) = ws.map (·.1) ∧ RDs K φ H (kvs.map (·.2)) (ws.map (·.2))
def OR (K : PySem.W.Frag) (φ : Al) (H : Hp) (a : Addr) : SO → Prop
  | .lst xs => ∃ vs, H a = some (.lst vs) ∧ RDs K φ H xs vs
  | .dK kvs => ∃ ws, H a = some (.dK ws) ∧ RK K φ H kvs ws
  | .ins C fs => ∃ dx ws, H a = some (.ins C dx ws) ∧ RK K φ H fs ws
structure SR (K : PySem.W.Frag) (φ : Al) (S : Store) (H : Hp) : Prop where
  nd : φ.l.Nodup
  len : S.length = φ.l.length
  at_ : ∀ (n : Nat) (a : Addr) (o : SO), φ.l[n]? = some a → S[n]? = some o → OR K φ H a o
  mb : MutB φ H
  db : ∀ a, a ∈ φ.b → a ∉ φ.l
section
variable {K : PySem.W.Frag} {φ φ' φ1 φ2 : Al} {H H' H1 H2 : Hp} {S S' : Store}
theorem OR.mut {a : Addr} {o : SO} (h : OR K φ H a o) : Mut (H a) := by
  cases o with
  | lst xs => obtain ⟨_, e, _⟩ := h; rw [e]; trivial
  | dK xs => obtain ⟨_, e, _⟩ := h; rw [e]; trivial
  | ins C xs => obtain ⟨_, _, e, _⟩ := h; rw [e]; trivial
theorem SR.mutl (R : SR K φ S H) : Muts φ H := fun a h => by
  obtain ⟨n, e⟩ := List.getElem?_of_mem h
  have hn : n < S.length := by rw [R.len]; exact (List.getElem?_eq_some_iff.mp e).1
  exact (R.at_ n a S[n] e (List.getElem?_eq_getElem hn)).mut
theorem SR.muts (R : SR K φ S H) : MutA φ H := ⟨R.mutl, R.mb⟩
theorem RK.monoW {κ : Type} (s : StepW φ φ' H H') (M : MutA φ H) {kvs : List (κ × D)} {ws : List (κ × V)} (h : RK K φ H kvs ws) : RK K φ' H' kvs ws := ⟨h.1, RDs.monoW s M.m M.b _ _ h.2⟩
theorem RK.mono {κ : Type} (s : Step φ φ' H H') (M : MutA φ H) {kvs : List (κ × D)} {ws : List (κ × V)} (h : RK K φ H kvs ws) : RK K φ' H' kvs ws := h.monoW s.w M
theorem OR.moved {a : Addr} {o : SO} (s : StepW φ φ' H H') (M : MutA φ H) (h : OR K φ H a o) (e : H' a = H a) : OR K φ' H' a o := by
  cases o with
  | lst xs => obtain ⟨vs, h1, h2⟩ := h; exact ⟨vs, by rw [e]; exact h1, RDs.monoW s M.m M.b _ _ h2⟩
  | dK xs => obtain ⟨vs, h1, h2⟩ := h; exact ⟨vs, by rw [e]; exact h1, h2.monoW s M⟩
  | ins C xs => obtain ⟨dx, vs, h1, h2⟩ := h; exact ⟨dx, vs, by rw [e]; exact h1, h2.monoW s M⟩
/-- an object of the store is changed -/
theorem SR.step_put (R : SR K φ S H) {n : Nat} {a : Addr} {ho : HO} (e : φ.l[n]? = some a) : Step φ φ H (upd H a ho) :=
  ⟨⟨[], by simp⟩, fun _ h n _ => absurd h n, fun _ h => h, fun b o h nb => by
    have : b ≠ a := fun q => nb (q ▸ List.mem_of_getElem? e)
    rw [upd_ne this]; exact h, fun _ h n => absurd h n⟩
theorem SR.put (R : SR K φ S H) {n : Nat} {a : Addr} {ho : HO} {o : SO} (e : φ.l[n]? = some a) (h : OR K φ (upd H a ho) a o) : SR K φ (S.set n o) (upd H a ho) := by
  have am := List.mem_of_getElem? e
  refine ⟨R.nd, by simpa using R.len, fun m b u hb hu => ?_, fun b hb => ?_, R.db⟩
  · by_cases q : m = n
    · subst q
      rw [e] at hb; cases hb
      have hm : m < S.length := by rw [R.len]; exact (List.getElem?_eq_some_iff.mp e).1
      rw [List.getElem?_set_self hm] at hu; cases hu
      exact h
    · rw [List.getElem?_set_ne (Ne.symm q)] at hu
      have ne : b ≠ a := fun z => by
        subst z
        obtain ⟨h1, e1⟩ := List.getElem?_eq_some_iff.mp hb
        obtain ⟨h2, e2⟩ := List.getElem?_eq_some_iff.mp e
        exact q ((List.getElem_inj R.nd).mp (e1.trans e2.symm))
      exact (R.at_ m b u hb hu).moved (R.step_put (ho := ho) e).w R.muts (upd_ne ne)
  · have ne : b ≠ a := fun z => R.db b hb (z ▸ am)
    rw [upd_ne ne]
    exact R.mb b hb
/-- an object that is not ours comes -/
theorem step_new {p : Addr} {ho : HO} (h : H p = none) : Step φ φ H (upd H p ho) :=
  ⟨⟨[], by simp⟩, fun _ h n _ => absurd h n, fun _ h => h, fun b o e _ => by
    have : b ≠ p := fun q => by rw [q, h] at e; cases e
    rw [upd_ne this]; exact e, fun _ h n => absurd h n⟩
theorem SR.out (R : SR K φ S H) {p : Addr} (h : H p = none) : p ∉ φ.l := fun m => by
  have := R.mutl p m
  rw [h] at this; exact this
theorem SR.outb (R : SR K φ S H) {p : Addr} (h : H p = none) : p ∉ φ.b := fun m => by
  rcases R.mb p m with ⟨xs, q⟩ | ⟨xs, q⟩ <;> rw [h] at q <;> cases q
/-- the store stands where no object of it is touched -/
theorem SR.keep (R : SR K φ S H) (s : Step φ φ H H') (h : ∀ a, a ∈ φ.l → H' a = H a) : SR K φ S H' :=
  ⟨R.nd, R.len, fun n a o ha ho => (R.at_ n a o ha ho).moved s.w R.muts (h a (List.mem_of_getElem? ha)), fun b hb => by
    rcases R.mb b hb with ⟨xs, q⟩ | ⟨xs, q⟩
    · exact .inl ⟨xs, s.keep _ _ q (R.db b hb)⟩
    · exact .inr ⟨xs, s.keep _ _ q (R.db b hb)⟩, R.db⟩
theorem SR.new (R : SR K φ S H) {p : Addr} {ho : HO} (h : H p = none) : SR K φ S (upd H p ho) :=
  R.keep (step_new h) fun a m => upd_ne fun q => R.out h (q ▸ m)
theorem step_push (R : SR K φ S H) {p : Addr} {ho : HO} (h : H p = none) : Step φ (φ.push p) H (upd H p ho) :=
  ⟨⟨[p], rfl⟩, fun _ h n _ => absurd h n, fun _ h => h, (step_new (φ := φ) h).keep, fun a m n => by
    rcases List.mem_append.mp m with m | m
    · exact absurd m n
    · rw [List.mem_singleton.mp m]; exact h⟩
theorem SR.push (R : SR K φ S H) {p : Addr} {ho : HO} {o : SO} (h : H p = none) (q : OR K (φ.push p) (upd H p ho) p o) : SR K (φ.push p) (S ++ [o]) (upd H p ho) := by
  have st := step_push R (ho := ho) h
  refine ⟨?_, by simp [R.len], fun n a u ha hu => ?_, fun b hb => ?_, fun b hb m => ?_⟩
  · show (φ.l ++ [p]).Nodup
    rw [List.nodup_append]
    refine ⟨R.nd, by simp, fun a ha b hb => ?_⟩
    rw [List.mem_singleton.mp hb]
    exact fun z => R.out h (z ▸ ha)
  · have ha' : (φ.l ++ [p])[n]? = some a := ha
    by_cases hn : n < φ.l.length
    · rw [List.getElem?_append_left hn] at ha'
      rw [List.getElem?_append_left (by rw [R.len]; exact hn)] at hu
      have ne : a ≠ p := fun z => R.out h (z ▸ List.mem_of_getElem? ha')
      exact (R.at_ n a u ha' hu).moved st.w R.muts (upd_ne ne)
    · have hn' : n = φ.l.length := by
        have := (List.getElem?_eq_some_iff.mp ha').1
        simp at this; omega
      subst hn'
      rw [List.getElem?_append_right (Nat.le_refl _)] at ha'
      rw [List.getElem?_append_right (by rw [R.len]; exact Nat.le_refl _), R.len] at hu
      simp at ha' hu
      subst ha' hu
      exact q
  · have ne : b ≠ p := fun z => R.outb h (z ▸ hb)
    rw [upd_ne ne]
    exact R.mb b hb
  · rcases List.mem_append.mp m with m | m
    · exact R.db b hb m
    · rw [List.mem_singleton.mp m] at hb
      exact R.outb h hb
end
end Dy
namespace Dy
open PySem PySem.Spec PyProof.Rows L2
/-- an error of the class at C; its fields, if its class has an __init__ of its own -/
structure Exc where
  C : Addr
  fs : Option (List (Str × D))
def ExR (K : PySem.W.Frag) (φ : Al) (H : Hp) (x : Exc) (cls : Value) (d : Option Addr) : Prop :=
  cls = .ref x.C ∧ match x.fs with
    | none => d = none
    | some fs => ∃ dd ws, d = some dd ∧ H dd = some (.xd ws) ∧ RK K φ H fs ws
abbrev Rho := List (Option D)
structure Sl (K : PySem.W.Frag) (φ : Al) (H : Hp) (ρ : Rho) (σ : L2.St) : Prop where
  len : ρ.length = σ.length
  at_ : ∀ (i : Nat) (d : D), ρ[i]? = some (some d) → ∃ v, σ[i]? = some (some v) ∧ RD K φ H d v
section
variable {K : PySem.W.Frag} {φ φ' : Al} {H H' : Hp} {S : Store} {ρ : Rho} {σ : L2.St}
theorem Sl.mono (l : Sl K φ H ρ σ) (s : Step φ φ' H H') (M : MutA φ H) : Sl K φ' H' ρ σ :=
  ⟨l.len, fun i d e => let ⟨v, h1, h2⟩ := l.at_ i d e; ⟨v, h1, RD.mono s M d v h2⟩⟩
theorem Sl.set (l : Sl K φ H ρ σ) {i : Nat} {d : D} {v : V} (h : RD K φ H d v) : Sl K φ H (ρ.set i (some d)) (σ.set i (some v)) := by
  refine ⟨by simpa using l.len, fun j u e => ?_⟩
  by_cases q : j = i
  · subst q
    have hj : j < ρ.length := by
      have := (List.getElem?_eq_some_iff.mp e).1
      simpa using this
    rw [List.getElem?_set_self hj] at e
    cases e
    exact ⟨v, by rw [List.getElem?_set_self (by rw [← l.len]; exact hj)], h⟩
  · rw [List.getElem?_set_ne (Ne.symm q)] at e
    rw [List.getElem?_set_ne (Ne.symm q)]
    exact l.at_ j u e
theorem Sl.unset (l : Sl K φ H ρ σ) {i : Nat} : Sl K φ H (ρ.set i none) (σ.set i none) := by
  refine ⟨by simpa using l.len, fun j u e => ?_⟩
  by_cases q : j = i
  · subst q
    have hj : j < ρ.length := by
      have := (List.getElem?_eq_some_iff.mp e).1
      simpa using this
    rw [List.getElem?_set_self hj] at e
    cases e
  · rw [List.getElem?_set_ne (Ne.symm q)] at e
    rw [List.getElem?_set_ne (Ne.symm q)]
    exact l.at_ j u e
end
/-- contexts that differ in what a derivation does not see -/
structure Fam where
  ι : Type
  X : ι → Cx
  K : PySem.W.Frag
  hK : ∀ i, (X i).K = K
def Fam.one (X : Cx) : Fam := ⟨Unit, fun _ => X, X.K, fun _ => rfl⟩
abbrev QD := D → Store → Prop
abbrev XQ := Exc → Store → Prop
abbrev DTE := Rho → Store → QD → XQ → Prop
abbrev DTT := Rho → Store → (Bool → Store → Prop) → XQ → Prop
abbrev DTA := Rho → Store → (List D → Store → Prop) → XQ → Prop
/-- where an evaluation stands -/
structure Ok (K : PySem.W.Frag) (W : WX) (σ : L2.St) (ρ : Rho) (φ : Al) (S : Store) (H : Hp) (E : XQ) : Prop where
  sr : SR K φ S H
  sl : Sl K φ H ρ σ
  ex : ∀ φ' H' S' x cls d, Step φ φ' H H' → SR K φ' S' H' → ExR K φ' H' x cls d → E x S' → W cls d σ H'
theorem Ok.mono {K : PySem.W.Frag} {W : WX} {σ : L2.St} {ρ : Rho} {φ φ' : Al} {S S' : Store} {H H' : Hp} {E : XQ} (o : Ok K W σ ρ φ S H E) (s : Step φ φ' H H') (r : SR K φ' S' H') : Ok K W σ ρ φ' S' H' E :=
  ⟨r, o.sl.mono s o.sr.muts, fun _ _ _ _ _ _ t r' x e => o.ex _ _ _ _ _ _ (s.trans t) r' x e⟩
/-- what an evaluation's end is worth -/
def EndV (K : PySem.W.Frag) (φ : Al) (H : Hp) (Q' : QD) (Q : VK) : Prop :=
  ∀ φ' H' S' d v, Step φ φ' H H' → SR K φ' S' H' → RD K φ' H' d v → Q' d S' → Q v H'
def EndT (K : PySem.W.Frag) (φ : Al) (H : Hp) (Q' : Bool → Store → Prop) (Q : Bool → Hp → Prop) : Prop :=
  ∀ φ' H' S' b, Step φ φ' H H' → SR K φ' S' H' → Q' b S' → Q b H'
def EndA (K : PySem.W.Frag) (φ : Al) (H : Hp) (Q' : List D → Store → Prop) (Q : List V → Hp → Prop) : Prop :=
  ∀ φ' H' S' ds vs, Step φ φ' H H' → SR K φ' S' H' → RDs K φ' H' ds vs → Q' ds S' → Q vs H'
def DE (F : Fam) (W : WX) (e : Expr) (t' : DTE) : Prop :=
  ∃ t : TE, (∀ i, PE (F.X i) e t) ∧ ∀ σ ρ φ S H E Q' Q, Ok F.K W σ ρ φ S H E → EndV F.K φ H Q' Q → t' ρ S Q' E → t σ H Q
def DT (F : Fam) (W : WX) (e : Expr) (t' : DTT) : Prop :=
  ∃ t : TT, (∀ i, PT (F.X i) e t) ∧ ∀ σ ρ φ S H E Q' Q, Ok F.K W σ ρ φ S H E → EndT F.K φ H Q' Q → t' ρ S Q' E → t σ H Q
def DW (F : Fam) (W : WX) (e : Expr) (t' : DTT) : Prop :=
  ∃ t : TT, (∀ i, PW (F.X i) e t) ∧ ∀ σ ρ φ S H E Q' Q, Ok F.K W σ ρ φ S H E → EndT F.K φ H Q' Q → t' ρ S Q' E → t σ H Q
def DA (F : Fam) (W : WX) (es : List Expr) (t' : DTA) : Prop :=
  ∃ t : TA, (∀ i, PA (F.X i) es t) ∧ ∀ σ ρ φ S H E Q' Q, Ok F.K W σ ρ φ S H E → EndA F.K φ H Q' Q → t' ρ S Q' E → t σ H Q
/-- inside an evaluation: the end, seen from a later state -/
theorem EndV.mono {K : PySem.W.Frag} {φ φ' : Al} {H H' : Hp} {Q' : QD} {Q : VK} (q : EndV K φ H Q' Q) (s : Step φ φ' H H') : EndV K φ' H' Q' Q :=
  fun _ _ _ _ _ t r rd h => q _ _ _ _ _ (s.trans t) r rd h
theorem EndT.mono {K : PySem.W.Frag} {φ φ' : Al} {H H' : Hp} {Q' : Bool → Store → Prop} {Q : Bool → Hp → Prop} (q : EndT K φ H Q' Q) (s : Step φ φ' H H') : EndT K φ' H' Q' Q :=
  fun _ _ _ _ t r h => q _ _ _ _ (s.trans t) r h
theorem EndA.mono {K : PySem.W.Frag} {φ φ' : Al} {H H' : Hp} {Q' : List D → Store → Prop} {Q : List V → Hp → Prop} (q : EndA K φ H Q' Q) (s : Step φ φ' H H') : EndA K φ' H' Q' Q :=
  fun _ _ _ _ _ t r rd h => q _ _ _ _ _ (s.trans t) r rd h
section
variable {F : Fam} {W : WX} {a b c e : Expr} {es rest : List Expr} {pos : Pos} {ta tb tc te : DTE} {uA uB uC : DTT} {t : DTA}
def dVar (i : Nat) : DTE := fun ρ S Q _ => ∃ d, ρ[i]? = some (some d) ∧ Q d S
def dC (d : D) : DTE := fun _ S Q _ => Q d S
/-- a constant that says nothing of the heap -/
def Flat : D → V → Prop
  | .non, v => v = .non
  | .bl b, v => v = .bl b
  | .int i, v => v = .int i
  | .str x, v => v = .str x
  | .ty n, v => v = .ty n
  | .cls C, v => v = .ref C
  | _, _ => False
theorem Flat.rd {K : PySem.W.Frag} {φ : Al} {H : Hp} {d : D} {v : V} (h : Flat d v) : RD K φ H d v := by
  cases d <;> first | exact h.elim | (rw [RD]; exact h)
theorem de_of_c {d : D} {v : V} (h : ∀ i, PE (F.X i) e (tC v)) (f : Flat d v) : DE F W e (dC d) :=
  ⟨tC v, h, fun σ ρ φ S H E Q' Q o q h => q φ H S d v .refl o.sr f.rd h⟩
theorem de_var (i : Nat) {x : Str} (hN : ∀ j, (F.X j).N[i]? = some x := by intro _; rfl) (hv : ∀ j, Vis (F.X j).env.scope x := by intro _; first | exact Or.inl rfl | exact Or.inr (Or.inl rfl) | exact Or.inr (Or.inr rfl)) (hd : (x == ("__debug__" : Str)) = false := by decide)
    (hcd : (x == ("__classdict__" : Str)) = false := by decide) : DE F W (.Name x pos) (dVar i) :=
  ⟨tVar i, fun j => pe_var (hN j) (hv j) hd hcd, fun σ ρ φ S H E Q' Q o q h => by
    obtain ⟨d, e, h⟩ := h
    obtain ⟨v, e2, r⟩ := o.sl.at_ i d e
    exact ⟨v, e2, q φ H S d v .refl o.sr r h⟩⟩
theorem de_int {i : Int} {j} : DE F W (.Constant (.int i) j pos) (dC (.int i)) := de_of_c (fun _ => pe_int) rfl
theorem de_bl {i : Bool} {j} : DE F W (.Constant (.bool i) j pos) (dC (.bl i)) := de_of_c (fun _ => pe_bl) rfl
theorem de_non {j} : DE F W (.Constant .none j pos) (dC .non) := de_of_c (fun _ => pe_non) rfl
theorem de_str {x : Str} {j} : DE F W (.Constant (.str x) j pos) (dC (.str x)) := de_of_c (fun _ => pe_str) rfl
/-- a module's own name: a class, a def, a plain constant -/
theorem de_glob {x : Str} {d : D} {v : V} {u : Value} (hg : ∀ i, Gl (F.X i) x) (hm : ∀ i, (F.X i).mg x = some u) (r : RelV v u) (f : Flat d v) (hd : (x == ("__debug__" : Str)) = false := by decide) : DE F W (.Name x pos) (dC d) := de_of_c (fun i => pe_glob (hg i) (hm i) r hd) f
theorem de_bltn {x : Str} {d : D} {v : V} {u : Value} (hg : ∀ i, Gl (F.X i) x) (hm : ∀ i, (F.X i).mg x = none) (hv : bootBuiltins x = some u) (r : RelV v u) (f : Flat d v) (hn : x ≠ "__name__" := by decide) (hd : (x == ("__debug__" : Str)) = false := by decide) :
    DE F W (.Name x pos) (dC d) := de_of_c (fun i => pe_bltn (hg i) (hm i) hv r hn hd) f
def dNil : DTA := fun _ S Q _ => Q [] S
def dCons (ta : DTE) (t : DTA) : DTA := fun ρ S Q E => ta ρ S (fun d S1 => t ρ S1 (fun ds S2 => Q (d :: ds) S2) E) E
theorem da_nil : DA F W [] dNil := ⟨tNil, fun _ => pa_nil, fun σ ρ φ S H E Q' Q o q h => q φ H S [] [] .refl o.sr .nil h⟩
theorem da_cons (ha : DE F W e ta) (hr : DA F W es t) (hs : ∀ i, starEach (e :: es) (F.X i).env = (false, eval e (F.X i).env) :: starEach es (F.X i).env := by intro _; rfl) : DA F W (e :: es) (dCons ta t) := by
  obtain ⟨t1, p1, k1⟩ := ha
  obtain ⟨t2, p2, k2⟩ := hr
  refine ⟨tCons t1 t2, fun i => pa_cons (p1 i) (p2 i) (hs i), fun σ ρ φ S H E Q' Q o q h => ?_⟩
  refine k1 σ ρ φ S H E _ _ o (fun φ1 H1 S1 d v s1 r1 rd h1 => ?_) h
  refine k2 σ ρ φ1 S1 H1 E _ _ (o.mono s1 r1) (fun φ2 H2 S2 ds vs s2 r2 rds h2 => ?_) h1
  exact q φ2 H2 S2 _ _ (s1.trans s2) r2 (.cons (RD.mono s2 r1.muts _ _ rd) rds) h2
/-- the common way of a two-place operation -/
theorem de_two {r : R2} {r' : D → D → Store → QD → Prop} {f : TE → TE → TE} (hf : ∀ t1 t2, f t1 t2 = tOp r t1 t2) (ha : DE F W a ta) (hb : DE F W b tb) (hp : ∀ i t1 t2, PE (F.X i) a t1 → PE (F.X i) b t2 → PE (F.X i) e (f t1 t2))
    (hr : ∀ φ S H Q' Q d1 d2 v1 v2, SR F.K φ S H → RD F.K φ H d1 v1 → RD F.K φ H d2 v2 → EndV F.K φ H Q' Q → r' d1 d2 S Q' → r v1 v2 H Q) :
    DE F W e (fun ρ S Q E => ta ρ S (fun d1 S1 => tb ρ S1 (fun d2 S2 => r' d1 d2 S2 Q) E) E) := by
  obtain ⟨t1, p1, k1⟩ := ha
  obtain ⟨t2, p2, k2⟩ := hb
  refine ⟨f t1 t2, fun i => hp i t1 t2 (p1 i) (p2 i), fun σ ρ φ S H E Q' Q o q h => ?_⟩
  rw [hf]
  refine k1 σ ρ φ S H E _ _ o (fun φ1 H1 S1 d v s1 r1 rd h1 => ?_) h
  refine k2 σ ρ φ1 S1 H1 E _ _ (o.mono s1 r1) (fun φ2 H2 S2 d2 v2 s2 r2 rd2 h2 => ?_) h1
  exact hr φ2 S2 H2 _ _ d d2 v v2 r2 (RD.mono s2 r1.muts _ _ rd) rd2 (q.mono (s1.trans s2)) h2
abbrev D2 := D → D → Store → QD → Prop
def dOp (r : D2) (ta tb : DTE) : DTE := fun ρ S Q E => ta ρ S (fun d1 S1 => tb ρ S1 (fun d2 S2 => r d1 d2 S2 Q) E) E
/-- an operation on trees and its rule by values -/
def Lk (K : PySem.W.Frag) (r' : D2) (r : R2) : Prop :=
  ∀ φ S H Q' Q d1 d2 v1 v2, SR K φ S H → RD K φ H d1 v1 → RD K φ H d2 v2 → EndV K φ H Q' Q → r' d1 d2 S Q' → r v1 v2 H Q
theorem de_op {op : Operator} {r : R2} {r' : D2} (ho : ∀ i, OpR (F.X i) (binaryOp op) r) (l : Lk F.K r' r) (ha : DE F W a ta) (hb : DE F W b tb) : DE F W (.BinOp a op b pos) (dOp r' ta tb) :=
  de_two (f := fun t1 t2 => tOp r t1 t2) (fun _ _ => rfl) ha hb (fun i _ _ p1 p2 => pe_op (ho i) p1 p2) l
theorem de_cmp {op : CmpOp} {r : R2} {r' : D2} (ho : ∀ i, OpR (F.X i) (compareOp op) r) (l : Lk F.K r' r) (ha : DE F W a ta) (hb : DE F W b tb) (hm : behindInMarks op b = false) : DE F W (.Compare a [op] [b] pos) (dOp r' ta tb) :=
  de_two (f := fun t1 t2 => tOp r t1 t2) (fun _ _ => rfl) ha hb (fun i _ _ p1 p2 => pe_cmpR (ho i) p1 p2 hm) l
theorem de_ix {r : R2} {r' : D2} (ho : ∀ i, IxR (F.X i) r) (l : Lk F.K r' r) (ha : DE F W a ta) (hb : DE F W b tb) (hs : PlainIx b := by exact fun _ _ => rfl) : DE F W (.Subscript a b pos) (dOp r' ta tb) :=
  de_two (f := fun t1 t2 => tOp r t1 t2) (fun _ _ => rfl) ha hb (fun i _ _ p1 p2 => pe_ix (ho i) p1 p2 hs) l
def dUn (r : D → Store → QD → Prop) (ta : DTE) : DTE := fun ρ S Q E => ta ρ S (fun d S1 => r d S1 Q) E
/-- an expression that gives True or False, as a test -/
def dTest (te : DTE) : DTT := fun ρ S Q E => te ρ S (fun d S1 => ∃ k, d = .bl k ∧ Q k S1) E
theorem dt_val (h : DE F W e te) (he : ∀ i whole, isTrue e (F.X i).env whole = (do let v ← whole; standAt e.pos; holding [v] (truthy v)) := by intro _ _; rfl) : DT F W e (dTest te) := by
  obtain ⟨t1, p1, k1⟩ := h
  refine ⟨tB t1, fun i => pt_val (p1 i) (he i), fun σ ρ φ S H E Q' Q o q h => ?_⟩
  refine k1 σ ρ φ S H E _ _ o (fun φ1 H1 S1 d v s1 r1 rd h1 => ?_) h
  obtain ⟨k, rfl, h2⟩ := h1
  rw [RD] at rd
  exact ⟨k, rd, q φ1 H1 S1 k s1 r1 h2⟩
theorem dt_cmp {op : CmpOp} {r : R2} {r' : D2} (ho : ∀ i, OpR (F.X i) (compareOp op) r) (l : Lk F.K r' r) (ha : DE F W a ta) (hb : DE F W b tb) (hm : behindInMarks op b = false) : DT F W (.Compare a [op] [b] pos) (dTest (dOp r' ta tb)) := by
  obtain ⟨t1, p1, k1⟩ := ha
  obtain ⟨t2, p2, k2⟩ := hb
  refine ⟨_, fun i => pt_cmpR (ho i) (p1 i) (p2 i) hm, fun σ ρ φ S H E Q' Q o q h => ?_⟩
  refine k1 σ ρ φ S H E _ _ o (fun φ1 H1 S1 d v s1 r1 rd h1 => ?_) h
  refine k2 σ ρ φ1 S1 H1 E _ _ (o.mono s1 r1) (fun φ2 H2 S2 d2 v2 s2 r2 rd2 h2 => ?_) h1
  refine l φ2 S2 H2 _ _ d d2 v v2 r2 (RD.mono s2 r1.muts _ _ rd) rd2 (fun φ3 H3 S3 d3 v3 s3 r3 rd3 h3 => ?_) h2
  obtain ⟨k, rfl, h4⟩ := h3
  rw [RD] at rd3
  exact ⟨k, rd3, q φ3 H3 S3 k ((s1.trans s2).trans s3) r3 h4⟩
def dAnd (t u : DTT) : DTT := fun ρ S Q E => t ρ S (fun c S1 => if c = true then u ρ S1 Q E else Q false S1) E
def dOr (t u : DTT) : DTT := fun ρ S Q E => t ρ S (fun c S1 => if c = true then Q true S1 else u ρ S1 Q E) E
def dNot (t : DTT) : DTT := fun ρ S Q E => t ρ S (fun c S1 => Q (!c) S1) E
theorem dw_and1 (h : DT F W a uA) : DW F W (.BoolOp .And [a] pos) uA := let ⟨t, p, k⟩ := h; ⟨t, fun i => pw_and1 (p i), k⟩
theorem dw_or1 (h : DT F W a uA) : DW F W (.BoolOp .Or [a] pos) uA := let ⟨t, p, k⟩ := h; ⟨t, fun i => pw_or1 (p i), k⟩
theorem dw_and (ha : DT F W a uA) (hb : DW F W (.BoolOp .And (b :: rest) pos) uB) : DW F W (.BoolOp .And (a :: b :: rest) pos) (dAnd uA uB) := by
  obtain ⟨t1, p1, k1⟩ := ha
  obtain ⟨t2, p2, k2⟩ := hb
  refine ⟨_, fun i => pw_and (p1 i) (p2 i), fun σ ρ φ S H E Q' Q o q h => ?_⟩
  refine k1 σ ρ φ S H E _ _ o (fun φ1 H1 S1 k s1 r1 h1 => ?_) h
  cases k with
  | false => rw [if_neg Bool.false_ne_true] at h1 ⊢; exact q φ1 H1 S1 false s1 r1 h1
  | true => rw [if_pos rfl] at h1 ⊢; exact k2 σ ρ φ1 S1 H1 E _ _ (o.mono s1 r1) (q.mono s1) h1
theorem dw_or (ha : DT F W a uA) (hb : DW F W (.BoolOp .Or (b :: rest) pos) uB) : DW F W (.BoolOp .Or (a :: b :: rest) pos) (dOr uA uB) := by
  obtain ⟨t1, p1, k1⟩ := ha
  obtain ⟨t2, p2, k2⟩ := hb
  refine ⟨_, fun i => pw_or (p1 i) (p2 i), fun σ ρ φ S H E Q' Q o q h => ?_⟩
  refine k1 σ ρ φ S H E _ _ o (fun φ1 H1 S1 k s1 r1 h1 => ?_) h
  cases k with
  | false => rw [if_neg Bool.false_ne_true] at h1 ⊢; exact k2 σ ρ φ1 S1 H1 E _ _ (o.mono s1 r1) (q.mono s1) h1
  | true => rw [if_pos rfl] at h1 ⊢; exact q φ1 H1 S1 true s1 r1 h1
theorem DW.dt (h : DW F W a uA) : DT F W a uA := let ⟨t, p, k⟩ := h; ⟨t, fun i => (p i).pt, k⟩
theorem dt_not (ha : DT F W a uA) : DT F W (.UnaryOp .Not a pos) (dNot uA) := by
  obtain ⟨t1, p1, k1⟩ := ha
  refine ⟨_, fun i => pt_not (p1 i), fun σ ρ φ S H E Q' Q o q h => ?_⟩
  exact k1 σ ρ φ S H E _ _ o (fun φ1 H1 S1 k s1 r1 h1 => q φ1 H1 S1 _ s1 r1 h1) h
/-- and, or, not as values -/
def dAndV (ta tb : DTE) : DTE := fun ρ S Q E => ta ρ S (fun d S1 => ∃ c, d = .bl c ∧ if c = true then tb ρ S1 Q E else Q (.bl false) S1) E
def dOrV (ta tb : DTE) : DTE := fun ρ S Q E => ta ρ S (fun d S1 => ∃ c, d = .bl c ∧ if c = true then Q (.bl true) S1 else tb ρ S1 Q E) E
def dNotV (ta : DTE) : DTE := fun ρ S Q E => ta ρ S (fun d S1 => ∃ c, d = .bl c ∧ Q (.bl (!c)) S1) E
theorem rd_bl {K : PySem.W.Frag} {φ : Al} {H : Hp} {b : Bool} : RD K φ H (.bl b) (.bl b) := by rw [RD]
theorem rd_int {K : PySem.W.Frag} {φ : Al} {H : Hp} {b : Int} : RD K φ H (.int b) (.int b) := by rw [RD]
theorem rd_str {K : PySem.W.Frag} {φ : Al} {H : Hp} {b : Str} : RD K φ H (.str b) (.str b) := by rw [RD]
theorem rd_non {K : PySem.W.Frag} {φ : Al} {H : Hp} : RD K φ H .non .non := by rw [RD]
theorem de_one {op} (h : DE F W a ta) : DE F W (.BoolOp op [a] pos) ta := let ⟨t, p, k⟩ := h; ⟨t, fun i => pe_one (p i), k⟩
theorem de_and (ha : DE F W a ta) (hb : DE F W (.BoolOp .And (b :: rest) pos) tb) : DE F W (.BoolOp .And (a :: b :: rest) pos) (dAndV ta tb) := by
  obtain ⟨t1, p1, k1⟩ := ha
  obtain ⟨t2, p2, k2⟩ := hb
  refine ⟨_, fun i => pe_and (p1 i) (p2 i), fun σ ρ φ S H E Q' Q o q h => ?_⟩
  refine k1 σ ρ φ S H E _ _ o (fun φ1 H1 S1 d v s1 r1 rd h1 => ?_) h
  obtain ⟨k, rfl, h1⟩ := h1
  rw [RD] at rd
  refine ⟨k, rd, ?_⟩
  cases k with
  | false => rw [if_neg Bool.false_ne_true] at h1 ⊢; exact q φ1 H1 S1 _ _ s1 r1 rd_bl h1
  | true => rw [if_pos rfl] at h1 ⊢; exact k2 σ ρ φ1 S1 H1 E _ _ (o.mono s1 r1) (q.mono s1) h1
theorem de_not (ha : DE F W a ta) : DE F W (.UnaryOp .Not a pos) (dNotV ta) := by
  obtain ⟨t1, p1, k1⟩ := ha
  refine ⟨_, fun i => pe_not (p1 i), fun σ ρ φ S H E Q' Q o q h => ?_⟩
  refine k1 σ ρ φ S H E _ _ o (fun φ1 H1 S1 d v s1 r1 rd h1 => ?_) h
  obtain ⟨k, rfl, h1⟩ := h1
  rw [RD] at rd
  exact ⟨k, rd, q φ1 H1 S1 _ _ s1 r1 rd_bl h1⟩
def dIf (t : DTT) (ta tb : DTE) : DTE := fun ρ S Q E => t ρ S (fun c S1 => if c = true then ta ρ S1 Q E else tb ρ S1 Q E) E
theorem de_ifExp (hc : DT F W c uC) (ha : DE F W a ta) (hb : DE F W b tb) : DE F W (.IfExp c a b pos) (dIf uC ta tb) := by
  obtain ⟨t0, p0, k0⟩ := hc
  obtain ⟨t1, p1, k1⟩ := ha
  obtain ⟨t2, p2, k2⟩ := hb
  refine ⟨_, fun i => pe_ifExp (p0 i) (p1 i) (p2 i), fun σ ρ φ S H E Q' Q o q h => ?_⟩
  refine k0 σ ρ φ S H E _ _ o (fun φ1 H1 S1 k s1 r1 h1 => ?_) h
  cases k with
  | false => rw [if_neg Bool.false_ne_true] at h1 ⊢; exact k2 σ ρ φ1 S1 H1 E _ _ (o.mono s1 r1) (q.mono s1) h1
  | true => rw [if_pos rfl] at h1 ⊢; exact k1 σ ρ φ1 S1 H1 E _ _ (o.mono s1 r1) (q.mono s1) h1
def dTup (t : DTA) : DTE := fun ρ S Q E => t ρ S (fun ds S1 => ds.length ≤ sizeLine ∧ Q (.tup ds) S1) E
/-- a list that is never changed -/
def dLst (t : DTA) : DTE := fun ρ S Q E => t ρ S (fun ds S1 => ds.length ≤ sizeLine ∧ Q (.lst ds) S1) E
/-- a list that may be changed -/
def dNew (t : DTA) : DTE := fun ρ S Q E => t ρ S (fun ds S1 => ds.length ≤ sizeLine ∧ Q (.ref S1.length) (S1 ++ [.lst ds])) E
theorem rd_tup_new {K : PySem.W.Frag} {φ : Al} {H : Hp} {S : Store} {p : Addr} {ds : List D} {vs : List V} (r : SR K φ S H) (hp : H p = none) (rd : RDs K φ H ds vs) : RD K φ (upd H p (.tup vs)) (.tup ds) (.ref p) := by
  rw [RD]
  exact ⟨p, vs, rfl, .inl (.inl upd_same), RDs.mono (step_new hp) r.muts _ _ rd⟩
theorem rd_lst_new {K : PySem.W.Frag} {φ : Al} {H : Hp} {S : Store} {p : Addr} {ds : List D} {vs : List V} (r : SR K φ S H) (hp : H p = none) (rd : RDs K φ H ds vs) : RD K φ (upd H p (.lst vs)) (.lst ds) (.ref p) := by
  rw [RD]
  exact ⟨p, vs, rfl, ⟨upd_same, r.out hp, r.outb hp⟩, RDs.mono (step_new hp) r.muts _ _ rd⟩
/-- the ends: a new tuple, a new frozen list, a new list of the store -/
theorem EndV.tup {K : PySem.W.Frag} {φ : Al} {H : Hp} {S : Store} {Q' : QD} {Q : VK} (q : EndV K φ H Q' Q) (r : SR K φ S H) {p : Addr} {ds : List D} {vs : List V} (hp : H p = none) (rd : RDs K φ H ds vs) (h : Q' (.tup ds) S) : Q (.ref p) (upd H p (.tup vs)) :=
  q φ _ S _ _ (step_new hp) (r.new hp) (rd_tup_new r hp rd) h
theorem EndV.lst {K : PySem.W.Frag} {φ : Al} {H : Hp} {S : Store} {Q' : QD} {Q : VK} (q : EndV K φ H Q' Q) (r : SR K φ S H) {p : Addr} {ds : List D} {vs : List V} (hp : H p = none) (rd : RDs K φ H ds vs) (h : Q' (.lst ds) S) : Q (.ref p) (upd H p (.lst vs)) :=
  q φ _ S _ _ (step_new hp) (r.new hp) (rd_lst_new r hp rd) h
theorem EndV.newL {K : PySem.W.Frag} {φ : Al} {H : Hp} {S : Store} {Q' : QD} {Q : VK} (q : EndV K φ H Q' Q) (r : SR K φ S H) {p : Addr} {ds : List D} {vs : List V} (hp : H p = none) (rd : RDs K φ H ds vs) (h : Q' (.ref S.length) (S ++ [.lst ds])) : Q (.ref p) (upd H p (.lst vs)) :=
  q (φ.push p) _ _ _ _ (step_push r hp) (r.push (o := .lst ds) hp ⟨vs, upd_same, RDs.mono (step_push r hp) r.muts _ _ rd⟩) (by rw [RD]; exact ⟨p, rfl, by rw [r.len]; simp⟩) h
theorem de_tup {x1} (h : DA F W es t) : DE F W (.Tuple es x1 pos) (dTup t) := by
  obtain ⟨t1, p1, k1⟩ := h
  refine ⟨_, fun i => pe_tup (p1 i), fun σ ρ φ S H E Q' Q o q h => ?_⟩
  refine k1 σ ρ φ S H E _ _ o (fun φ1 H1 S1 ds vs s1 r1 rd h1 => ?_) h
  exact ⟨by rw [rd.length]; exact h1.1, fun p hp => (q.mono s1).tup r1 hp rd h1.2⟩
theorem de_lst (h : DA F W es t) : DE F W (.List es pos) (dLst t) := by
  obtain ⟨t1, p1, k1⟩ := h
  refine ⟨_, fun i => pe_lst (p1 i), fun σ ρ φ S H E Q' Q o q h => ?_⟩
  refine k1 σ ρ φ S H E _ _ o (fun φ1 H1 S1 ds vs s1 r1 rd h1 => ?_) h
  exact ⟨by rw [rd.length]; exact h1.1, fun p hp => (q.mono s1).lst r1 hp rd h1.2⟩
theorem de_new (h : DA F W es t) : DE F W (.List es pos) (dNew t) := by
  obtain ⟨t1, p1, k1⟩ := h
  refine ⟨_, fun i => pe_lst (p1 i), fun σ ρ φ S H E Q' Q o q h => ?_⟩
  refine k1 σ ρ φ S H E _ _ o (fun φ1 H1 S1 ds vs s1 r1 rd h1 => ?_) h
  exact ⟨by rw [rd.length]; exact h1.1, fun p hp => (q.mono s1).newL r1 hp rd h1.2⟩
end
end Dy
namespace Dy
open PySem PySem.Spec PyProof.Rows L2
def lsM (S : Store) : D → Option (List D)
  | .lst xs => some xs
  | .ref n => match S[n]? with
    | some (.lst xs) => some xs
    | _ => none
  | _ => none
def lsOf (S : Store) : D → Option (List D)
  | .lst xs => some xs
  | .frz xs => some xs
  | .ref n => match S[n]? with
    | some (.lst xs) => some xs
    | _ => none
  | _ => none
/-- a list or a tuple -/
def sqOf (S : Store) : D → Option (List D)
  | .tup xs => some xs
  | d => lsOf S d
section
variable {K : PySem.W.Frag} {φ : Al} {H : Hp} {S : Store} {d : D} {v : V} {xs : List D}
theorem rd_tup (h : RD K φ H (.tup xs) v) : ∃ a vs, v = .ref a ∧ SqT K H a vs ∧ RDs K φ H xs vs := by rw [RD] at h; exact h
theorem rd_ref {n : Nat} (h : RD K φ H (.ref n) v) : ∃ a, v = .ref a ∧ φ.l[n]? = some a := by rw [RD] at h; exact h
theorem SR.lst (r : SR K φ S H) {n : Nat} (h : RD K φ H (.ref n) v) (e : S[n]? = some (.lst xs)) : ∃ a vs, v = .ref a ∧ φ.l[n]? = some a ∧ H a = some (.lst vs) ∧ RDs K φ H xs vs := by
  obtain ⟨a, rfl, ha⟩ := rd_ref h
  obtain ⟨vs, h1, h2⟩ := r.at_ n a _ ha e
  exact ⟨a, vs, rfl, ha, h1, h2⟩
theorem ls_m (r : SR K φ S H) (rd : RD K φ H d v) (h : lsM S d = some xs) : ∃ a vs, v = .ref a ∧ H a = some (.lst vs) ∧ RDs K φ H xs vs := by
  cases d with
  | lst ys =>
    rw [RD] at rd
    obtain ⟨a, vs, rfl, h1, h2⟩ := rd
    cases h
    exact ⟨a, vs, rfl, h1.1, h2⟩
  | ref n =>
    simp only [lsM] at h
    split at h
    · rename_i ys e
      cases h
      obtain ⟨a, vs, e1, _, h1, h2⟩ := r.lst rd e
      exact ⟨a, vs, e1, h1, h2⟩
    · cases h
  | _ => cases h
theorem ls_of (r : SR K φ S H) (rd : RD K φ H d v) (h : lsOf S d = some xs) : ∃ a vs, v = .ref a ∧ SqL K H a vs ∧ RDs K φ H xs vs := by
  cases d with
  | lst ys =>
    rw [RD] at rd
    obtain ⟨a, vs, rfl, h1, h2⟩ := rd
    cases h
    exact ⟨a, vs, rfl, h1.sq, h2⟩
  | frz ys =>
    rw [RD] at rd
    obtain ⟨a, vs, rfl, h1, h2⟩ := rd
    cases h
    exact ⟨a, vs, rfl, h1.sq, h2⟩
  | ref n =>
    simp only [lsOf] at h
    split at h
    · rename_i ys e
      cases h
      obtain ⟨a, vs, e1, _, h1, h2⟩ := r.lst rd e
      exact ⟨a, vs, e1, SqL.of h1, h2⟩
    · cases h
  | _ => cases h
theorem sq_of (r : SR K φ S H) (rd : RD K φ H d v) (h : sqOf S d = some xs) : ∃ a vs, v = .ref a ∧ (SqL K H a vs ∨ SqT K H a vs) ∧ RDs K φ H xs vs := by
  unfold sqOf at h
  split at h
  · cases h
    obtain ⟨a, vs, e, h1, h2⟩ := rd_tup rd
    exact ⟨a, vs, e, .inr h1, h2⟩
  · obtain ⟨a, vs, e, h1, h2⟩ := ls_of r rd h
    exact ⟨a, vs, e, .inl h1, h2⟩
end
def dI0 (g : Int → Int → D) : D2 := fun x y S Q => ∃ i j, x = .int i ∧ y = .int j ∧ Q (g i j) S
def dI (C : Int → Int → Prop) (g : Int → Int → D) : D2 := fun x y S Q => ∃ i j, x = .int i ∧ y = .int j ∧ C i j ∧ Q (g i j) S
theorem lk_I0 {K : PySem.W.Frag} {g : Int → Int → D} {g' : Int → Int → V} (hg : ∀ i j, Flat (g i j) (g' i j)) : Lk K (dI0 g) (rI0 g') := by
  rintro φ S H Q' Q d1 d2 v1 v2 r r1 r2 q ⟨i, j, rfl, rfl, h⟩
  rw [RD] at r1 r2
  exact ⟨i, j, r1, r2, q φ H S _ _ .refl r (hg i j).rd h⟩
theorem lk_I {K : PySem.W.Frag} {C : Int → Int → Prop} {g : Int → Int → D} {g' : Int → Int → V} (hg : ∀ i j, Flat (g i j) (g' i j)) : Lk K (dI C g) (rI C g') := by
  rintro φ S H Q' Q d1 d2 v1 v2 r r1 r2 q ⟨i, j, rfl, rfl, c, h⟩
  rw [RD] at r1 r2
  exact ⟨i, j, r1, r2, c, q φ H S _ _ .refl r (hg i j).rd h⟩
theorem Lk.or {K : PySem.W.Frag} {a b : D2} {r s : R2} (h : Lk K a r) (k : Lk K b s) : Lk K (fun x y S Q => a x y S Q ∨ b x y S Q) (fun x y H Q => r x y H Q ∨ s x y H Q) := by
  rintro φ S H Q' Q d1 d2 v1 v2 r r1 r2 q (z | z)
  · exact .inl (h _ _ _ _ _ _ _ _ _ r r1 r2 q z)
  · exact .inr (k _ _ _ _ _ _ _ _ _ r r1 r2 q z)
def dAddS : D2 := fun x y S Q => ∃ i j, x = .str i ∧ y = .str j ∧ i.length + j.length ≤ sizeLine ∧ Q (.str (i ++ j)) S
def dAddT : D2 := fun x y S Q => ∃ xs ys, x = .tup xs ∧ y = .tup ys ∧ xs.length + ys.length ≤ sizeLine ∧ Q (.tup (xs ++ ys)) S
/-- two lists: a new one that is not changed any more | one of the store -/
def dCat : D2 := fun x y S Q => ∃ xs ys, lsM S x = some xs ∧ lsM S y = some ys ∧ xs.length + ys.length ≤ sizeLine ∧ Q (.lst (xs ++ ys)) S
def dRepT : D2 := fun x y S Q => ∃ xs k, x = .tup xs ∧ y = .int k ∧ xs ≠ [] ∧ 2 ≤ k ∧ k ≤ 1000 ∧ xs.length ≤ 1000 ∧ Q (.tup (List.replicate k.toNat xs).flatten) S
section
variable {K : PySem.W.Frag}
theorem lk_addS : Lk K dAddS (fun x y H Q => ∃ i j, x = .str i ∧ y = .str j ∧ i.length + j.length ≤ sizeLine ∧ Q (.str (i ++ j)) H) := by
  rintro φ S H Q' Q d1 d2 v1 v2 r r1 r2 q ⟨i, j, rfl, rfl, c, h⟩
  rw [RD] at r1 r2
  exact ⟨i, j, r1, r2, c, q φ H S _ _ .refl r rd_str h⟩
theorem RDs.ne_nil {φ : Al} {H : Hp} {xs : List D} {vs : List V} (h : RDs K φ H xs vs) : vs = [] ↔ xs = [] := by
  constructor
  · intro e
    have := h.length
    rw [e] at this
    exact List.length_eq_zero_iff.mp this.symm
  · intro e
    rw [e, RDs] at h; exact h
theorem lk_addT : Lk K dAddT (rCatA K) := by
  rintro φ S H Q' Q d1 d2 v1 v2 r r1 r2 q ⟨xs, ys, rfl, rfl, c, h⟩
  obtain ⟨a, vs, rfl, h1, h2⟩ := rd_tup r1
  obtain ⟨b, ws, rfl, k1, k2⟩ := rd_tup r2
  refine ⟨a, b, vs, ws, rfl, rfl, h1, k1, by rw [h2.length, k2.length]; exact c, fun e => ?_, fun _ e => ?_, fun _ _ p hp => ?_⟩
  · have e' := h2.ne_nil.mp e
    subst e'
    exact q φ H S _ _ .refl r r2 h
  · have e' := k2.ne_nil.mp e
    subst e'
    rw [List.append_nil] at h
    exact q φ H S _ _ .refl r r1 h
  · exact q.tup r hp (h2.append k2) h
theorem lk_cat : Lk K dCat rCat := by
  rintro φ S H Q' Q d1 d2 v1 v2 r r1 r2 q ⟨xs, ys, e1, e2, c, h⟩
  obtain ⟨a, vs, rfl, h1, h2⟩ := ls_m r r1 e1
  obtain ⟨b, ws, rfl, k1, k2⟩ := ls_m r r2 e2
  exact ⟨a, b, vs, ws, rfl, rfl, h1, k1, by rw [h2.length, k2.length]; exact c, fun p hp => q.lst r hp (h2.append k2) h⟩
theorem RDs.rep {φ : Al} {H : Hp} {xs : List D} {vs : List V} (h : RDs K φ H xs vs) : ∀ k : Nat, RDs K φ H (List.replicate k xs).flatten (List.replicate k vs).flatten
  | 0 => .nil
  | k + 1 => by
    rw [List.replicate_succ, List.replicate_succ, List.flatten_cons, List.flatten_cons]
    exact h.append (RDs.rep h k)
theorem lk_repT : Lk K dRepT (rRepT K) := by
  rintro φ S H Q' Q d1 d2 v1 v2 r r1 r2 q ⟨xs, k, rfl, rfl, ne, c1, c2, c3, h⟩
  obtain ⟨a, vs, rfl, h1, h2⟩ := rd_tup r1
  rw [RD] at r2
  subst r2
  exact ⟨a, k, vs, rfl, rfl, h1, fun e => ne (h2.ne_nil.mp e), c1, c2, by rw [h2.length]; exact c3, fun p hp => q.tup r hp (h2.rep _) h⟩
/-- + of ints, texts, tuples -/
def dAdd : D2 := fun x y S Q => match x, y with
  | .int i, .int j => Q (.int (i + j)) S
  | .str i, .str j => i.length + j.length ≤ sizeLine ∧ Q (.str (i ++ j)) S
  | .tup xs, .tup ys => xs.length + ys.length ≤ sizeLine ∧ Q (.tup (xs ++ ys)) S
  | _, _ => False
theorem op_addA {X : Cx} : OpR X (binaryOp .Add) (fun x y H Q => rI0 (fun i j => .int (i + j)) x y H Q ∨ (∃ i j, x = .str i ∧ y = .str j ∧ i.length + j.length ≤ sizeLine ∧ Q (.str (i ++ j)) H) ∨ rCatA X.K x y H Q) :=
  OpR.or op_add (OpR.or op_add_str op_catA)
theorem lk_add : Lk K dAdd (fun x y H Q => rI0 (fun i j => .int (i + j)) x y H Q ∨ (∃ i j, x = .str i ∧ y = .str j ∧ i.length + j.length ≤ sizeLine ∧ Q (.str (i ++ j)) H) ∨ rCatA K x y H Q) := by
  intro φ S H Q' Q x y v1 v2 r r1 r2 q h
  unfold dAdd at h
  split at h
  · exact .inl (lk_I0 (g := fun i j => .int (i + j)) (fun _ _ => rfl) φ S H Q' Q _ _ v1 v2 r r1 r2 q ⟨_, _, rfl, rfl, h⟩)
  · exact .inr (.inl (lk_addS φ S H Q' Q _ _ v1 v2 r r1 r2 q ⟨_, _, rfl, rfl, h⟩))
  · exact .inr (.inr (lk_addT φ S H Q' Q _ _ v1 v2 r r1 r2 q ⟨_, _, rfl, rfl, h⟩))
  · exact h.elim
end
section
variable {F : Fam} {W : WX} {a b c e : Expr} {es rest : List Expr} {pos : Pos} {ta tb tc te : DTE} {uA uB uC : DTT} {t : DTA}
theorem de_add (ha : DE F W a ta) (hb : DE F W b tb) : DE F W (.BinOp a .Add b pos) (dOp dAdd ta tb) := de_op (fun i => F.hK i ▸ op_addA) lk_add ha hb
theorem de_cat (ha : DE F W a ta) (hb : DE F W b tb) : DE F W (.BinOp a .Add b pos) (dOp dCat ta tb) := de_op (fun _ => op_cat) lk_cat ha hb
theorem de_sub (ha : DE F W a ta) (hb : DE F W b tb) : DE F W (.BinOp a .Sub b pos) (dOp (dI0 fun i j => .int (i - j)) ta tb) := de_op (fun _ => op_sub) (lk_I0 fun _ _ => rfl) ha hb
/-- one factor small, or both not too great -/
def CMulA (i j : Int) : Prop := CMul i j ∨ CMulW i j
theorem op_mulA {X : Cx} : OpR X (binaryOp .Mult) (rI CMulA fun i j => .int (i * j)) := by
  intro pins s σ H x y v u Q I rx ry h
  obtain ⟨i, j, e1, e2, c, q⟩ := h
  rcases c with c | c
  · exact op_mul pins s σ H x y v u Q I rx ry ⟨i, j, e1, e2, c, q⟩
  · exact op_mulW pins s σ H x y v u Q I rx ry ⟨i, j, e1, e2, c, q⟩
theorem de_mul (ha : DE F W a ta) (hb : DE F W b tb) : DE F W (.BinOp a .Mult b pos) (dOp (dI CMulA fun i j => .int (i * j)) ta tb) := de_op (fun _ => op_mulA) (lk_I fun _ _ => rfl) ha hb
theorem de_repT (ha : DE F W a ta) (hb : DE F W b tb) : DE F W (.BinOp a .Mult b pos) (dOp dRepT ta tb) := de_op (fun i => F.hK i ▸ op_repT) lk_repT ha hb
theorem de_fdiv (ha : DE F W a ta) (hb : DE F W b tb) : DE F W (.BinOp a .FloorDiv b pos) (dOp (dI CDivW fun i j => .int (i / j)) ta tb) := de_op (fun _ => op_fdivW) (lk_I fun _ _ => rfl) ha hb
theorem de_mod (ha : DE F W a ta) (hb : DE F W b tb) : DE F W (.BinOp a .Mod b pos) (dOp (dI (fun _ j => 0 < j) fun i j => .int (i % j)) ta tb) := de_op (fun _ => op_mod) (lk_I fun _ _ => rfl) ha hb
theorem de_pow (ha : DE F W a ta) (hb : DE F W b tb) : DE F W (.BinOp a .Pow b pos) (dOp (dI CPow fun i j => .int (i ^ j.toNat)) ta tb) := de_op (fun _ => op_pow) (lk_I fun _ _ => rfl) ha hb
def dNeg : D → Store → QD → Prop := fun x S Q => ∃ i, x = .int i ∧ Q (.int (-i)) S
abbrev dLt : D2 := dI0 fun i j => .bl (decide (i < j))
abbrev dLe : D2 := dI0 fun i j => .bl (decide (i ≤ j))
abbrev dGt : D2 := dI0 fun i j => .bl (decide (j < i))
abbrev dGe : D2 := dI0 fun i j => .bl (decide (j ≤ i))
theorem lk_lt {K : PySem.W.Frag} : Lk K dLt (rI0 fun i j => .bl (decide (i < j))) := lk_I0 fun _ _ => rfl
theorem lk_le {K : PySem.W.Frag} : Lk K dLe (rI0 fun i j => .bl (decide (i ≤ j))) := lk_I0 fun _ _ => rfl
theorem lk_gt {K : PySem.W.Frag} : Lk K dGt (rI0 fun i j => .bl (decide (j < i))) := lk_I0 fun _ _ => rfl
theorem lk_ge {K : PySem.W.Frag} : Lk K dGe (rI0 fun i j => .bl (decide (j ≤ i))) := lk_I0 fun _ _ => rfl
/-- is None, is not None -/
def isN : D → Bool
  | .non => true
  | _ => false
theorem isN_eq {K : PySem.W.Frag} {φ : Al} {H : Hp} {d : D} {v : V} (h : RD K φ H d v) : decide (v = .non) = isN d := by
  cases d <;> rw [RD] at h
  case non => rw [h]; rfl
  case tup => obtain ⟨a, _, e, _⟩ := h; rw [e]; rfl
  case lst => obtain ⟨a, _, e, _⟩ := h; rw [e]; rfl
  case frz => obtain ⟨a, _, e, _⟩ := h; rw [e]; rfl
  case dic => obtain ⟨a, _, e, _⟩ := h; rw [e]; rfl
  case ref => obtain ⟨a, e, _⟩ := h; rw [e]; rfl
  case exo => obtain ⟨_, e, _⟩ := h; rw [e]; rfl
  all_goals (rw [h]; rfl)
def dIsN : D2 := fun x y S Q => y = .non ∧ Q (.bl (isN x)) S
def dNotN : D2 := fun x y S Q => y = .non ∧ Q (.bl (!isN x)) S
theorem lk_isN {K : PySem.W.Frag} : Lk K dIsN (fun x y H Q => y = .non ∧ Q (.bl (decide (x = .non))) H) := by
  rintro φ S H Q' Q d1 d2 v1 v2 r r1 r2 q ⟨rfl, h⟩
  rw [isN_eq r1]
  rw [RD] at r2
  exact ⟨r2, q φ H S _ _ .refl r rd_bl h⟩
theorem lk_notN {K : PySem.W.Frag} : Lk K dNotN (fun x y H Q => y = .non ∧ Q (.bl (!decide (x = .non))) H) := by
  rintro φ S H Q' Q d1 d2 v1 v2 r r1 r2 q ⟨rfl, h⟩
  rw [isN_eq r1]
  rw [RD] at r2
  exact ⟨r2, q φ H S _ _ .refl r rd_bl h⟩
def dChain (r r' : D2) (ta tb tc : DTE) : DTE := fun ρ S Q E => ta ρ S (fun x S1 => tb ρ S1 (fun y S2 => r x y S2 fun z S3 => ∃ k, z = .bl k ∧ (if k = true then tc ρ S3 (fun w S4 => r' y w S4 Q) E else Q (.bl false) S3)) E) E
theorem de_chain {op op' : CmpOp} {r r' : R2} {s s' : D2} (ho : ∀ i, OpR (F.X i) (compareOp op) r) (ho' : ∀ i, OpR (F.X i) (compareOp op') r') (l : Lk F.K s r) (l' : Lk F.K s' r') (ha : DE F W a ta) (hb : DE F W b tb) (hc : DE F W c tc)
    (hm : lastMarks [op, op'] [b, c] = false := by with_unfolding_all rfl) : DE F W (.Compare a [op, op'] [b, c] pos) (dChain s s' ta tb tc) := by
  obtain ⟨t1, p1, k1⟩ := ha
  obtain ⟨t2, p2, k2⟩ := hb
  obtain ⟨t3, p3, k3⟩ := hc
  refine ⟨_, fun i => pe_chain (ho i) (ho' i) (p1 i) (p2 i) (p3 i) hm, fun σ ρ φ S H E Q' Q o q h => ?_⟩
  refine k1 σ ρ φ S H E _ _ o (fun φ1 H1 S1 d v s1 r1 rd h1 => ?_) h
  refine k2 σ ρ φ1 S1 H1 E _ _ (o.mono s1 r1) (fun φ2 H2 S2 d2 v2 s2 r2 rd2 h2 => ?_) h1
  refine l φ2 S2 H2 _ _ d d2 v v2 r2 (RD.mono s2 r1.muts _ _ rd) rd2 (fun φ3 H3 S3 d3 v3 s3 r3 rd3 h3 => ?_) h2
  obtain ⟨k, rfl, h4⟩ := h3
  rw [RD] at rd3
  refine ⟨k, rd3, ?_⟩
  have s13 := (s1.trans s2).trans s3
  cases k with
  | false => rw [if_neg Bool.false_ne_true] at h4 ⊢; exact q φ3 H3 S3 _ _ s13 r3 rd_bl h4
  | true =>
    rw [if_pos rfl] at h4 ⊢
    refine k3 σ ρ φ3 S3 H3 E _ _ (o.mono s13 r3) (fun φ4 H4 S4 d4 v4 s4 r4 rd4 h5 => ?_) h4
    exact l' φ4 S4 H4 _ _ d2 d4 v2 v4 r4 (RD.mono (s3.trans s4) r2.muts _ _ rd2) rd4 (q.mono (s13.trans s4)) h5
theorem dt_chain {op op' : CmpOp} {r r' : R2} {s s' : D2} (ho : ∀ i, OpR (F.X i) (compareOp op) r) (ho' : ∀ i, OpR (F.X i) (compareOp op') r') (l : Lk F.K s r) (l' : Lk F.K s' r') (ha : DE F W a ta) (hb : DE F W b tb) (hc : DE F W c tc)
    (hm : lastMarks [op, op'] [b, c] = false := by with_unfolding_all rfl) : DT F W (.Compare a [op, op'] [b, c] pos) (dTest (dChain s s' ta tb tc)) := by
  obtain ⟨t1, p1, k1⟩ := ha
  obtain ⟨t2, p2, k2⟩ := hb
  obtain ⟨t3, p3, k3⟩ := hc
  refine ⟨_, fun i => pt_chain (ho i) (ho' i) (p1 i) (p2 i) (p3 i) hm, fun σ ρ φ S H E Q' Q o q h => ?_⟩
  refine k1 σ ρ φ S H E _ _ o (fun φ1 H1 S1 d v s1 r1 rd h1 => ?_) h
  refine k2 σ ρ φ1 S1 H1 E _ _ (o.mono s1 r1) (fun φ2 H2 S2 d2 v2 s2 r2 rd2 h2 => ?_) h1
  refine l φ2 S2 H2 _ _ d d2 v v2 r2 (RD.mono s2 r1.muts _ _ rd) rd2 (fun φ3 H3 S3 d3 v3 s3 r3 rd3 h3 => ?_) h2
  obtain ⟨k, rfl, h4⟩ := h3
  rw [RD] at rd3
  refine ⟨k, rd3, ?_⟩
  have s13 := (s1.trans s2).trans s3
  cases k with
  | false =>
    rw [if_neg Bool.false_ne_true] at h4 ⊢
    obtain ⟨k, e, h4⟩ := h4
    cases e
    exact ⟨_, rfl, q φ3 H3 S3 _ s13 r3 h4⟩
  | true =>
    rw [if_pos rfl] at h4 ⊢
    refine k3 σ ρ φ3 S3 H3 E _ _ (o.mono s13 r3) (fun φ4 H4 S4 d4 v4 s4 r4 rd4 h5 => ?_) h4
    refine l' φ4 S4 H4 _ _ d2 d4 v2 v4 r4 (RD.mono (s3.trans s4) r2.muts _ _ rd2) rd4 (fun φ5 H5 S5 d5 v5 s5 r5 rd5 h6 => ?_) h5
    obtain ⟨k, rfl, h7⟩ := h6
    rw [RD] at rd5
    exact ⟨k, rd5, q φ5 H5 S5 _ ((s13.trans s4).trans s5) r5 h7⟩
def dIx : D2 := fun x y S Q => ∃ xs i v, sqOf S x = some xs ∧ y = .int i ∧ atI xs i = some v ∧ Q v S
theorem at_rd {K : PySem.W.Frag} {φ : Al} {H : Hp} {xs : List D} {vs : List V} {i : Int} {d : D} (h : RDs K φ H xs vs) (e : atI xs i = some d) : ∃ v, atI vs i = some v ∧ RD K φ H d v := by
  unfold atI at e ⊢
  rw [h.length]
  cases q : ixN xs.length i with
  | none => rw [q] at e; cases e
  | some j =>
    rw [q] at e
    obtain ⟨v, e1, e2⟩ := h.get (i := j) e
    exact ⟨v, e1, e2⟩
theorem lk_ix {K : PySem.W.Frag} : Lk K dIx (rIx K) := by
  rintro φ S H Q' Q d1 d2 v1 v2 r r1 r2 q ⟨xs, i, d, e, rfl, e2, h⟩
  obtain ⟨a, vs, rfl, h1, h2⟩ := sq_of r r1 e
  rw [RD] at r2
  subst r2
  obtain ⟨v, e3, rd⟩ := at_rd h2 e2
  rcases h1 with h1 | h1
  · exact .inl ⟨a, vs, i, v, rfl, rfl, h1, e3, q φ H S _ _ .refl r rd h⟩
  · exact .inr (.inl ⟨a, vs, i, v, rfl, rfl, h1, e3, q φ H S _ _ .refl r rd h⟩)
theorem de_at (ha : DE F W a ta) (hb : DE F W b tb) (hs : PlainIx b := by exact fun _ _ => rfl) : DE F W (.Subscript a b pos) (dOp dIx ta tb) := de_ix (fun i => F.hK i ▸ ix_seq) lk_ix ha hb hs
abbrev DTO := Rho → Store → (Option Int → Store → Prop) → XQ → Prop
def EndO (K : PySem.W.Frag) (φ : Al) (H : Hp) (Q' : Option Int → Store → Prop) (Q : Option Int → Hp → Prop) : Prop :=
  ∀ φ' H' S' b, Step φ φ' H H' → SR K φ' S' H' → Q' b S' → Q b H'
def DO (F : Fam) (W : WX) (e : Option Expr) (t' : DTO) : Prop :=
  ∃ t : TO, (∀ i, PO (F.X i) e t) ∧ ∀ σ ρ φ S H E Q' Q, Ok F.K W σ ρ φ S H E → EndO F.K φ H Q' Q → t' ρ S Q' E → t σ H Q
def dNoPart : DTO := fun _ S Q _ => Q none S
def dPart (te : DTE) : DTO := fun ρ S Q E => te ρ S (fun d S1 => ∃ i, d = .int i ∧ Q (some i) S1) E
theorem do_none : DO F W none dNoPart := ⟨_, fun _ => po_none, fun σ ρ φ S H E Q' Q o q h => q φ H S _ .refl o.sr h⟩
theorem do_some (h : DE F W e te) : DO F W (some e) (dPart te) := by
  obtain ⟨t1, p1, k1⟩ := h
  refine ⟨_, fun i => po_some (p1 i), fun σ ρ φ S H E Q' Q o q h => ?_⟩
  refine k1 σ ρ φ S H E _ _ o (fun φ1 H1 S1 d v s1 r1 rd h1 => ?_) h
  obtain ⟨i, rfl, h2⟩ := h1
  rw [RD] at rd
  exact ⟨i, rd, q φ1 H1 S1 _ s1 r1 h2⟩
def cutD (xs : List D) (lo hi : Option Int) : List D := (xs.drop (HT.sIx xs.length 0 lo)).take (HT.sIx xs.length xs.length hi - HT.sIx xs.length 0 lo)
theorem cut_rd {K : PySem.W.Frag} {φ : Al} {H : Hp} {xs : List D} {vs : List V} (h : RDs K φ H xs vs) (lo hi : Option Int) : RDs K φ H (cutD xs lo hi) (cutV vs lo hi) := by
  unfold cutD cutV
  rw [h.length]
  exact (h.drop _).take _
def dSl (r : D → Option Int → Option Int → Store → QD → Prop) (te : DTE) (tl th : DTO) : DTE := fun ρ S Q E => te ρ S (fun x S1 => tl ρ S1 (fun l S2 => th ρ S2 (fun u S3 => r x l u S3 Q) E) E) E
/-- of a tuple; of a list: a new one that is not changed any more -/
def dSlT : D → Option Int → Option Int → Store → QD → Prop := fun x lo hi S Q => ∃ xs, x = .tup xs ∧ Q (.tup (cutD xs lo hi)) S
def dSlL : D → Option Int → Option Int → Store → QD → Prop := fun x lo hi S Q => ∃ xs, lsOf S x = some xs ∧ Q (.lst (cutD xs lo hi)) S
theorem sl_whole {xs : List D} {lo hi : Option Int} (h : HT.sIx xs.length 0 lo = 0 ∧ HT.sIx xs.length xs.length hi = xs.length) : cutD xs lo hi = xs := by
  unfold cutD
  rw [h.1, h.2]
  simp
theorem de_sl {r : V → Option Int → Option Int → Hp → VK → Prop} {r' : D → Option Int → Option Int → Store → QD → Prop} {l u : Option Expr} {tl th : DTO} {p2 : Pos} (hr : ∀ i, SlR (F.X i) r)
    (lk : ∀ φ S H Q' Q d v lo hi, SR F.K φ S H → RD F.K φ H d v → EndV F.K φ H Q' Q → r' d lo hi S Q' → r v lo hi H Q) (he : DE F W e te) (hl : DO F W l tl) (hu : DO F W u th) : DE F W (.Subscript e (.Slice l u none p2) pos) (dSl r' te tl th) := by
  obtain ⟨t1, p1, k1⟩ := he
  obtain ⟨t2, p2, k2⟩ := hl
  obtain ⟨t3, p3, k3⟩ := hu
  refine ⟨_, fun i => pe_slice (hr i) (p1 i) (p2 i) (p3 i), fun σ ρ φ S H E Q' Q o q h => ?_⟩
  refine k1 σ ρ φ S H E _ _ o (fun φ1 H1 S1 d v s1 r1 rd h1 => ?_) h
  refine k2 σ ρ φ1 S1 H1 E _ _ (o.mono s1 r1) (fun φ2 H2 S2 lo s2 r2 h2 => ?_) h1
  refine k3 σ ρ φ2 S2 H2 E _ _ (o.mono (s1.trans s2) r2) (fun φ3 H3 S3 hi s3 r3 h3 => ?_) h2
  exact lk φ3 S3 H3 _ _ d v lo hi r3 (RD.mono (s2.trans s3) r1.muts _ _ rd) (q.mono ((s1.trans s2).trans s3)) h3
theorem de_slT {l u : Option Expr} {tl th : DTO} {p2 : Pos} (he : DE F W e te) (hl : DO F W l tl) (hu : DO F W u th) : DE F W (.Subscript e (.Slice l u none p2) pos) (dSl dSlT te tl th) := by
  refine de_sl (fun i => F.hK i ▸ sl_tupA) ?_ he hl hu
  rintro φ S H Q' Q d v lo hi r rd q ⟨xs, rfl, h⟩
  obtain ⟨a, vs, rfl, h1, h2⟩ := rd_tup rd
  refine ⟨a, vs, rfl, h1, fun w => ?_, fun _ p hp => q.tup r hp (cut_rd h2 lo hi) h⟩
  rw [h2.length] at w
  rw [sl_whole w] at h
  exact q φ H S _ _ .refl r rd h
theorem de_slL {l u : Option Expr} {tl th : DTO} {p2 : Pos} (he : DE F W e te) (hl : DO F W l tl) (hu : DO F W u th) : DE F W (.Subscript e (.Slice l u none p2) pos) (dSl dSlL te tl th) := by
  refine de_sl (fun i => F.hK i ▸ sl_list) ?_ he hl hu
  rintro φ S H Q' Q d v lo hi r rd q ⟨xs, e, h⟩
  obtain ⟨a, vs, rfl, h1, h2⟩ := ls_of r rd e
  exact ⟨a, vs, rfl, h1, fun p hp => q.lst r hp (cut_rd h2 lo hi) h⟩
abbrev DR := List D → Store → QD → Prop
def LkC (K : PySem.W.Frag) (r' : DR) (r : List V → Hp → VK → Prop) : Prop := ∀ φ S H Q' Q ds vs, SR K φ S H → RDs K φ H ds vs → EndV K φ H Q' Q → r' ds S Q' → r vs H Q
def dCB (r : DR) (t : DTA) : DTE := fun ρ S Q E => t ρ S (fun ds S1 => r ds S1 Q) E
theorem de_callB {x : Str} {p : Pos} {id : String} {r : List V → Hp → VK → Prop} {r' : DR} (hc : ∀ i, CallR (F.X i) (.builtin id) r) (l : LkC F.K r' r) (hg : ∀ i, Gl (F.X i) x) (hm : ∀ i, (F.X i).mg x = none) (hv : bootBuiltins x = some (.builtin id)) (ha : DA F W (e :: es) t) (hn : x ≠ "__name__" := by decide) (hdb : (x == ("__debug__" : Str)) = false := by decide)
    (he : ∀ i, starEach (e :: es) (F.X i).env = (false, eval e (F.X i).env) :: starEach es (F.X i).env := by intro _; rfl) (hpl : ∀ i, (backTo pos (starEach es (F.X i).env)).any (·.1) = false := by intro _; rfl) : DE F W (.Call (.Name x p) (e :: es) [] pos) (dCB r' t) := by
  obtain ⟨t1, p1, k1⟩ := ha
  refine ⟨_, fun i => pe_callB (hc i) (hg i) (hm i) hv (p1 i) hn hdb (he i) (hpl i), fun σ ρ φ S H E Q' Q o q h => ?_⟩
  exact k1 σ ρ φ S H E _ _ o (fun φ1 H1 S1 ds vs s1 r1 rd h1 => l φ1 S1 H1 _ _ ds vs r1 rd (q.mono s1) h1) h
theorem de_callTy {x : Str} {p : Pos} {T : String} {r : List V → Hp → VK → Prop} {r' : DR} (hc : ∀ i, CallR (F.X i) (.type T) r) (l : LkC F.K r' r) (hg : ∀ i, Gl (F.X i) x) (hm : ∀ i, (F.X i).mg x = none) (hv : bootBuiltins x = some (.type T)) (ha : DA F W (e :: es) t) (hn : x ≠ "__name__" := by decide) (hdb : (x == ("__debug__" : Str)) = false := by decide)
    (he : ∀ i, starEach (e :: es) (F.X i).env = (false, eval e (F.X i).env) :: starEach es (F.X i).env := by intro _; rfl) (hpl : ∀ i, (backTo pos (starEach es (F.X i).env)).any (·.1) = false := by intro _; rfl) : DE F W (.Call (.Name x p) (e :: es) [] pos) (dCB r' t) := by
  obtain ⟨t1, p1, k1⟩ := ha
  refine ⟨_, fun i => pe_callTy (hc i) (hg i) (hm i) hv (p1 i) hn hdb (he i) (hpl i), fun σ ρ φ S H E Q' Q o q h => ?_⟩
  exact k1 σ ρ φ S H E _ _ o (fun φ1 H1 S1 ds vs s1 r1 rd h1 => l φ1 S1 H1 _ _ ds vs r1 rd (q.mono s1) h1) h
section
variable {K : PySem.W.Frag}
theorem rds1 {φ : Al} {H : Hp} {d : D} {vs : List V} (h : RDs K φ H [d] vs) : ∃ v, vs = [v] ∧ RD K φ H d v := by
  rw [RDs] at h
  obtain ⟨v, r, rfl, h1, h2⟩ := h
  rw [RDs] at h2
  subst h2
  exact ⟨v, rfl, h1⟩
theorem rds2 {φ : Al} {H : Hp} {d c : D} {vs : List V} (h : RDs K φ H [d, c] vs) : ∃ v w, vs = [v, w] ∧ RD K φ H d v ∧ RD K φ H c w := by
  rw [RDs] at h
  obtain ⟨v, r, rfl, h1, h2⟩ := h
  obtain ⟨w, rfl, h3⟩ := rds1 h2
  exact ⟨v, w, rfl, h1, h3⟩
def cInt : DR := fun ds S Q => (∃ i, ds = [.int i] ∧ Q (.int i) S) ∨ ∃ k, ds = [.bl k] ∧ Q (.int (if k then 1 else 0)) S
theorem lk_int : LkC K cInt (fun xs H Q => (∃ i, xs = [.int i] ∧ Q (.int i) H) ∨ ∃ k, xs = [.bl k] ∧ Q (.int (if k then 1 else 0)) H) := by
  rintro φ S H Q' Q ds vs r rd q (⟨i, rfl, h⟩ | ⟨i, rfl, h⟩)
  · obtain ⟨v, rfl, h1⟩ := rds1 rd
    rw [RD] at h1
    exact .inl ⟨i, by rw [h1], q φ H S _ _ .refl r rd_int h⟩
  · obtain ⟨v, rfl, h1⟩ := rds1 rd
    rw [RD] at h1
    exact .inr ⟨i, by rw [h1], q φ H S _ _ .refl r rd_int h⟩
def cAbs : DR := fun ds S Q => ∃ i, ds = [.int i] ∧ Q (.int (if i < 0 then -i else i)) S
theorem lk_abs : LkC K cAbs (fun xs H Q => ∃ i, xs = [.int i] ∧ Q (.int (if i < 0 then -i else i)) H) := by
  rintro φ S H Q' Q ds vs r rd q ⟨i, rfl, h⟩
  obtain ⟨v, rfl, h1⟩ := rds1 rd
  rw [RD] at h1
  exact ⟨i, by rw [h1], q φ H S _ _ .refl r rd_int h⟩
def cLen : DR := fun ds S Q => ∃ d xs, ds = [d] ∧ sqOf S d = some xs ∧ Q (.int xs.length) S
theorem lk_len : LkC K cLen (fun xs H Q => ∃ p ys, xs = [.ref p] ∧ (SqL K H p ys ∨ SqT K H p ys) ∧ Q (.int ys.length) H) := by
  rintro φ S H Q' Q ds vs r rd q ⟨d, xs, rfl, e, h⟩
  obtain ⟨v, rfl, h1⟩ := rds1 rd
  obtain ⟨a, ws, rfl, h2, h3⟩ := sq_of r h1 e
  refine ⟨a, ws, rfl, h2, ?_⟩
  rw [h3.length]
  exact q φ H S _ _ .refl r rd_int h
/-- list(x): a new one, not changed any more | of the store -/
def cList : DR := fun ds S Q => ∃ d xs, ds = [d] ∧ sqOf S d = some xs ∧ Q (.lst xs) S
def cListN : DR := fun ds S Q => ∃ d xs, ds = [d] ∧ sqOf S d = some xs ∧ Q (.ref S.length) (S ++ [.lst xs])
def cTuple : DR := fun ds S Q => ∃ d xs, ds = [d] ∧ sqOf S d = some xs ∧ Q (.tup xs) S
theorem lk_tuple : LkC K cTuple (fun xs H Q => ∃ p ys, xs = [.ref p] ∧ ((SqL K H p ys ∧ ∀ l, H l = none → Q (.ref l) (upd H l (.tup ys))) ∨ (SqT K H p ys ∧ Q (.ref p) H))) := by
  rintro φ S H Q' Q ds vs r rd q ⟨d, xs, rfl, e, h⟩
  obtain ⟨v, rfl, h1⟩ := rds1 rd
  unfold sqOf at e
  split at e
  · cases e
    obtain ⟨a, ws, rfl, h2, h3⟩ := rd_tup h1
    exact ⟨a, ws, rfl, .inr ⟨h2, q φ H S _ _ .refl r h1 h⟩⟩
  · obtain ⟨a, ws, rfl, h2, h3⟩ := ls_of r h1 e
    exact ⟨a, ws, rfl, .inl ⟨h2, fun l hl => q.tup r hl h3 h⟩⟩
def cAll : DR := fun ds S Q => ∃ (d : D) (bs : List Bool), ds = [d] ∧ lsOf S d = some (bs.map D.bl) ∧ Q (.bl (bs.all id)) S
theorem lk_all : LkC K cAll (rAll K) := by
  rintro φ S H Q' Q ds vs r rd q ⟨d, bs, rfl, e, h⟩
  obtain ⟨v, rfl, h1⟩ := rds1 rd
  obtain ⟨a, ws, rfl, h2, h3⟩ := ls_of r h1 e
  have := h3.bls_inv
  subst this
  exact ⟨a, bs, rfl, h2, q φ H S _ _ .refl r rd_bl h⟩
end
end
end Dy
namespace Dy
open PySem PySem.Spec PyProof.Rows L2
structure DEnds where
  nx : Rho → Store → Prop
  rt : D → Store → Prop
  bk : Rho → Store → Prop := fun _ _ => False
  ct : Rho → Store → Prop := fun _ _ => False
  ex : Exc → Rho → Store → Prop := fun _ _ _ => False
abbrev DTS := DEnds → Rho → Store → Prop
structure Lnk (K : PySem.W.Frag) (W : WX) (φ : Al) (H : Hp) (D' : DEnds) (D : Ends) : Prop where
  nx : ∀ φ' H' S' ρ' σ', Step φ φ' H H' → SR K φ' S' H' → Sl K φ' H' ρ' σ' → D'.nx ρ' S' → D.nx σ' H'
  rt : ∀ φ' H' S' d v, Step φ φ' H H' → SR K φ' S' H' → RD K φ' H' d v → D'.rt d S' → D.rt v H'
  bk : ∀ φ' H' S' ρ' σ', Step φ φ' H H' → SR K φ' S' H' → Sl K φ' H' ρ' σ' → D'.bk ρ' S' → D.bk σ' H'
  ct : ∀ φ' H' S' ρ' σ', Step φ φ' H H' → SR K φ' S' H' → Sl K φ' H' ρ' σ' → D'.ct ρ' S' → D.ct σ' H'
  ex : ∀ φ' H' S' ρ' σ' x cls d, Step φ φ' H H' → SR K φ' S' H' → Sl K φ' H' ρ' σ' → ExR K φ' H' x cls d → D'.ex x ρ' S' → W cls d σ' H'
section
variable {K : PySem.W.Frag} {W : WX} {φ φ' : Al} {H H' : Hp} {S : Store} {ρ : Rho} {σ : L2.St} {D' : DEnds} {D : Ends}
theorem Lnk.mono (l : Lnk K W φ H D' D) (s : Step φ φ' H H') : Lnk K W φ' H' D' D :=
  ⟨fun _ _ _ _ _ t r sl h => l.nx _ _ _ _ _ (s.trans t) r sl h, fun _ _ _ _ _ t r rd h => l.rt _ _ _ _ _ (s.trans t) r rd h, fun _ _ _ _ _ t r sl h => l.bk _ _ _ _ _ (s.trans t) r sl h,
    fun _ _ _ _ _ t r sl h => l.ct _ _ _ _ _ (s.trans t) r sl h, fun _ _ _ _ _ _ _ _ t r sl x h => l.ex _ _ _ _ _ _ _ _ (s.trans t) r sl x h⟩
theorem Lnk.ok (l : Lnk K W φ H D' D) (r : SR K φ S H) (sl : Sl K φ H ρ σ) : Ok K W σ ρ φ S H (fun x S1 => D'.ex x ρ S1) :=
  ⟨r, sl, fun _ _ _ _ _ _ t r' x h => l.ex _ _ _ _ _ _ _ _ t r' (sl.mono t r.muts) x h⟩
/-- another next end -/
theorem Lnk.next (l : Lnk K W φ H D' D) {n' : Rho → Store → Prop} {n : L2.St → Hp → Prop} (h : ∀ φ' H' S' ρ' σ', Step φ φ' H H' → SR K φ' S' H' → Sl K φ' H' ρ' σ' → n' ρ' S' → n σ' H') : Lnk K W φ H { D' with nx := n' } { D with nx := n } :=
  ⟨h, l.rt, l.bk, l.ct, l.ex⟩
end
def DS (F : Fam) (W : WX) (st : Stmt) (t' : DTS) : Prop :=
  ∃ t : TS, (∀ i, PS (F.X i) st t) ∧ ∀ σ ρ φ S H D' D, SR F.K φ S H → Sl F.K φ H ρ σ → Lnk F.K W φ H D' D → t' D' ρ S → t D σ H
def DSs (F : Fam) (W : WX) (sts : List Stmt) (t' : DTS) : Prop :=
  ∃ t : TS, (∀ i, PSs (F.X i) sts t) ∧ ∀ σ ρ φ S H D' D, SR F.K φ S H → Sl F.K φ H ρ σ → Lnk F.K W φ H D' D → t' D' ρ S → t D σ H
section
variable {F : Fam} {W : WX} {a b c e : Expr} {es : List Expr} {st : Stmt} {rest sa sb : List Stmt} {pos : Pos} {te ta tb : DTE} {uC : DTT} {t : DTA} {u v w : DTS}
def dNext : DTS := fun D ρ S => D.nx ρ S
def dSeq (u v : DTS) : DTS := fun D ρ S => u { D with nx := v D } ρ S
theorem ds_nil : DSs F W [] dNext := ⟨_, fun _ => pss_nil, fun σ ρ φ S H D' D r sl l h => l.nx _ _ _ _ _ .refl r sl h⟩
theorem ds_cons (h1 : DS F W st u) (h2 : DSs F W rest v) : DSs F W (st :: rest) (dSeq u v) := by
  obtain ⟨t1, p1, k1⟩ := h1
  obtain ⟨t2, p2, k2⟩ := h2
  exact ⟨_, fun i => pss_cons (p1 i) (p2 i), fun σ ρ φ S H D' D r sl l h =>
    k1 σ ρ φ S H _ _ r sl (l.next fun φ1 H1 S1 ρ1 σ1 s r1 sl1 q => k2 σ1 ρ1 φ1 S1 H1 D' D r1 sl1 (l.mono s) q) h⟩
theorem ds_one (h : DS F W st u) : DSs F W [st] u := let ⟨t, p, k⟩ := h; ⟨t, fun i => pss_one (p i), k⟩
def dDrop (te : DTE) : DTS := fun D ρ S => te ρ S (fun _ S1 => D.nx ρ S1) (fun x S1 => D.ex x ρ S1)
theorem ds_expr (he : DE F W e te) (hs : ∀ i, swapsWith e none pos.line (F.X i).env = pure false := by intro _; rfl) : DS F W (.Expr e pos) (dDrop te) := by
  obtain ⟨t1, p1, k1⟩ := he
  exact ⟨_, fun i => ps_expr (p1 i) (hs i), fun σ ρ φ S H D' D r sl l h => k1 σ ρ φ S H _ _ _ (l.ok r sl) (fun φ1 H1 S1 d v s r1 rd q => l.nx _ _ _ _ _ s r1 (sl.mono s r.muts) q) h⟩
def dRet (te : DTE) : DTS := fun D ρ S => te ρ S D.rt (fun x S1 => D.ex x ρ S1)
theorem ds_ret (he : DE F W e te) : DS F W (.Return (some e) pos) (dRet te) := by
  obtain ⟨t1, p1, k1⟩ := he
  exact ⟨_, fun i => ps_ret (p1 i), fun σ ρ φ S H D' D r sl l h => k1 σ ρ φ S H _ _ _ (l.ok r sl) (fun φ1 H1 S1 d v s r1 rd q => l.rt _ _ _ _ _ s r1 rd q) h⟩
def dRetN : DTS := fun D _ S => D.rt .non S
def dIfS (t : DTT) (u v : DTS) : DTS := fun D ρ S => t ρ S (fun b S1 => if b = true then u D ρ S1 else v D ρ S1) (fun x S1 => D.ex x ρ S1)
theorem ds_if (hc : DT F W c uC) (ha : DSs F W sa u) (hb : DSs F W sb v) : DS F W (.If c sa sb pos) (dIfS uC u v) := by
  obtain ⟨t0, p0, k0⟩ := hc
  obtain ⟨t1, p1, k1⟩ := ha
  obtain ⟨t2, p2, k2⟩ := hb
  refine ⟨_, fun i => ps_if (p0 i) (p1 i) (p2 i), fun σ ρ φ S H D' D r sl l h => ?_⟩
  refine k0 σ ρ φ S H _ _ _ (l.ok r sl) (fun φ1 H1 S1 k s r1 q => ?_) h
  cases k with
  | false => rw [if_neg Bool.false_ne_true] at q ⊢; exact k2 σ ρ φ1 S1 H1 D' D r1 (sl.mono s r.muts) (l.mono s) q
  | true => rw [if_pos rfl] at q ⊢; exact k1 σ ρ φ1 S1 H1 D' D r1 (sl.mono s r.muts) (l.mono s) q
abbrev DTG := D → Rho → Store → (Rho → Store → Prop) → Prop
abbrev DTGs := List D → Rho → Store → (Rho → Store → Prop) → Prop
def EndG (K : PySem.W.Frag) (φ : Al) (H : Hp) (Q' : Rho → Store → Prop) (Q : L2.St → Hp → Prop) : Prop := ∀ φ' H' S' ρ' σ', Step φ φ' H H' → SR K φ' S' H' → Sl K φ' H' ρ' σ' → Q' ρ' S' → Q σ' H'
def DG (F : Fam) (target : Expr) (t' : DTG) : Prop :=
  ∃ t : TG, (∀ i, PG (F.X i) target t) ∧ ∀ σ ρ φ S H d v Q' Q, SR F.K φ S H → Sl F.K φ H ρ σ → RD F.K φ H d v → EndG F.K φ H Q' Q → t' d ρ S Q' → t v σ H Q
def DGs (F : Fam) (ts : List Expr) (t' : DTGs) : Prop :=
  ∃ t : TGs, (∀ i, PGs (F.X i) ts t) ∧ ∀ σ ρ φ S H ds vs Q' Q, SR F.K φ S H → Sl F.K φ H ρ σ → RDs F.K φ H ds vs → EndG F.K φ H Q' Q → t' ds ρ S Q' → t vs σ H Q
def eName (i : Nat) : DTG := fun d ρ S Q => Q (ρ.set i (some d)) S
theorem dg_name (i : Nat) {x : Str} (hN : ∀ j, (F.X j).N.Nodup) (hi : ∀ j, (F.X j).N[i]? = some x := by intro _; rfl) (hx : ∀ j, Loc (F.X j).env.scope x := by intro _; first | exact Or.inl rfl | exact Or.inr rfl) (hf : ∀ j, (F.X j).fn x = true ∨ (F.X j).env.scope.names.lookup x = some .local := by intro _; first | exact .inl rfl | exact .inr rfl) : DG F (.Name x pos) (eName i) :=
  ⟨_, fun j => pg_name (hN j) (hi j) (hx j) (hf j), fun σ ρ φ S H d v Q' Q r sl rd q h => q _ _ _ _ _ .refl r (sl.set rd) h⟩
def eNil : DTGs := fun ds ρ S Q => ds = [] ∧ Q ρ S
def eCons (t : DTG) (u : DTGs) : DTGs := fun ds ρ S Q => ∃ d r, ds = d :: r ∧ t d ρ S fun ρ1 S1 => u r ρ1 S1 Q
theorem dgs_nil : DGs F [] eNil := by
  refine ⟨_, fun _ => pgs_nil, fun σ ρ φ S H ds vs Q' Q r sl rd q h => ?_⟩
  obtain ⟨rfl, h⟩ := h
  rw [RDs] at rd
  exact ⟨rd, q _ _ _ _ _ .refl r sl h⟩
theorem dgs_cons {t : DTG} {u : DTGs} (h1 : DG F e t) (h2 : DGs F es u) (hs : ∀ i, (assignEach (e :: es) (F.X i).env).map (·.2) = assign e (F.X i).env :: (assignEach es (F.X i).env).map (·.2) := by intro _; rfl) : DGs F (e :: es) (eCons t u) := by
  obtain ⟨t1, p1, k1⟩ := h1
  obtain ⟨t2, p2, k2⟩ := h2
  refine ⟨_, fun i => pgs_cons (p1 i) (p2 i) (hs i), fun σ ρ φ S H ds vs Q' Q r sl rd q h => ?_⟩
  obtain ⟨d, ds', rfl, h⟩ := h
  rw [RDs] at rd
  obtain ⟨v, vs', rfl, rd1, rd2⟩ := rd
  refine ⟨v, vs', rfl, k1 σ ρ φ S H d v _ _ r sl rd1 (fun φ1 H1 S1 ρ1 σ1 s r1 sl1 h1 => ?_) h⟩
  exact k2 σ1 ρ1 φ1 S1 H1 ds' vs' _ _ r1 sl1 (RDs.mono s r.muts _ _ rd2) (fun _ _ _ _ _ s2 r2 sl2 h2 => q _ _ _ _ _ (s.trans s2) r2 sl2 h2) h1
def eTup (n : Nat) (t : DTGs) : DTG := fun d ρ S Q => ∃ xs, d = .tup xs ∧ xs.length = n ∧ t xs ρ S Q
theorem dg_tup {k : Nat} {t : DTGs} {n : Nat} (hc : ∀ i, (F.X i).calm = true) (h : DGs F es t)
    (hn : ∀ i, (assignEach es (F.X i).env).length = n := by intro _; rfl) (hst : ∀ i, (assignEach es (F.X i).env).findIdx? (·.1) = none := by intro _; rfl) : DG F (.Tuple es k pos) (eTup n t) := by
  obtain ⟨t1, p1, k1⟩ := h
  refine ⟨_, fun i => F.hK i ▸ pg_tup (hc i) (p1 i) (hn i) (hst i), fun σ ρ φ S H d v Q' Q r sl rd q h => ?_⟩
  obtain ⟨xs, rfl, hl, h⟩ := h
  obtain ⟨a, vs, rfl, h1, h2⟩ := rd_tup rd
  exact ⟨a, vs, rfl, h1, by rw [h2.length]; exact hl, k1 σ ρ φ S H xs vs _ _ r sl h2 q h⟩
def dAsg (te : DTE) (g : DTG) : DTS := fun D ρ S => te ρ S (fun d S1 => g d ρ S1 D.nx) (fun x S1 => D.ex x ρ S1)
theorem ds_asg {tg : Expr} {g : DTG} (he : DE F W e te) (hg : DG F tg g) (hs : ∀ i, swapsWithSole [tg] e pos.line (F.X i).env = pure false := by intro _; rfl) (hw : ∀ i, swappedStores [tg] e (F.X i).env = pure none := by intro _; rfl)
    (h1 : ∀ i, (assignEach [tg] (F.X i).env).map (·.2) = [assign tg (F.X i).env] := by intro _; rfl) : DS F W (.Assign [tg] e pos) (dAsg te g) := by
  obtain ⟨t1, p1, k1⟩ := he
  obtain ⟨t2, p2, k2⟩ := hg
  exact ⟨_, fun i => ps_asg (p1 i) (p2 i) (hs i) (hw i) (h1 i), fun σ ρ φ S H D' D r sl l h => k1 σ ρ φ S H _ _ _ (l.ok r sl) (fun φ1 H1 S1 d v s r1 rd q =>
    k2 σ ρ φ1 S1 H1 d v _ _ r1 (sl.mono s r.muts) rd (fun φ2 H2 S2 ρ2 σ2 s2 r2 sl2 q2 => l.nx _ _ _ _ _ (s.trans s2) r2 sl2 q2) q) h⟩
theorem ds_set (i : Nat) {x : Str} {pos' : Pos} (hN : ∀ j, (F.X j).N.Nodup) (he : DE F W e te) (hi : ∀ j, (F.X j).N[i]? = some x := by intro _; rfl) (hx : ∀ j, Loc (F.X j).env.scope x := by intro _; first | exact Or.inl rfl | exact Or.inr rfl) (hs : ∀ j, swapsWith e (some (.Name x pos')) pos.line (F.X j).env = pure false := by intro _; rfl) (hf : ∀ j, (F.X j).fn x = true ∨ (F.X j).env.scope.names.lookup x = some .local := by intro _; first | exact .inl rfl | exact .inr rfl) :
    DS F W (.Assign [.Name x pos'] e pos) (dAsg te (eName i)) := by
  obtain ⟨t1, p1, k1⟩ := he
  exact ⟨_, fun j => ps_set (hN j) (hi j) (hx j) (p1 j) (hs j) (hf j), fun σ ρ φ S H D' D r sl l h => k1 σ ρ φ S H _ _ _ (l.ok r sl) (fun φ1 H1 S1 d v s r1 rd q => l.nx _ _ _ _ _ s r1 ((sl.mono s r.muts).set rd) q) h⟩
/-- a, b = x, y with plain local names -/
def dPar (i j : Nat) (t : DTA) : DTS := fun D ρ S => t ρ S (fun ds S1 => ∃ d c, ds = [d, c] ∧ D.nx ((ρ.set i (some d)).set j (some c)) S1) (fun x S1 => D.ex x ρ S1)
/-- x op= e, x a name -/
def dAug (i : Nat) (te : DTE) (r : D2) : DTS := fun D ρ S => ∃ x, ρ[i]? = some (some x) ∧ te ρ S (fun d S1 => r x d S1 fun z S2 => D.nx (ρ.set i (some z)) S2) (fun x S1 => D.ex x ρ S1)
/-- xs[i] = e, a list of the store -/
def dSetL (te to ti : DTE) : DTS := fun D ρ S => te ρ S (fun d S1 => to ρ S1 (fun o S2 => ti ρ S2 (fun i S3 => ∃ n xs k j, o = .ref n ∧ S3[n]? = some (.lst xs) ∧ i = .int k ∧ ixN xs.length k = some j ∧ D.nx ρ (S3.set n (.lst (xs.set j d))))
  (fun x S1 => D.ex x ρ S1)) (fun x S1 => D.ex x ρ S1)) (fun x S1 => D.ex x ρ S1)
theorem ds_setL {o i : Expr} {to ti : DTE} {p2 : Pos} (he : DE F W e te) (ho : DE F W o to) (hi : DE F W i ti) (hs : ∀ j, swapsWithSole [.Subscript o i p2] e pos.line (F.X j).env = pure false := by intro _; rfl) (hw : ∀ j, swappedStores [.Subscript o i p2] e (F.X j).env = pure none := by intro _; rfl)
    (h1 : ∀ j, (assignEach [.Subscript o i p2] (F.X j).env).map (·.2) = [assign (.Subscript o i p2) (F.X j).env] := by intro _; rfl)
    (ha : ∀ j v, assign (.Subscript o i p2) (F.X j).env v = (do
      let ov ← holding [v] (eval o (F.X j).env)
      let iv ← holding [v, ov] (eval i (F.X j).env)
      standAt p2
      holding [v, ov, iv] (setItem ov iv v)
      release [v, ov, iv] []) := by intro _ _; rfl) : DS F W (.Assign [.Subscript o i p2] e pos) (dSetL te to ti) := by
  obtain ⟨t1, p1, k1⟩ := he
  obtain ⟨t2, q2, k2⟩ := ho
  obtain ⟨t3, p3, k3⟩ := hi
  refine ⟨_, fun j => ps_asg (p1 j) (pg_sub (q2 j) (p3 j) set_list (ha j)) (hs j) (hw j) (h1 j), fun σ ρ φ S H D' D r sl l h => ?_⟩
  have o0 := l.ok r sl
  refine k1 σ ρ φ S H _ _ _ o0 (fun φ1 H1 S1 d v s1 r1 rd h1 => ?_) h
  refine k2 σ ρ φ1 S1 H1 _ _ _ (o0.mono s1 r1) (fun φ2 H2 S2 od ov s2 r2 ro h2 => ?_) h1
  refine k3 σ ρ φ2 S2 H2 _ _ _ (o0.mono (s1.trans s2) r2) (fun φ3 H3 S3 i iv s3 r3 ri h3 => ?_) h2
  obtain ⟨n, xs, k, j, rfl, e1, rfl, e2, q⟩ := h3
  obtain ⟨a, vs, e3, ha, e4, rs⟩ := r3.lst (RD.mono s3 r2.muts _ _ ro) e1
  rw [RD] at ri
  refine ⟨a, vs, k, j, e3, ri, e4, by rw [rs.length]; exact e2, ?_⟩
  have st := r3.step_put (ho := .lst (vs.set j v)) ha
  refine l.nx _ _ _ _ _ (((s1.trans s2).trans s3).trans st) (r3.put (o := .lst (xs.set j d)) ha ⟨_, upd_same, ?_⟩) (sl.mono (((s1.trans s2).trans s3).trans st) r.muts) q
  exact RDs.mono st r3.muts _ _ (rs.set j (RD.mono (s2.trans s3) r1.muts _ _ rd))
/-- J walks the items xs while live holds of the store -/
def WalkD (K : PySem.W.Frag) (J : It) (xs : List D) (live : Store → Prop) (φ : Al) (H : Hp) : Prop :=
  ∀ φ2 H2 S2 i, Step φ φ2 H H2 → SR K φ2 S2 H2 → live S2 → (xs.length = i → J.stop i H2) ∧
    (i < xs.length → J.go i H2 ∧ ∀ v H3, J.yld i H2 v H3 → ∃ d, xs[i]? = some d ∧ Step φ2 φ2 H2 H3 ∧ SR K φ2 S2 H3 ∧ RD K φ2 H3 d v)
abbrev DTI := Rho → Store → (List D → (Store → Prop) → Store → Prop) → XQ → Prop
def DI (F : Fam) (W : WX) (tg iter : Expr) (t' : DTI) : Prop :=
  ∃ wi : TI, (∀ i, PI (F.X i) tg iter wi) ∧ ∀ σ ρ φ S H E R' R, Ok F.K W σ ρ φ S H E → (∀ φ1 H1 S1 xs live J, Step φ φ1 H H1 → SR F.K φ1 S1 H1 → WalkD F.K J xs live φ1 H1 → R' xs live S1 → R J H1) → t' ρ S R' E → wi σ H R
def iSq (K : PySem.W.Frag) (tl : TE) : TI := fun σ H R => tl σ H fun x H1 => ∃ a, x = .ref a ∧ (((∃ xs, SqL K H1 a xs) ∧ R (Itl K a) H1) ∨ ((∃ xs, SqT K H1 a xs) ∧ R (Itt K a) H1))
theorem pi_sq {X : Cx} {tg l : Expr} {tl : TE} (hl : PE X l tl) : PI X tg l (iSq X.K tl) := by
  refine ⟨fun pins s σ H R I h => ?_⟩
  refine thn (hl.run pins s σ H _ I h) fun v s1 ⟨x, H1, I1, r1, q1⟩ => ?_
  obtain ⟨a, e, q⟩ := q1
  subst e
  cases r1
  rcases q with ⟨⟨xs, hq⟩, q⟩ | ⟨⟨xs, hq⟩, q⟩
  · obtain ⟨its, rv, p, hz⟩ := I1.list hq
    refine wpAny_pyIter_list p.isList ?_
    refine ⟨s1.heap.objs.size, [s1.heap.objs.size], _, _, H1, rfl, I1.kept (t' := s1.toks) fun b o e => Heap.get?_push_of_some _ e, turn_list a _, ⟨_, Heap.get?_push_size _ rfl, rfl, rfl⟩, fun b hb => ?_, q⟩
    have e : b = s1.heap.objs.size := by simpa using hb
    subst e
    exact I1.fpOk (Nat.le_refl _) (I1.hok.fresh (Nat.le_refl _))
  · obtain ⟨its, rv, p, hz⟩ := I1.tuple hq
    refine wpAny_pyIter_tuple (show s1.heap.IsTuple a its.toArray from p) ?_
    refine ⟨s1.heap.objs.size, [s1.heap.objs.size], _, _, H1, rfl, I1.kept (t' := s1.toks) fun b o e => Heap.get?_push_of_some _ e, turn_tuple a _, ⟨_, Heap.get?_push_size _ rfl, rfl, rfl⟩, fun b hb => ?_, q⟩
    have e : b = s1.heap.objs.size := by simpa using hb
    subst e
    exact I1.fpOk (Nat.le_refl _) (I1.hok.fresh (Nat.le_refl _))
/-- over a list or a tuple that stands while it is walked -/
def jSq (te : DTE) : DTI := fun ρ S R E => te ρ S (fun d S1 => ∃ xs, sqOf S1 d = some xs ∧ R xs (fun S => sqOf S d = some xs) S1) E
theorem di_sq {tg : Expr} (he : DE F W e te) : DI F W tg e (jSq te) := by
  obtain ⟨t1, p1, k1⟩ := he
  refine ⟨_, fun i => F.hK i ▸ pi_sq (p1 i), fun σ ρ φ S H E R' R o q h => ?_⟩
  refine k1 σ ρ φ S H E _ _ o (fun φ1 H1 S1 d v s1 r1 rd h1 => ?_) h
  obtain ⟨xs, e1, h1⟩ := h1
  by_cases ht : ∃ ys, d = .tup ys
  · obtain ⟨ys, rfl⟩ := ht
    cases e1
    obtain ⟨a, vs, rfl, hq, rs⟩ := rd_tup rd
    refine ⟨a, rfl, .inr ⟨⟨_, hq⟩, q φ1 H1 S1 _ _ _ s1 r1 (fun φ2 H2 S2 i s r lv => ?_) h1⟩⟩
    have hq2 := s.w.sqT r1.muts.m r1.muts.b hq
    have rs2 := RDs.mono s r1.muts _ _ rs
    refine ⟨fun hi => ⟨vs, hq2, by rw [rs.length]; exact Nat.le_of_eq hi⟩, fun hi => ?_⟩
    obtain ⟨v, ev, rv⟩ := rs2.get (List.getElem?_eq_getElem hi)
    exact ⟨⟨vs, v, hq2, ev⟩, fun u H3 hy => ⟨_, List.getElem?_eq_getElem hi, by rw [hy.1]; exact .refl, by rw [hy.1]; exact r, by
      have := hy.2 vs hq2
      rw [ev] at this; cases this
      rw [hy.1]; exact rv⟩⟩
  · have e1' : lsOf S1 d = some xs := by
      cases d <;> first | exact e1 | exact absurd ⟨_, rfl⟩ ht
    obtain ⟨a, vs, rfl, hq, rs⟩ := ls_of r1 rd e1'
    refine ⟨a, rfl, .inl ⟨⟨_, hq⟩, q φ1 H1 S1 _ _ _ s1 r1 (fun φ2 H2 S2 i s r lv => ?_) h1⟩⟩
    have lv' : lsOf S2 d = some xs := by
      cases d <;> first | exact lv | exact absurd ⟨_, rfl⟩ ht
    obtain ⟨b, ws, eb, hq2, rs2⟩ := ls_of r (RD.mono s r1.muts _ _ rd) lv'
    cases eb
    refine ⟨fun hi => ⟨ws, hq2, by rw [rs2.length]; exact Nat.le_of_eq hi⟩, fun hi => ?_⟩
    obtain ⟨v, ev, rv⟩ := rs2.get (List.getElem?_eq_getElem hi)
    exact ⟨⟨ws, v, hq2, ev⟩, fun u H3 hy => ⟨_, List.getElem?_eq_getElem hi, by rw [hy.1]; exact .refl, by rw [hy.1]; exact r, by
      have := hy.2 ws hq2
      rw [ev] at this; cases this
      rw [hy.1]; exact rv⟩⟩
def rngD (lo : Int) (n : Nat) : List D := (List.range n).map fun (k : Nat) => D.int (lo + (k : Int))
theorem rngD_length (lo : Int) (n : Nat) : (rngD lo n).length = n := by simp [rngD]
theorem rngD_get {lo : Int} {n i : Nat} (h : i < n) : (rngD lo n)[i]? = some (.int (lo + (i : Int))) := by
  unfold rngD
  rw [List.getElem?_map, List.getElem?_range h]; rfl
def jRng1 (t : DTA) : DTI := fun ρ S R E => t ρ S (fun ds S1 => ∃ j : Int, ds = [.int j] ∧ -(2 ^ 62) ≤ j ∧ j < 2 ^ 62 ∧ R (rngD 0 j.toNat) (fun _ => True) S1) E
theorem walk_rng {K : PySem.W.Frag} {lo : Int} {n : Nat} {φ : Al} {H : Hp} : WalkD K (Itr lo n) (rngD lo n) (fun _ => True) φ H := fun φ2 H2 S2 i s r _ =>
  ⟨fun hi => by rw [rngD_length] at hi; exact Nat.le_of_eq hi, fun hi => by
    rw [rngD_length] at hi
    exact ⟨hi, fun v H3 hy => ⟨_, rngD_get hi, by rw [hy.1]; exact .refl, by rw [hy.1]; exact r, by rw [RD]; exact hy.2⟩⟩⟩
theorem di_rng1 {tg : Expr} {p : Pos} (hg : ∀ i, Gl (F.X i) "range") (hm : ∀ i, (F.X i).mg "range" = none) (ha : DA F W [a] t) (hs : ∀ i, starEach [a] (F.X i).env = [(false, eval a (F.X i).env)] := by intro _; rfl) : DI F W tg (.Call (.Name "range" p) [a] [] pos) (jRng1 t) := by
  obtain ⟨t1, p1, k1⟩ := ha
  refine ⟨_, fun i => pi_range1 (hg i) (hm i) (p1 i) (hs i), fun σ ρ φ S H E R' R o q h => ?_⟩
  refine k1 σ ρ φ S H E _ _ o (fun φ1 H1 S1 ds vs s1 r1 rd h1 => ?_) h
  obtain ⟨j, rfl, b1, b2, h1⟩ := h1
  obtain ⟨v, rfl, hv⟩ := rds1 rd
  rw [RD] at hv
  subst hv
  exact ⟨j, rfl, b1, b2, q φ1 H1 S1 _ _ _ s1 r1 walk_rng h1⟩
def dFor (ti : DTI) (g : DTG) (tb : DTS) : DTS := fun D ρ S => ti ρ S (fun xs live S1 => ∃ Pv : Nat → Rho → Store → Prop, Pv 0 ρ S1 ∧ (∀ i ρ S, i ≤ xs.length → Pv i ρ S → live S) ∧
  (∀ i x ρ S, xs[i]? = some x → Pv i ρ S → g x ρ S fun ρ2 S2 => tb { D with nx := Pv (i + 1), ct := Pv (i + 1), bk := D.nx } ρ2 S2) ∧ ∀ ρ S, Pv xs.length ρ S → D.nx ρ S) (fun x S1 => D.ex x ρ S1)
theorem ds_for {tg iter : Expr} {body : List Stmt} {ti : DTI} {g : DTG} {tb : DTS} (hp : ∀ j, PassesOwn (model (F.X j).prog (F.X j).w) (F.X j).A (F.X j).env (F.X j).xe) (hc : ∀ j, (F.X j).calm = true) (hi : DI F W tg iter ti) (hg : DG F tg g) (hb : DSs F W body tb)
    (hs : ∀ j x, foldedSetIterable iter (F.X j).env x = pure x := by intro _ _; rfl) : DS F W (.For tg iter body [] pos) (dFor ti g tb) := by
  obtain ⟨t1, p1, k1⟩ := hi
  obtain ⟨t2, p2, k2⟩ := hg
  obtain ⟨t3, p3, k3⟩ := hb
  refine ⟨_, fun j => ps_for (hp j) (hc j) (p1 j) (p2 j) (p3 j) (hs j), fun σ ρ φ S H D' D r sl l h => ?_⟩
  refine k1 σ ρ φ S H _ _ _ (l.ok r sl) (fun φ1 H1 S1 xs live J s1 r1 wk h1 => ?_) h
  obtain ⟨Pv, h0, hl, hs, hd⟩ := h1
  refine ⟨fun i m σ' H' => ∃ φ' S' ρ', Step φ1 φ' H1 H' ∧ SR F.K φ' S' H' ∧ Sl F.K φ' H' ρ' σ' ∧ Pv i ρ' S' ∧ i ≤ xs.length ∧ m = xs.length - i,
    ⟨_, φ1, S1, ρ, .refl, r1, sl.mono s1 r.muts, h0, Nat.zero_le _, rfl⟩, ?_⟩
  rintro i m σ' H' ⟨φ', S', ρ', s', r', sl', hP, hi, rfl⟩
  obtain ⟨w1, w2⟩ := wk φ' H' S' i s' r' (hl i ρ' S' hi hP)
  by_cases hlt : i < xs.length
  · obtain ⟨go, hy⟩ := w2 hlt
    refine .inr ⟨go, fun σ2 H2 => ∃ φ2 S2 ρ2, Step φ1 φ2 H1 H2 ∧ SR F.K φ2 S2 H2 ∧ Sl F.K φ2 H2 ρ2 σ2 ∧ Pv (i + 1) ρ2 S2, ?_, ?_⟩
    · rintro σ2 H2 ⟨φ2, S2, ρ2, a1, a2, a3, a4⟩
      exact ⟨xs.length - (i + 1), by omega, φ2, S2, ρ2, a1, a2, a3, a4, hlt, rfl⟩
    · intro v H3 yv
      obtain ⟨d, ed, s3, r3, rd⟩ := hy v H3 yv
      refine k2 σ' ρ' φ' S' H3 d v _ _ r3 (sl'.mono s3 r'.muts) rd (fun φ4 H4 S4 ρ4 σ4 s4 r4 sl4 h4 => ?_) (hs i d ρ' S' ed hP)
      have s14 : Step φ1 φ4 H1 H4 := (s'.trans s3).trans s4
      refine k3 σ4 ρ4 φ4 S4 H4 _ _ r4 sl4 ?_ h4
      have l4 := l.mono (s1.trans s14)
      exact ⟨fun φ5 H5 S5 ρ5 σ5 s5 r5 sl5 q => ⟨φ5, S5, ρ5, s14.trans s5, r5, sl5, q⟩, l4.rt, l4.nx, fun φ5 H5 S5 ρ5 σ5 s5 r5 sl5 q => ⟨φ5, S5, ρ5, s14.trans s5, r5, sl5, q⟩, l4.ex⟩
  · have e : i = xs.length := by omega
    subst e
    exact .inl ⟨w1 rfl, l.nx _ _ _ _ _ (s1.trans s') r' sl' (hd ρ' S' hP)⟩
end
end Dy
namespace Dy
open PySem PySem.Spec PyProof.Rows L2
abbrev W0 : WX := fun _ _ _ _ => False
abbrev noX : XQ := fun _ _ => False
def Fam.blk (F : Fam) (scope : Scope) : Fam :=
  ⟨F.ι × Shared × Hp × Addr × List (Str × Addr) × List Addr, fun j => (F.X j.1).blk j.2.1 j.2.2.1 scope (compEnvC scope j.2.2.2.2.1 j.2.2.2.1 (F.X j.1).env) j.2.2.2.2.2, F.K, fun j => F.hK j.1⟩
def DTs (F : Fam) (W : WX) (ifs : List Expr) (t' : DTT) : Prop :=
  ∃ t : TT, (∀ i, PTs (F.X i) ifs t) ∧ ∀ σ ρ φ S H E Q' Q, Ok F.K W σ ρ φ S H E → EndT F.K φ H Q' Q → t' ρ S Q' E → t σ H Q
def dYes : DTT := fun _ S Q _ => Q true S
section
variable {F : Fam} {W : WX} {a b c e : Expr} {es : List Expr} {st : Stmt} {rest sa sb : List Stmt} {pos : Pos} {te ta tb : DTE} {tt uC : DTT} {t : DTA} {ti : DTI}
theorem dts_nil : DTs F W [] dYes := ⟨_, fun _ => pts_nil, fun σ ρ φ S H E Q' Q o q h => q _ _ _ _ .refl o.sr h⟩
/-- what a comprehension does: G puts an item into the slots, or is not defined; K makes the end of the items -/
def dLc (ti : DTI) (g : D → Rho → (Rho → Prop) → Prop) (tt : DTT) (te : DTE) : DTE := fun ρ S Q E => ti ρ S (fun xs live S1 => ∃ Pv : Nat → List D → Store → Prop, Pv 0 [] S1 ∧ (∀ k acc S, k ≤ xs.length → Pv k acc S → live S) ∧
  (∀ k x acc S, xs[k]? = some x → Pv k acc S → g x ρ fun ρ2 => tt ρ2 S (fun b S2 => if b = true then te ρ2 S2 (fun y S3 => acc.length < sizeLine ∧ Pv (k + 1) (acc ++ [y]) S3) noX else Pv (k + 1) acc S2) noX) ∧
  ∀ acc S, Pv xs.length acc S → Q (.lst acc) S) E
/-- .. a list of the store -/
def dLcN (ti : DTI) (g : D → Rho → (Rho → Prop) → Prop) (tt : DTT) (te : DTE) : DTE := fun ρ S Q E => dLc ti g tt te ρ S (fun d S1 => ∃ xs, d = .lst xs ∧ Q (.ref S1.length) (S1 ++ [.lst xs])) E
def c1 (i : Nat) : D → Rho → (Rho → Prop) → Prop := fun x ρ Q => Q (ρ.set i (some x))
def c2 (i j : Nat) : D → Rho → (Rho → Prop) → Prop := fun x ρ Q => ∃ u v, x = .tup [u, v] ∧ Q ((ρ.set i (some u)).set j (some v))
def c3 (i j k : Nat) : D → Rho → (Rho → Prop) → Prop := fun x ρ Q => ∃ u v w, x = .tup [u, v, w] ∧ Q (((ρ.set i (some u)).set j (some v)).set k (some w))
/-- the target's store by values and by trees -/
def TgL (K : PySem.W.Frag) (g : TG) (g' : D → Rho → (Rho → Prop) → Prop) (vs : List Nat) : Prop :=
  ∀ φ S H σ ρ d v (Q' : Rho → Prop) (Q : L2.St → Hp → Prop), SR K φ S H → Sl K φ H ρ σ → RD K φ H d v → g' d ρ Q' → (∀ ρ2 σ2, Sl K φ H ρ2 σ2 → Q' ρ2 → Q σ2 H) → g v (wipe σ vs) H fun σ2 H2 => wipe σ2 vs = wipe σ vs ∧ Q σ2 H2
theorem tgl_1 {K : PySem.W.Frag} (i : Nat) : TgL K (gName i) (c1 i) [i] := by
  intro φ S H σ ρ d v Q' Q r sl rd h k
  have e : (wipe σ [i]).set i (some v) = σ.set i (some v) := by simp [wipe, List.set_set]
  refine ⟨by rw [e]; simp [wipe, List.set_set], ?_⟩
  rw [e]
  exact k _ _ (sl.set rd) h
theorem tgl_2 {K : PySem.W.Frag} {i j : Nat} (hij : i ≠ j) : TgL K (gTup K 2 (gCons (gName i) (gCons (gName j) gNil))) (c2 i j) [i, j] := by
  rintro φ S H σ ρ d v Q' Q r sl rd ⟨u1, u2, rfl, h⟩ k
  obtain ⟨a, vs, rfl, h1, h2⟩ := rd_tup rd
  obtain ⟨x, y, rfl, hx, hy⟩ := rds2 h2
  have e : ((wipe σ [i, j]).set i (some x)).set j (some y) = (σ.set i (some x)).set j (some y) := by
    show ((((σ.set j none).set i none).set i (some x)).set j (some y)) = _
    rw [List.set_set, List.set_comm _ _ hij, List.set_set, List.set_comm _ _ (Ne.symm hij)]
  refine ⟨a, [x, y], rfl, h1, rfl, x, [y], rfl, y, [], rfl, rfl, ?_, ?_⟩
  · rw [e]
    show ((((σ.set i (some x)).set j (some y)).set j none).set i none) = (σ.set j none).set i none
    rw [List.set_set, List.set_comm _ _ hij, List.set_set]
  · rw [e]
    exact k _ _ ((sl.set hx).set hy) h
theorem lc_core' {K : PySem.W.Frag} {wi : TI} {g : TG} {g' : D → Rho → (Rho → Prop) → Prop} {tt0 : TT} {te0 : TE} {vs : List Nat} (hg : TgL K g g' vs)
    (k1 : ∀ σ ρ φ S H E R' R, Ok K W σ ρ φ S H E → (∀ φ1 H1 S1 xs live J, Step φ φ1 H H1 → SR K φ1 S1 H1 → WalkD K J xs live φ1 H1 → R' xs live S1 → R J H1) → ti ρ S R' E → wi σ H R)
    (k2 : ∀ σ ρ φ S H E Q' Q, Ok K W0 σ ρ φ S H E → EndT K φ H Q' Q → tt ρ S Q' E → tt0 σ H Q)
    (k3 : ∀ σ ρ φ S H E Q' Q, Ok K W0 σ ρ φ S H E → EndV K φ H Q' Q → te ρ S Q' E → te0 σ H Q)
    (σ : L2.St) (ρ : Rho) (φ : Al) (S : Store) (H : Hp) (E : XQ) (Q' : QD) (Q : VK) (o : Ok K W σ ρ φ S H E) (h : dLc ti g' tt te ρ S Q' E)
    (fin : ∀ φ1 H1 S1 φ' S' H' D acc ws, Step φ φ1 H H1 → SR K φ1 S1 H1 → H1 D = none → Step φ1 φ' H1 H' → D ∈ φ'.b → SR K φ' S' H' → H' D = some (.lst ws) → RDs K φ' H' acc ws → Q' (.lst acc) S' → Q (.ref D) H') : tLc wi g tt0 te0 vs σ H Q := by
  refine k1 σ ρ φ S H E _ _ o (fun φ1 H1 S1 xs live J s1 r1 wk h1 => ?_) h
  obtain ⟨Pv, h0, hl, hs, hd⟩ := h1
  intro D hD
  -- the list that is being made
  let ψ : Al := ⟨φ1.l, D :: φ1.b⟩
  have st0 : Step φ1 ψ H1 (upd H1 D (.lst [])) := ⟨⟨[], by simp [ψ]⟩, fun a m n _ => by
    rcases List.mem_cons.mp m with m | m
    · rw [m]; exact hD
    · exact absurd m n, fun a m => List.mem_cons_of_mem _ m, fun a o e _ => by
    have : a ≠ D := fun z => by rw [z, hD] at e; cases e
    rw [upd_ne this]; exact e, fun a m n => absurd m n⟩
  have rb : SR K ψ S1 (upd H1 D (.lst [])) := ⟨r1.nd, r1.len, fun n a o ha ho => (r1.at_ n a o ha ho).moved st0.w r1.muts (upd_ne fun z => by
      have m := r1.mutl a (List.mem_of_getElem? ha)
      rw [z, hD] at m; exact m), fun a m => by
      rcases List.mem_cons.mp m with m | m
      · rw [m]; exact .inl ⟨[], upd_same⟩
      · rcases r1.mb a m with ⟨ys, e⟩ | ⟨ys, e⟩
        · have : a ≠ D := fun z => by rw [z, hD] at e; cases e
          exact .inl ⟨ys, by rw [upd_ne this]; exact e⟩
        · have : a ≠ D := fun z => by rw [z, hD] at e; cases e
          exact .inr ⟨ys, by rw [upd_ne this]; exact e⟩, fun a m => by
      rcases List.mem_cons.mp m with m | m
      · rw [m]; exact r1.out hD
      · exact r1.db a m⟩
  refine ⟨fun k m H' => ∃ φ' S' acc ws, Step φ1 φ' H1 H' ∧ D ∈ φ'.b ∧ SR K φ' S' H' ∧ Sl K φ' H' ρ σ ∧ H' D = some (.lst ws) ∧ RDs K φ' H' acc ws ∧ Pv k acc S' ∧ k ≤ xs.length ∧ m = xs.length - k,
    ⟨_, ψ, S1, [], [], st0, List.mem_cons_self, rb, (o.sl.mono s1 o.sr.muts).mono st0 r1.muts, upd_same, .nil, h0, Nat.zero_le _, rfl⟩, ?_⟩
  rintro k m H' ⟨φ', S', acc, ws, s', mD, r', sl', hDl, hacc, hP, hk, rfl⟩
  obtain ⟨w1, w2⟩ := wk φ' H' S' k s' r' (hl k acc S' hk hP)
  have nD : D ∉ φ'.l := r'.db D mD
  by_cases hlt : k < xs.length
  · obtain ⟨go, hy⟩ := w2 hlt
    refine .inr ⟨go, fun H2 => ∃ φ2 S2 acc2 ws2, Step φ1 φ2 H1 H2 ∧ D ∈ φ2.b ∧ SR K φ2 S2 H2 ∧ Sl K φ2 H2 ρ σ ∧ H2 D = some (.lst ws2) ∧ RDs K φ2 H2 acc2 ws2 ∧ Pv (k + 1) acc2 S2, ?_, ?_⟩
    · rintro H2 ⟨φ2, S2, acc2, ws2, a1, a2, a3, a4, a5, a6, a7⟩
      exact ⟨xs.length - (k + 1), by omega, φ2, S2, acc2, ws2, a1, a2, a3, a4, a5, a6, a7, hlt, rfl⟩
    · intro v H3 yv
      obtain ⟨d, ed, s3, r3, rd⟩ := hy v H3 yv
      refine hg φ' S' H3 σ ρ d v _ _ r3 (sl'.mono s3 r'.muts) rd (hs k d acc S' ed hP) (fun ρ2 σ2 sl2 h2 => ?_)
      have o3 : Ok K W0 σ2 ρ2 φ' S' H3 noX := ⟨r3, sl2, fun _ _ _ _ _ _ _ _ _ z => z.elim⟩
      refine k2 σ2 ρ2 φ' S' H3 noX _ _ o3 (fun φ4 H4 S4 b s4 r4 h4 => ?_) h2
      have s34 : Step φ' φ4 H' H4 := s3.trans s4
      cases b with
      | false =>
        rw [if_neg Bool.false_ne_true] at h4 ⊢
        exact ⟨φ4, S4, acc, ws, s'.trans s34, s34.sub D mD, r4, sl'.mono s34 r'.muts, s34.keep D _ hDl nD, RDs.mono s34 r'.muts _ _ hacc, h4⟩
      | true =>
        rw [if_pos rfl] at h4 ⊢
        refine k3 σ2 ρ2 φ4 S4 H4 noX _ _ (o3.mono s4 r4) (fun φ5 H5 S5 y u s5 r5 ry h5 => ?_) h4
        obtain ⟨hz, h6⟩ := h5
        have s35 : Step φ' φ5 H' H5 := s34.trans s5
        have m5 : D ∈ φ5.b := s35.sub D mD
        have n5 : D ∉ φ5.l := r5.db D m5
        have e5 : H5 D = some (.lst ws) := s35.keep D _ hDl nD
        have acc5 := RDs.mono s35 r'.muts _ _ hacc
        refine ⟨ws, e5, by rw [hacc.length]; exact hz, φ5, S5, acc ++ [y], ws ++ [u], ?_, m5, ?_, ?_, upd_same, ?_, h6⟩
        · have t := s'.trans s35
          exact ⟨t.pre, t.bs, t.sub, fun a o e n => by
            have : a ≠ D := fun z => by rw [z, hD] at e; cases e
            rw [upd_ne this]; exact t.keep a o e n, t.new⟩
        all_goals have sw : StepW φ5 φ5 H5 (upd H5 D (.lst (ws ++ [u]))) := ⟨⟨[], by simp⟩, fun a m n => absurd m n, fun a o e _ nb => by
            have : a ≠ D := fun z => nb (z ▸ m5)
            rw [upd_ne this]; exact e, fun a m n => absurd m n⟩
        · exact ⟨r5.nd, r5.len, fun n a o ha ho => (r5.at_ n a o ha ho).moved sw r5.muts (upd_ne fun z => n5 (z ▸ List.mem_of_getElem? ha)), fun a m => by
            by_cases z : a = D
            · exact .inl ⟨_, by rw [z]; exact upd_same⟩
            · rw [upd_ne z]; exact r5.mb a m, r5.db⟩
        · have sl5 := sl'.mono s35 r'.muts
          exact ⟨sl5.len, fun i d e => by
            obtain ⟨v, e1, e2⟩ := sl5.at_ i d e
            exact ⟨v, e1, RD.monoW sw r5.mutl r5.mb d v e2⟩⟩
        · exact RDs.append (RDs.monoW sw r5.mutl r5.mb _ _ acc5) (.cons (RD.monoW sw r5.mutl r5.mb _ _ ry) .nil)
  · have e : k = xs.length := by omega
    subst e
    refine .inl ⟨w1 rfl, ?_⟩
    exact fin φ1 H1 S1 φ' S' H' D acc ws s1 r1 hD s' mD r' hDl hacc (hd acc S' hP)
theorem lc_link {K : PySem.W.Frag} {wi : TI} {g : TG} {g' : D → Rho → (Rho → Prop) → Prop} {tt0 : TT} {te0 : TE} {vs : List Nat} (hg : TgL K g g' vs)
    (k1 : ∀ σ ρ φ S H E R' R, Ok K W σ ρ φ S H E → (∀ φ1 H1 S1 xs live J, Step φ φ1 H H1 → SR K φ1 S1 H1 → WalkD K J xs live φ1 H1 → R' xs live S1 → R J H1) → ti ρ S R' E → wi σ H R)
    (k2 : ∀ σ ρ φ S H E Q' Q, Ok K W0 σ ρ φ S H E → EndT K φ H Q' Q → tt ρ S Q' E → tt0 σ H Q)
    (k3 : ∀ σ ρ φ S H E Q' Q, Ok K W0 σ ρ φ S H E → EndV K φ H Q' Q → te ρ S Q' E → te0 σ H Q)
    (σ : L2.St) (ρ : Rho) (φ : Al) (S : Store) (H : Hp) (E : XQ) (Q' : QD) (Q : VK) (o : Ok K W σ ρ φ S H E) (q : EndV K φ H Q' Q) (h : dLc ti g' tt te ρ S Q' E) : tLc wi g tt0 te0 vs σ H Q := by
  refine lc_core' hg k1 k2 k3 σ ρ φ S H E Q' Q o h fun φ1 H1 S1 φ' S' H' D acc ws s1 r1 hD s' mD r' hDl hacc hq => ?_
  have nD : D ∉ φ'.l := r'.db D mD
  have sw : StepW φ' ⟨φ'.l, φ1.b⟩ H' H' := ⟨⟨[], by simp⟩, fun a m n _ => absurd (s'.sub a m) n, fun _ _ e _ _ => e, fun a m n _ => absurd m n⟩
  refine q ⟨φ'.l, φ1.b⟩ H' S' (.lst acc) (.ref D) (s1.trans ⟨s'.pre, fun a m n _ => absurd m n, fun a m => m, s'.keep, s'.new⟩) ?_ ?_ hq
  · exact ⟨r'.nd, r'.len, fun n a o ha ho => (r'.at_ n a o ha ho).moved sw r'.muts rfl, fun a m => r'.mb a (s'.sub a m), fun a m => r'.db a (s'.sub a m)⟩
  · rw [RD]
    exact ⟨D, ws, rfl, ⟨hDl, nD, r1.outb hD⟩, RDs.monoW sw r'.mutl r'.mb _ _ hacc⟩
section
variable {elt iter tg : Expr} {ifs : List Expr} {scope : Scope} {x x2 : Str} {px px2 : Pos}
theorem de_lc (i : Nat) (hc : ∀ j, (F.X j).calm = true) (hN : ∀ j, (F.X j).N.Nodup) (hi : DI F W (.Name x px) iter ti) (ok : ∀ j, BlkOk (F.X j).N (F.X j).env.scope scope [(x, i)]) (ht : DTs (F.blk scope) W0 ifs tt) (he : DE (F.blk scope) W0 elt te)
    (hg : ∀ j, PG ((F.blk scope).X j) (.Name x px) (gName i)) (hs : ∀ j v, foldedSetIterable iter (F.X j).env v = pure v := by intro _ _; rfl) :
    DE F W (.ListComp elt [⟨.Name x px, iter, ifs, 0⟩] scope pos) (dLc ti (c1 i) tt te) := by
  obtain ⟨wi, p1, k1⟩ := hi
  obtain ⟨t2, p2, k2⟩ := ht
  obtain ⟨t3, p3, k3⟩ := he
  exact ⟨_, fun j => pe_lc (own := [(x, i)]) (hc j) (hN j) (p1 j) (ok j) (fun s H C cl fp => hg (j, s, H, C, cl, fp)) (fun s H C cl fp => p2 (j, s, H, C, cl, fp)) (fun s H C cl fp => p3 (j, s, H, C, cl, fp)) (hs j), lc_link (tgl_1 i) k1 k2 k3⟩
theorem de_lc2 (i i2 : Nat) {k : Nat} (hij : i ≠ i2) (hc : ∀ j, (F.X j).calm = true) (hN : ∀ j, (F.X j).N.Nodup) (hi : DI F W (.Tuple [.Name x px, .Name x2 px2] k pos) iter ti) (ok : ∀ j, BlkOk (F.X j).N (F.X j).env.scope scope [(x, i), (x2, i2)]) (ht : DTs (F.blk scope) W0 ifs tt) (he : DE (F.blk scope) W0 elt te)
    (hg : ∀ j, PG ((F.blk scope).X j) (.Tuple [.Name x px, .Name x2 px2] k pos) (gTup F.K 2 (gCons (gName i) (gCons (gName i2) gNil)))) {pos2 : Pos} (hs : ∀ j v, foldedSetIterable iter (F.X j).env v = pure v := by intro _ _; rfl) :
    DE F W (.ListComp elt [⟨.Tuple [.Name x px, .Name x2 px2] k pos, iter, ifs, 0⟩] scope pos2) (dLc ti (c2 i i2) tt te) := by
  obtain ⟨wi, p1, k1⟩ := hi
  obtain ⟨t2, p2, k2⟩ := ht
  obtain ⟨t3, p3, k3⟩ := he
  refine ⟨tLc wi (gTup F.K 2 (gCons (gName i) (gCons (gName i2) gNil))) t2 t3 [i, i2], fun j => ?_, lc_link (tgl_2 hij) k1 k2 k3⟩
  exact pe_lc (own := [(x, i), (x2, i2)]) (hc j) (hN j) (p1 j) (ok j) (fun s H C cl fp => hg (j, s, H, C, cl, fp)) (fun s H C cl fp => p2 (j, s, H, C, cl, fp)) (fun s H C cl fp => p3 (j, s, H, C, cl, fp)) (hs j)
/-- y = [..] -/
theorem ds_setLc (n : Nat) {y : Str} {py spos : Pos} {g : TG} {g' : D → Rho → (Rho → Prop) → Prop} {own : List (Str × Nat)} (hl : TgL F.K g g' (own.map (·.2))) (hc : ∀ j, (F.X j).calm = true) (hN : ∀ j, (F.X j).N.Nodup) (hi : DI F W tg iter ti) (ok : ∀ j, BlkOk (F.X j).N (F.X j).env.scope scope own) (ht : DTs (F.blk scope) W0 ifs tt) (he : DE (F.blk scope) W0 elt te)
    (hg : ∀ j, PG ((F.blk scope).X j) tg g) (hsw : ∀ j, swapsWith (.ListComp elt [⟨tg, iter, ifs, 0⟩] scope pos) (some (.Name y py)) spos.line (F.X j).env = pure true)
    (hy : ∀ j, (F.X j).N[n]? = some y := by intro _; rfl) (hyl : ∀ j, (F.X j).env.scope.names.lookup y = some .local := by intro _; rfl) (hs : ∀ j v, foldedSetIterable iter (F.X j).env v = pure v := by intro _ _; rfl) :
    DS F W (.Assign [.Name y py] (.ListComp elt [⟨tg, iter, ifs, 0⟩] scope pos) spos) (dAsg (dLc ti g' tt te) (eName n)) := by
  obtain ⟨wi, p1, k1⟩ := hi
  obtain ⟨t2, p2, k2⟩ := ht
  obtain ⟨t3, p3, k3⟩ := he
  exact ⟨_, fun j => ps_setLc (i := n) (hc j) (hN j) (hy j) (hyl j) (hsw j) (p1 j) (ok j) (fun s H C cl fp => hg (j, s, H, C, cl, fp)) (fun s H C cl fp => p2 (j, s, H, C, cl, fp)) (fun s H C cl fp => p3 (j, s, H, C, cl, fp)) (hs j),
    fun σ ρ φ S H D' D r sl l h => lc_link hl k1 k2 k3 σ ρ φ S H _ _ _ (l.ok r sl) (fun φ1 H1 S1 d v s r1 rd q => l.nx _ _ _ _ _ s r1 ((sl.mono s r.muts).set rd) q) h⟩
end
abbrev DSp := List D → Store → QD → XQ → Prop
def liftSp (K : PySem.W.Frag) (sp : DSp) : Sp := fun vs H Q E => ∃ φ S ds Q' E', SR K φ S H ∧ RDs K φ H ds vs ∧ sp ds S Q' E' ∧ EndV K φ H Q' Q ∧
  ∀ φ' H' S' x cls d, Step φ φ' H H' → SR K φ' S' H' → ExR K φ' H' x cls d → E' x S' → E cls d H'
def dCall (sp : DSp) (t : DTA) : DTE := fun ρ S Q E => t ρ S (fun ds S1 => sp ds S1 Q E) E
theorem call_link {K : PySem.W.Frag} {sp : DSp} {σ : L2.St} {ρ : Rho} {φ : Al} {S : Store} {H : Hp} {E : XQ} {Q' : QD} {Q : VK} {ds : List D} {vs : List V} (o : Ok K W σ ρ φ S H E) (q : EndV K φ H Q' Q) (rd : RDs K φ H ds vs) (h : sp ds S Q' E) : liftSp K sp vs H Q (WE W σ) :=
  ⟨φ, S, ds, Q', E, o.sr, rd, h, q, o.ex⟩
end
theorem start_sl {K : PySem.W.Frag} {φ : Al} {H : Hp} {ds : List D} {vs : List V} {n : Nat} (h : RDs K φ H ds vs) : Sl K φ H (ds.map some ++ List.replicate n none) (vs.map some ++ List.replicate n none) := by
  refine ⟨by simp [h.length], fun i d e => ?_⟩
  by_cases hi : i < ds.length
  · rw [List.getElem?_append_left (by simpa using hi)] at e
    rw [List.getElem?_append_left (by rw [List.length_map, h.length]; exact hi)]
    rw [List.getElem?_map] at e ⊢
    cases q : ds[i]? with
    | none => rw [q] at e; cases e
    | some y =>
      rw [q] at e
      cases e
      obtain ⟨v, e1, e2⟩ := h.get q
      exact ⟨v, by rw [e1]; rfl, e2⟩
  · rw [List.getElem?_append_right (by simpa using Nat.le_of_not_lt hi)] at e
    rw [List.getElem?_replicate] at e
    split at e <;> cases e
def startD (N : List Str) (ds : List D) : Rho := ds.map some ++ List.replicate (N.length - ds.length) none
section
variable {P : Program} {w : World} {K : PySem.W.Frag} {mg : Str → Option Value} {base : Heap}
/-- the context of a body that may let something out -/
abbrev bodyX (P : Program) (w : World) (K : PySem.W.Frag) (mg : Str → Option Value) (base : Heap) (N : List Str) (qual : Str) (sc : Scope) (f : Addr) (cdv : Value) (A : Around) (outer : List Env) (s : Shared) (H : Hp) (E : XK) : Cx :=
  cxOf (L2.CX P w) P w K mg base N qual sc f cdv A outer s H E
theorem bodyTk {N : List Str} {qual : Str} {sc : Scope} {f : Addr} {cdv : Value} {A : Around} {outer : List Env} {s : Shared} {H : Hp} {E : XK} : Takes (bodyX P w K mg base N qual sc f cdv A outer s H E) (fun cls d _ H => E cls d H) := takes_of rfl rfl rfl rfl
theorem bodyHp {N : List Str} {qual : Str} {sc : Scope} {f : Addr} {cdv : Value} {A : Around} {outer : List Env} {s : Shared} {H : Hp} {E : XK} :
    PassesOwn (model (bodyX P w K mg base N qual sc f cdv A outer s H E).prog (bodyX P w K mg base N qual sc f cdv A outer s H E).w) (bodyX P w K mg base N qual sc f cdv A outer s H E).A (bodyX P w K mg base N qual sc f cdv A outer s H E).env (bodyX P w K mg base N qual sc f cdv A outer s H E).xe := passes_of rfl
theorem dfn {x qual : Str} {st : Stmt} {f : Addr} {fd : FuncData} {N ps : List Str} {k : Nat} {sp : DSp} (F : Fun K x qual st f fd) (S : FnScope N ps (defScope st)) (len : ∀ ds S Q E, sp ds S Q E → ds.length = ps.length)
    (body : ∀ (cdv : Value) (A : Around) (outer : List Env) (s : Shared) (H : Hp) (E : XK), Room k (A.deeper (envOfC qual (defScope st) s.heap.objs.size f cdv)) →
      ∃ t, DSs (Fam.one (bodyX P w K mg base N qual (defScope st) f cdv A outer s H E)) (fun cls d _ H => E cls d H) (defBody st) t ∧
        ∀ ds S Q E, sp ds S Q E → t { nx := fun _ S' => Q .non S', rt := Q, ex := fun x _ S' => E x S' } (startD N ds) S) :
    FnOk P w K mg base (L2.CX P w) (k + 1) f fd ps (liftSp K sp) := by
  refine F.okX S (fun vs H Q E h => ?_) (fun cdv A outer s H vs Q E hr h => ?_)
  · obtain ⟨φ, S, ds, Q', E', _, rd, h, _⟩ := h
    rw [rd.length]
    exact len ds S Q' E' h
  · obtain ⟨φ, S0, ds, Q', E', r, rd, h, q, ex⟩ := h
    obtain ⟨t, ⟨t1, p1, k1⟩, ht⟩ := body cdv A outer s H E hr
    refine ⟨t1, p1 (), ?_⟩
    refine k1 (L2.start N vs) (startD N ds) φ S0 H _ _ r ?_ ?_ (ht ds S0 Q' E' h)
    · unfold L2.start startD
      rw [rd.length]
      exact start_sl rd
    · exact ⟨fun φ' H' S' ρ' σ' s r' _ h => q _ _ _ _ _ s r' rd_non h, fun φ' H' S' d v s r' rd h => q _ _ _ _ _ s r' rd h, fun _ _ _ _ _ _ _ _ h => h.elim, fun _ _ _ _ _ _ _ _ h => h.elim,
        fun φ' H' S' ρ' σ' x cls d s r' _ xr h => ex _ _ _ _ _ _ s r' xr h⟩
end
end Dy
namespace Dy
open PySem PySem.Spec PyProof.Rows L2
abbrev DM := D → List D → Store → QD → Prop
def LkM (K : PySem.W.Frag) (r' : DM) (r : V → List V → Hp → VK → Prop) : Prop := ∀ φ S H Q' Q d v ds vs, SR K φ S H → RD K φ H d v → RDs K φ H ds vs → EndV K φ H Q' Q → r' d ds S Q' → r v vs H Q
def dBM (r : DM) (to : DTE) (t : DTA) : DTE := fun ρ S Q E => to ρ S (fun o S1 => (∃ xs, lsOf S1 o = some xs) ∧ t ρ S1 (fun ds S2 => r o ds S2 Q) E) E
def dBM0 (r : DM) (to : DTE) : DTE := fun ρ S Q E => to ρ S (fun o S1 => (∃ xs, lsOf S1 o = some xs) ∧ r o [] S1 Q) E
section
variable {F : Fam} {W : WX} {o e : Expr} {es : List Expr} {to te : DTE} {t : DTA} {name : Str} {apos cpos : Pos} {id : String} {r : V → List V → Hp → VK → Prop} {r' : DM}
theorem de_bm (slot : Slot "list" name id) (hty : typeOf (.builtin id) = pure (.type "method_descriptor")) (hm : ∀ i, MtR (F.X i) id r) (lk : LkM F.K r' r) (ho : DE F W o to) (ha : DA F W (e :: es) t)
    (hbase : ∀ i, attributeBase o name (F.X i).env (eval o (F.X i).env) = eval o (F.X i).env := by intro _; rfl)
    (hfew : ∀ i, ((backTo cpos (starEach (e :: es) (F.X i).env)).all (fun x => !x.1) && (backToKw cpos (keywordEach [] (F.X i).env)).all (fun x => x.1.isSome)
      && decide ((e :: es).length + ([] : List Keyword).length + (if ([] : List Keyword).isEmpty then 0 else 1) < 30)) = true := by intro _; rfl)
    (hline : (apos.endLine == cpos.line) = true := by rfl) (hs : ∀ i, starEach (e :: es) (F.X i).env = (false, eval e (F.X i).env) :: starEach es (F.X i).env := by intro _; rfl) (hplain : ∀ i, (backTo cpos (starEach es (F.X i).env)).any (·.1) = false := by intro _; rfl) :
    DE F W (.Call (.Attribute o name apos) (e :: es) [] cpos) (dBM r' to t) := by
  obtain ⟨t1, p1, k1⟩ := ho
  obtain ⟨t2, p2, k2⟩ := ha
  refine ⟨tBM F.K "list" r t1 t2, fun i => F.hK i ▸ pe_bm PySem.F.plainAttrs_list slot hty (hm i) (p1 i) (p2 i) (hbase i) (hfew i) hline (hs i) (hplain i), fun σ ρ φ S H E Q' Q o q h => ?_⟩
  refine k1 σ ρ φ S H E _ _ o (fun φ1 H1 S1 d v s1 r1 rd h1 => ?_) h
  obtain ⟨⟨xs, ex⟩, h1⟩ := h1
  obtain ⟨a, vs, rfl, h2, _⟩ := ls_of r1 rd ex
  refine ⟨.inl ⟨rfl, vs, h2⟩, ?_⟩
  refine k2 σ ρ φ1 S1 H1 E _ _ (o.mono s1 r1) (fun φ2 H2 S2 ds ws s2 r2 rds h2 => ?_) h1
  exact lk φ2 S2 H2 _ _ d _ ds ws r2 (RD.mono s2 r1.muts _ _ rd) rds (q.mono (s1.trans s2)) h2
end
/-- xs.append(y) -/
def mApp : DM := fun o ds S Q => ∃ n xs y, o = .ref n ∧ ds = [y] ∧ S[n]? = some (.lst xs) ∧ xs.length < sizeLine ∧ Q .non (S.set n (.lst (xs ++ [y])))
def mExt : DM := fun o ds S Q => ∃ n xs e ys, o = .ref n ∧ ds = [e] ∧ S[n]? = some (.lst xs) ∧ lsM S e = some ys ∧ xs.length + ys.length ≤ sizeLine ∧ Q .non (S.set n (.lst (xs ++ ys)))
section
variable {K : PySem.W.Frag}
theorem lk_app : LkM K mApp rAppend := by
  rintro φ S H Q' Q d v ds vs r rd rds q ⟨n, xs, y, rfl, rfl, e, hz, h⟩
  obtain ⟨a, ws, rfl, ha, hl, rs⟩ := r.lst rd e
  obtain ⟨u, rfl, ry⟩ := rds1 rds
  have st := r.step_put (ho := .lst (ws ++ [u])) ha
  exact ⟨a, ws, u, rfl, rfl, hl, by rw [rs.length]; exact hz, q _ _ _ _ _ st (r.put (o := .lst (xs ++ [y])) ha ⟨_, upd_same, RDs.mono st r.muts _ _ (rs.append (.cons ry .nil))⟩) rd_non h⟩
theorem RDs.dropLast {φ : Al} {H : Hp} : ∀ {xs : List D} {vs : List V}, RDs K φ H xs vs → RDs K φ H xs.dropLast vs.dropLast
  | xs, vs, h => by
    rw [List.dropLast_eq_take, List.dropLast_eq_take, h.length]
    exact h.take _
theorem lk_ext : LkM K mExt rExtend := by
  rintro φ S H Q' Q d v ds vs r rd rds q ⟨n, xs, y, ys, rfl, rfl, e, ey, hz, h⟩
  obtain ⟨a, ws, rfl, ha, hl, rs⟩ := r.lst rd e
  obtain ⟨u, rfl, ru⟩ := rds1 rds
  obtain ⟨b, zs, rfl, hb, rz⟩ := ls_m r ru ey
  have st := r.step_put (ho := .lst (ws ++ zs)) ha
  exact ⟨a, b, ws, zs, rfl, rfl, hl, hb, by rw [rs.length, rz.length]; exact hz, q _ _ _ _ _ st (r.put (o := .lst (xs ++ ys)) ha ⟨_, upd_same, RDs.mono st r.muts _ _ (rs.append rz)⟩) rd_non h⟩
end
section
variable {F : Fam} {W : WX} {o e : Expr} {es : List Expr} {to te : DTE} {t : DTA} {apos cpos : Pos}
theorem de_append (ho : DE F W o to) (ha : DA F W [e] t) (hbase : ∀ i, attributeBase o "append" (F.X i).env (eval o (F.X i).env) = eval o (F.X i).env := by intro _; rfl)
    (hfew : ∀ i, ((backTo cpos (starEach [e] (F.X i).env)).all (fun x => !x.1) && (backToKw cpos (keywordEach [] (F.X i).env)).all (fun x => x.1.isSome)
      && decide (([e] : List Expr).length + ([] : List Keyword).length + (if ([] : List Keyword).isEmpty then 0 else 1) < 30)) = true := by intro _; rfl)
    (hline : (apos.endLine == cpos.line) = true := by rfl) (hs : ∀ i, starEach [e] (F.X i).env = (false, eval e (F.X i).env) :: starEach [] (F.X i).env := by intro _; rfl) (hplain : ∀ i, (backTo cpos (starEach [] (F.X i).env)).any (·.1) = false := by intro _; rfl) :
    DE F W (.Call (.Attribute o "append" apos) [e] [] cpos) (dBM mApp to t) := de_bm PySem.F.slot_list_append PySem.F.type_list_append (fun _ => mt_append) lk_app ho ha hbase hfew hline hs hplain
theorem de_extend (ho : DE F W o to) (ha : DA F W [e] t) (hbase : ∀ i, attributeBase o "extend" (F.X i).env (eval o (F.X i).env) = eval o (F.X i).env := by intro _; rfl)
    (hfew : ∀ i, ((backTo cpos (starEach [e] (F.X i).env)).all (fun x => !x.1) && (backToKw cpos (keywordEach [] (F.X i).env)).all (fun x => x.1.isSome)
      && decide (([e] : List Expr).length + ([] : List Keyword).length + (if ([] : List Keyword).isEmpty then 0 else 1) < 30)) = true := by intro _; rfl)
    (hline : (apos.endLine == cpos.line) = true := by rfl) (hs : ∀ i, starEach [e] (F.X i).env = (false, eval e (F.X i).env) :: starEach [] (F.X i).env := by intro _; rfl) (hplain : ∀ i, (backTo cpos (starEach [] (F.X i).env)).any (·.1) = false := by intro _; rfl) :
    DE F W (.Call (.Attribute o "extend" apos) [e] [] cpos) (dBM mExt to t) := de_bm PySem.F.slot_list_extend PySem.F.type_list_extend (fun _ => mt_extend) lk_ext ho ha hbase hfew hline hs hplain
end
def tagOf (S : Store) : D → Option String
  | .non => some "NoneType"
  | .bl _ => some "bool"
  | .int _ => some "int"
  | .str _ => some "str"
  | .tup _ => some "tuple"
  | .lst _ => some "list"
  | .frz _ => some "list"
  | .dic _ _ => some "dict"
  | .ref n => match S[n]? with
    | some (.lst _) => some "list"
    | some (.dK _) => some "dict"
    | _ => none
  | _ => none
def isiT (T tag : String) : Bool := tag == T || (T == "int" && tag == "bool")
def tags : List String := ["NoneType", "bool", "int", "str", "tuple", "list", "dict"]
theorem kit_tags : ∀ a ∈ tags, ∀ b ∈ tags, b ≠ "NoneType" → kitB a b = some (isiT b a) := by decide +kernel
theorem tag_ty {K : PySem.W.Frag} {φ : Al} {H : Hp} {S : Store} {d : D} {v : V} {tag : String} (r : SR K φ S H) (rd : RD K φ H d v) (h : tagOf S d = some tag) : TyX K H v (.type tag) ∧ tag ∈ tags := by
  cases d with
  | non => rw [RD] at rd; subst rd; cases h; exact ⟨.base .non, by decide⟩
  | bl b => rw [RD] at rd; subst rd; cases h; exact ⟨.base (.bl b), by decide⟩
  | int b => rw [RD] at rd; subst rd; cases h; exact ⟨.base (.int b), by decide⟩
  | str b => rw [RD] at rd; subst rd; cases h; exact ⟨.base (.str b), by decide⟩
  | ty n => cases h
  | cls n => cases h
  | exo a d ks xs => cases h
  | tup xs =>
    obtain ⟨a, vs, rfl, h1, _⟩ := rd_tup rd
    cases h
    refine ⟨?_, by decide⟩
    rcases h1 with (h1 | ⟨o, h1⟩) | ⟨o, its, n, h1, h2, _⟩
    · exact .base (.tup h1)
    · exact .fTuple h1
    · exact .kTuple h1 h2
  | lst xs =>
    rw [RD] at rd
    obtain ⟨a, vs, rfl, h1, _⟩ := rd
    cases h
    exact ⟨.base (.lst h1.1), by decide⟩
  | frz xs =>
    rw [RD] at rd
    obtain ⟨a, vs, rfl, h1, _⟩ := rd
    cases h
    refine ⟨?_, by decide⟩
    rcases h1 with ⟨o, h1⟩ | (h1 | ⟨o, h1⟩) | ⟨o, its, n, h1, h2, _⟩
    · exact .base (.frz h1)
    · cases h1
    · cases h1
    · exact .kList h1 h2
  | dic ks xs =>
    rw [RD] at rd
    obtain ⟨a, vs, rfl, h1, _⟩ := rd
    cases h
    exact ⟨.base (.dK h1.1), by decide⟩
  | ref n =>
    simp only [tagOf] at h
    obtain ⟨a, rfl, ha⟩ := rd_ref rd
    split at h
    · rename_i xs e
      cases h
      obtain ⟨vs, h1, _⟩ := r.at_ n a _ ha e
      exact ⟨.base (.lst h1), by decide⟩
    · rename_i xs e
      cases h
      obtain ⟨vs, h1, _⟩ := r.at_ n a _ ha e
      exact ⟨.base (.dK h1), by decide⟩
    · cases h
def cIsi (T : String) : DR := fun ds S Q => ∃ d tag, ds = [d, .ty T] ∧ tagOf S d = some tag ∧ Q (.bl (isiT T tag)) S
theorem lk_isi {K : PySem.W.Frag} {T : String} (hT : T ∈ tags) (hN : T ≠ "NoneType") : LkC K (cIsi T) (rIsi K) := by
  rintro φ S H Q' Q ds vs r rd q ⟨d, tag, rfl, e, h⟩
  obtain ⟨v, w, rfl, h1, h2⟩ := rds2 rd
  rw [RD] at h2
  subst h2
  obtain ⟨ty, ht⟩ := tag_ty r h1 e
  exact ⟨v, .ty T, _, _, _, rfl, .ty T, ty, kit_ty (kit_tags tag ht T hT hN), q φ H S _ _ .refl r rd_bl h⟩
end Dy
namespace Dy
open PySem PySem.Spec PyProof.Rows L2
section
variable {X : Cx} {CX : CXT} {k : Nat} {C f : Addr} {fd : FuncData} {ps : List Str} {sp : Sp} {E : L2.St → XK} {x m : Str} {p apos pos : Pos} {o e : Expr} {es : List Expr} {t : TA} {ta : TE}
def tMakeS (C : Addr) (sp : Sp) (E : L2.St → XK) (t : TA) : TE := fun σ H Q => t σ H fun vs H1 => ∀ x dx, H1 x = none → H1 dx = none → dx ≠ x →
  sp (.ref x :: vs) (upd (upd H1 dx (.own x)) x (.ins C dx [])) (fun v H2 => v = .non ∧ Q (.ref x) H2) (E σ)
theorem runMakeS {pins : List (Addr × Obj)} {σ : L2.St} {H : Hp} {s : Shared} {Q : VK} {us : List Value} {vs : List V} (M : Mk X.K C f) (G : FnOk X.prog X.w X.K X.mg X.base CX k f fd ps sp) (hr : Room (k + 1) X.A) (hb : Binds X.K fd ps [])
    (hx : PassesAt CX X σ (E σ)) (I : Inv X pins σ H s) (r : Vals vs us) (h : ∀ x dx, H x = none → H dx = none → dx ≠ x → sp (.ref x :: vs) (upd (upd H dx (.own x)) x (.ins C dx [])) (fun v H2 => v = .non ∧ Q (.ref x) H2) (E σ)) :
    wpAny (model X.prog X.w) X.A (call (.ref C) us) (EP X pins σ Q) X.xe s := by
  have n1 := I.hok.fresh (Nat.le_succ s.heap.objs.size)
  have n0 := I.hok.fresh (Nat.le_refl s.heap.objs.size)
  have want := h _ _ n1 n0 (Nat.ne_of_lt (Nat.lt_succ_self _))
  have J := Inv.made (C := C) I
  have rr : Vals (V.ref (s.heap.objs.size + 1) :: vs) (Value.ref (s.heap.objs.size + 1) :: us) := .cons rfl r
  have ln : (Value.ref (s.heap.objs.size + 1) :: us).length = ps.length := rr.length.symm.trans (G.len _ _ _ _ want)
  have bb := hb _ (Value.ref (s.heap.objs.size + 1) :: us) J.kIn (by rw [List.append_nil]; exact ln)
  rw [List.append_nil] at bb
  have run := G.run _ X.stack _ _ ⟨Value.ref (s.heap.objs.size + 1) :: us, []⟩ _ _ _ (E σ) (hr.make C us []) (J.env0.make C us []) bb rr want
  refine wpAny_call (make_map (f := f) I.kIn M.makes M.init (beq_iff_eq.mp M.fn) (codeAny_mono run fun z s' hz => ?_))
  match z, hz with
  | .error er, hz => exact hx pins _ _ er s' J hz
  | .ok (.ret u), hz =>
    obtain ⟨v, H', J', rv, ev, qq⟩ := J.after hz
    subst ev
    exact ⟨rv, ⟨V.ref (s.heap.objs.size + 1), H', J', rfl, qq⟩⟩
theorem pe_makeS' (M : Mk X.K C f) (G : FnOk X.prog X.w X.K X.mg X.base CX k f fd ps sp) (hr : Room (k + 1) X.A) (hg : Gl X x) (hm : X.mg x = some (.ref C)) (hb : Binds X.K fd ps []) (hx : ∀ σ, PassesAt CX X σ (E σ)) (ha : PA X (e :: es) t)
    (hdb : (x == ("__debug__" : Str)) = false) (he : starEach (e :: es) X.env = (false, eval e X.env) :: starEach es X.env) (hpl : (backTo pos (starEach es X.env)).any (·.1) = false) : PE X (.Call (.Name x p) (e :: es) [] pos) (tMakeS C sp E t) :=
  ⟨fun pins s σ H Q I h => wpAny_Call_Name_kw (ld_glob I hg hm (PySem.W.callWith_K (h₀ := X.base) I.ok.mod.kin M.kp (thn (ha.run pos pins s σ H _ I h) fun us s1 ⟨vs, H1, I1, r, q⟩ => ⟨I1.kIn, runMakeS M G hr hb (hx σ) I1 r q⟩) he hpl) hdb)⟩
theorem pe_callS0' (G : FnOk X.prog X.w X.K X.mg X.base CX k f fd ps sp) (hr : Room k X.A) (hg : Gl X x) (hm : X.mg x = some (.ref f)) (hk : PySem.W.keepIn X.K (.ref f) = true) (hb : Binds X.K fd ps []) (hx : ∀ σ, PassesAt CX X σ (E σ))
    (hdb : (x == ("__debug__" : Str)) = false) : PE X (.Call (.Name x p) [] [] pos) (tCallS sp E tNil) :=
  ⟨fun pins s σ H Q I h => wpAny_Call_Name_kw (ld_glob I hg hm (PySem.W.callWith_K0 I.kIn hk (run_fnS (us := []) G hr hb (hx σ) I .nil h)) hdb)⟩
end
def putD (f : Str) (v : D) : List (Str × D) → List (Str × D)
  | [] => [(f, v)]
  | (g, x) :: r => if g = f then (g, v) :: r else (g, x) :: putD f v r
section
variable {K : PySem.W.Frag} {φ : Al} {H : Hp}
theorem RK.lookup {f : Str} : ∀ {fs : List (Str × D)} {ws : List (Str × V)}, RK K φ H fs ws → (∀ d, fs.lookup f = some d → ∃ v, ws.lookup f = some v ∧ RD K φ H d v) ∧ (fs.lookup f = none → ws.lookup f = none)
  | [], ws, h => by
    have : ws = [] := by have := h.1; simpa using this.symm
    subst this
    exact ⟨fun d e => by simp at e, fun _ => rfl⟩
  | (g, x) :: fs, [], h => by have := h.1; simp at this
  | (g, x) :: fs, (g2, v) :: ws, h => by
    obtain ⟨h1, h2⟩ := h
    simp only [List.map_cons, List.cons.injEq] at h1
    obtain ⟨rfl, h1⟩ := h1
    rw [List.map_cons, List.map_cons, RDs] at h2
    obtain ⟨v', r, e, r1, r2⟩ := h2
    cases e
    have ih := RK.lookup (f := f) (fs := fs) (ws := ws) ⟨h1, r2⟩
    by_cases e : f = g
    · subst e
      have l1 : ((f, x) :: fs).lookup f = some x := by simp [List.lookup]
      have l2 : ((f, v) :: ws).lookup f = some v := by simp [List.lookup]
      rw [l1, l2]
      exact ⟨fun d e => by cases e; exact ⟨v, rfl, r1⟩, fun e => by cases e⟩
    · have e' : (f == g) = false := by simpa using e
      have l1 : ((g, x) :: fs).lookup f = fs.lookup f := by simp [List.lookup, e']
      have l2 : ((g, v) :: ws).lookup f = ws.lookup f := by simp [List.lookup, e']
      rw [l1, l2]
      exact ih
theorem RK.put {f : Str} {d : D} {v : V} (rd : RD K φ H d v) : ∀ {fs : List (Str × D)} {ws : List (Str × V)}, RK K φ H fs ws → RK K φ H (putD f d fs) (putF f v ws)
  | [], ws, h => by
    have : ws = [] := by have := h.1; simpa using this.symm
    subst this
    exact ⟨rfl, .cons rd .nil⟩
  | (g, x) :: fs, [], h => by have := h.1; simp at this
  | (g, x) :: fs, (g2, u) :: ws, h => by
    obtain ⟨h1, h2⟩ := h
    simp only [List.map_cons, List.cons.injEq] at h1
    obtain ⟨rfl, h1⟩ := h1
    rw [List.map_cons, List.map_cons, RDs] at h2
    obtain ⟨v', r, e, r1, r2⟩ := h2
    cases e
    unfold putD putF
    by_cases e : g = f
    · rw [if_pos e, if_pos e]
      exact ⟨by simp [h1], .cons rd r2⟩
    · rw [if_neg e, if_neg e]
      obtain ⟨i1, i2⟩ := RK.put (f := f) rd (fs := fs) (ws := ws) ⟨h1, r2⟩
      exact ⟨by simp [i1], .cons r1 i2⟩
theorem RK.len {κ : Type} {fs : List (κ × D)} {ws : List (κ × V)} (h : RK K φ H fs ws) : ws.length = fs.length := by
  have := congrArg List.length h.1
  simpa using this.symm
end
section
variable {F : Fam} {W : WX} {o e : Expr} {es : List Expr} {to te : DTE} {t : DTA} {apos pos pos' : Pos} {f m x : Str} {C : Addr} {k : Nat} {fi : Addr} {fd : FuncData} {ps : List Str} {sp : DSp} {p : Pos}
/-- o.f, o an object of the store, of a class that P tells -/
def dFld (P : Addr → Prop) (f : Str) (to : DTE) : DTE := fun ρ S Q E => to ρ S (fun d S1 => ∃ n C fs v, d = .ref n ∧ S1[n]? = some (.ins C fs) ∧ P C ∧ fs.lookup f = some v ∧ Q v S1) E
theorem de_fld {P : Addr → Prop} (hP : ∀ C, P C → Cls F.K C ∧ NoAttr F.K C f) (ho : DE F W o to) (hb : ∀ i, attributeBase o f (F.X i).env (eval o (F.X i).env) = eval o (F.X i).env := by intro _; rfl) : DE F W (.Attribute o f pos) (dFld P f to) := by
  obtain ⟨t1, p1, k1⟩ := ho
  refine ⟨tFld F.K t1 f, fun i => F.hK i ▸ pe_fld (p1 i) (hb i), fun σ ρ φ S H E Q' Q o q h => ?_⟩
  refine k1 σ ρ φ S H E _ _ o (fun φ1 H1 S1 d v s1 r1 rd h1 => ?_) h
  obtain ⟨n, C, fs, u, rfl, e1, hC, e2, h1⟩ := h1
  obtain ⟨a, rfl, ha⟩ := rd_ref rd
  obtain ⟨dx, ws, hi, rk⟩ := r1.at_ n a _ ha e1
  obtain ⟨v, e3, rv⟩ := rk.lookup.1 u e2
  exact ⟨a, C, dx, ws, v, rfl, hi, (hP C hC).1, (hP C hC).2, e3, q φ1 H1 S1 _ _ s1 r1 rv h1⟩
/-- o.f = e -/
def dSetF (P : Addr → Prop) (f : Str) (to te : DTE) : DTS := fun D ρ S => te ρ S (fun d S1 => to ρ S1 (fun o S2 => ∃ n C fs, o = .ref n ∧ S2[n]? = some (.ins C fs) ∧ P C ∧ fs.length < 1000 ∧ D.nx ρ (S2.set n (.ins C (putD f d fs)))) (fun x S1 => D.ex x ρ S1)) (fun x S1 => D.ex x ρ S1)
theorem ds_fld {P : Addr → Prop} (hP : ∀ C, P C → Cls F.K C ∧ NoAttr F.K C f) (ho : DE F W o to) (he : DE F W e te) (hs : ∀ i, swapsWith e (some (.Attribute o f pos')) pos.line (F.X i).env = pure false := by intro _; rfl) :
    DS F W (.Assign [.Attribute o f pos'] e pos) (dSetF P f to te) := by
  obtain ⟨t1, p1, k1⟩ := ho
  obtain ⟨t2, p2, k2⟩ := he
  refine ⟨sFld F.K t1 t2 f, fun i => F.hK i ▸ ps_fld (p1 i) (p2 i) (hs i), fun σ ρ φ S H D' D r sl l h => ?_⟩
  have o0 := l.ok r sl
  refine k2 σ ρ φ S H _ _ _ o0 (fun φ1 H1 S1 d v s1 r1 rd h1 => ?_) h
  refine k1 σ ρ φ1 S1 H1 _ _ _ (o0.mono s1 r1) (fun φ2 H2 S2 ob ov s2 r2 ro h2 => ?_) h1
  obtain ⟨n, C, fs, rfl, e1, hC, hl, q⟩ := h2
  obtain ⟨a, rfl, ha⟩ := rd_ref ro
  obtain ⟨dx, ws, hi, rk⟩ := r2.at_ n a _ ha e1
  have rd2 := RD.mono s2 r1.muts _ _ rd
  have st := r2.step_put (ho := .ins C dx (putF f v ws)) ha
  refine ⟨a, C, dx, ws, rfl, hi, (hP C hC).1, (hP C hC).2, by rw [rk.len]; exact hl, ?_⟩
  exact l.nx _ _ _ _ _ ((s1.trans s2).trans st) (r2.put (o := .ins C (putD f d fs)) ha ⟨dx, _, upd_same, (rk.put rd2).mono st r2.muts⟩) (sl.mono ((s1.trans s2).trans st) r.muts) q
def dMake (C : Addr) (sp : DSp) (t : DTA) : DTE := fun ρ S Q E => t ρ S (fun ds S1 => sp (.ref S1.length :: ds) (S1 ++ [.ins C []]) (fun d S2 => d = .non ∧ Q (.ref S1.length) S2) E) E
theorem make_link {K : PySem.W.Frag} {σ : L2.St} {ρ : Rho} {φ : Al} {S : Store} {H : Hp} {E : XQ} {Q' : QD} {Q : VK} {ds : List D} {vs : List V} (o : Ok K W σ ρ φ S H E) (q : EndV K φ H Q' Q) (rd : RDs K φ H ds vs) (h : sp (.ref S.length :: ds) (S ++ [.ins C []]) (fun d S2 => d = .non ∧ Q' (.ref S.length) S2) E) :
    ∀ x dx, H x = none → H dx = none → dx ≠ x → liftSp K sp (.ref x :: vs) (upd (upd H dx (.own x)) x (.ins C dx [])) (fun v H2 => v = .non ∧ Q (.ref x) H2) (WE W σ) := by
  intro x dx hx hdx ne
  have hx2 : upd H dx (.own x) x = none := by rw [upd_ne (Ne.symm ne)]; exact hx
  have s1 : Step φ φ H (upd H dx (.own x)) := step_new hdx
  have r1 : SR K φ S (upd H dx (.own x)) := o.sr.new hdx
  have s2 := step_push r1 (ho := .ins C dx []) hx2
  have r2 : SR K (φ.push x) (S ++ [.ins C []]) (upd (upd H dx (.own x)) x (.ins C dx [])) := r1.push (o := .ins C []) hx2 ⟨dx, [], upd_same, rfl, .nil⟩
  have s12 := s1.trans s2
  have rx : RD K (φ.push x) (upd (upd H dx (.own x)) x (.ins C dx [])) (.ref S.length) (.ref x) := by rw [RD]; exact ⟨x, rfl, by show (φ.l ++ [x])[S.length]? = _; rw [o.sr.len]; simp⟩
  refine ⟨φ.push x, S ++ [.ins C []], _, _, E, r2, .cons rx (RDs.mono s12 o.sr.muts _ _ rd), h, fun φ' H' S' d v s r rd' hh => ?_, (o.mono s12 r2).ex⟩
  obtain ⟨rfl, hh⟩ := hh
  rw [RD] at rd'
  exact ⟨rd', q _ _ _ _ _ (s12.trans s) r (RD.mono s r2.muts _ _ rx) hh⟩
end
end Dy
namespace Dy
open PySem PySem.Spec PyProof.Rows L2
/-- an own error class at C -/
structure ErrC (K : PySem.W.Frag) (C : Addr) : Prop where
  kp : PySem.W.keepIn K (.ref C) = true
  sub : PySem.W.subIn K (.ref C) (.type "BaseException") = some true
  ty : PySem.W.typeIn K (.ref C) = some (.type "type")
/-- .. that keeps its one argument as f; its __init__ at fI -/
structure ErrF (K : PySem.W.Frag) (C : Addr) (f : Str) (fI : Addr) : Prop extends ErrC K C where
  cls : ∃ nm q N bs bm sn sub ab col dd k0 k1 k2 k3 k5, K.lookup C = some (excClassObj nm q C N bs bm true sn sub ab col dd k0 k1 k2 k3 k5 "ValueError.__new__") ∧ PySem.HandSPX.refsVE bm = true
  sa : PySem.W.findIn K (.ref C) "__setattr__" = some (some (.builtin "object.__setattr__"))
  nof : PySem.W.findIn K (.ref C) f = some none
  init : PySem.W.findIn K (.ref C) "__init__" = some (some (.ref fI))
  tI : PySem.W.typeIn K (.ref fI) = some (.type "function")
theorem ErrF.oex {K : PySem.W.Frag} {C fI : Addr} {f : Str} (e : ErrF K C f fI) : OexC K C := ⟨e.cls, e.sa, e.sub, e.ty, e.kp⟩
/-- the promise of such an __init__ -/
def spEI (C : Addr) (f : Str) : Sp := fun vs H Q _ => ∃ a v, vs = [.ref a, v] ∧ H a = some (exo a C none) ∧ ∀ dx, H dx = none → dx ≠ a → Q .non (upd (upd H dx (exd dx [(f, v)])) a (exo a C (some dx)))
section
variable {P : Program} {w : World} {K : PySem.W.Frag} {mg : Str → Option Value} {base : Heap}
theorem err_init {qual f : Str} {st : Stmt} {C fI : Addr} {fd : FuncData} {p1 p2 p3 p4 : Pos} (F : Fun K "__init__" qual st fI fd) (S : FnScope ["self", f] ["self", f] (defScope st))
    (hb : defBody st = [.Assign [.Attribute (.Name "self" p1) f p2] (.Name f p3) p4]) (T : ErrF K C f fI) (h1 : (f == ("__debug__" : Str)) = false := by decide) (h2 : (f == ("__classdict__" : Str)) = false := by decide) : FnOk P w K mg base (L2.CX P w) 1 fI fd ["self", f] (spEI C f) := by
  refine F.okX S (fun vs H Q E h => ?_) (fun cdv A outer s H vs Q E hr h => ?_)
  · obtain ⟨a, v, rfl, _⟩ := h
    rfl
  · obtain ⟨a, v, rfl, ha, q⟩ := h
    rw [hb]
    have v1 : Vis (defScope st) "self" := by
      rcases S.par "self" (by simp) with z | z
      · exact .inl z
      · exact .inr (.inl z)
    have v2 : Vis (defScope st) f := by
      rcases S.par f (by simp) with z | z
      · exact .inl z
      · exact .inr (.inl z)
    refine ⟨_, pss_one (ps_ost (pe_var (i := 0) rfl v1) (pe_var (i := 1) rfl v2 h1 h2)), ?_⟩
    exact ⟨v, rfl, _, rfl, a, C, rfl, T.oex, T.nof, .inl ⟨ha, fun dx hdx ne => q dx hdx ne⟩⟩
end
section
variable {F : Fam} {W : WX} {e : Expr} {te : DTE} {x f : Str} {C fI : Addr} {p pos pos2 : Pos} {fd : FuncData} {k : Nat}
def dRaise0 (C : Addr) : DTS := fun D ρ S => D.ex ⟨C, none⟩ ρ S
def dRaiseF (C : Addr) (f : Str) (te : DTE) : DTS := fun D ρ S => te ρ S (fun d S1 => D.ex ⟨C, some [(f, d)]⟩ ρ S1) (fun x S1 => D.ex x ρ S1)
theorem ds_raiseF (hc : ∀ i, (F.X i).calm = true) (T : ErrF F.K C f fI) (tk : ∀ i, Takes (F.X i) W) (hm : ∀ i, (F.X i).mg x = some (.ref C)) (G : ∀ i, FnOk (F.X i).prog (F.X i).w (F.X i).K (F.X i).mg (F.X i).base (L2.CX (F.X i).prog (F.X i).w) k fI fd ["self", f] (spEI C f)) (hr : ∀ i, Room (k + 1) (F.X i).A) (hb : ∀ i, Binds (F.X i).K fd ["self", f] [])
    (he : DE F W e te) (hg : ∀ i, Gl (F.X i) x := by intro _; rfl) (hdb : (x == ("__debug__" : Str)) = false := by decide)
    (hs : ∀ i, starEach [e] (F.X i).env = (false, eval e (F.X i).env) :: starEach [] (F.X i).env := by intro _; rfl) (hpl : ∀ i, (backTo pos (starEach [] (F.X i).env)).any (·.1) = false := by intro _; rfl) :
    DS F W (.Raise (some (.Call (.Name x p) [e] [] pos)) none pos2) (dRaiseF C f te) := by
  obtain ⟨t1, p1, k1⟩ := he
  refine ⟨fun _ σ H => tMkO C (spEI C f) [] (tCons t1 tNil) σ H fun cls d H' => W cls d σ H', fun i => ?_, fun σ ρ φ S H D' D r sl l h => ?_⟩
  · have T' : OexC (F.X i).K C := by rw [F.hK]; exact T.oex
    exact ps_raise (hc i) (tk i) (pmk_oex T' (by rw [F.hK]; exact T.init) (by rw [F.hK]; exact T.tI) (G i) (hr i) (hb i) .nil passL (hg i) (hm i) (pa_cons (p1 i) pa_nil (hs i)) hdb (hs i) (hpl i))
  · refine k1 σ ρ φ S H _ _ _ (l.ok r sl) (fun φ1 H1 S1 d v s1 r1 rd h1 => ?_) h
    refine ⟨by show 1 ≤ 1000; decide, fun a ha => ⟨a, v, rfl, upd_same, fun dx hdx ne => ⟨rfl, dx, [(f, v)], upd_same, ?_, ?_, ?_⟩⟩⟩
    · rw [upd_ne ne, upd_same]
    · rw [upd_ne ne] at hdx; exact hdx
    · have hdx' : H1 dx = none := by rw [upd_ne ne] at hdx; exact hdx
      have e : upd (del (upd (upd (upd H1 a (L2.exo a C none)) dx (exd dx [(f, v)])) a (L2.exo a C (some dx))) a) dx (.xd [(f, v)]) = upd H1 dx (.xd [(f, v)]) := by
        funext b
        by_cases q : b = dx
        · subst q; rw [upd_same, upd_same]
        · rw [upd_ne q, upd_ne q]
          by_cases q2 : b = a
          · subst q2; rw [del_same, ha]
          · rw [del_ne q2, upd_ne q2, upd_ne q, upd_ne q2]
      rw [e]
      have st : Step φ1 φ1 H1 (upd H1 dx (.xd [(f, v)])) := step_new hdx'
      exact l.ex _ _ _ _ _ ⟨C, some [(f, d)]⟩ _ _ (s1.trans st) (r1.new hdx') ((sl.mono s1 r.muts).mono st r1.muts) ⟨rfl, dx, [(f, v)], rfl, upd_same, rfl, .cons (RD.mono st r1.muts _ _ rd) .nil⟩ h1
end
/-- the caught error as a value -/
def exV (a : Addr) (d : Option Addr) (x : Exc) : D := match x.fs, d with
  | some fs, some dd => .exo a dd (fs.map (·.1)) (fs.map (·.2))
  | _, _ => .cls a
theorem zip_map {κ : Type} : ∀ ws : List (κ × V), (ws.map (·.1)).zip (ws.map (·.2)) = ws
  | [] => rfl
  | w :: ws => by simp [zip_map ws]
theorem exV_rd {K : PySem.W.Frag} {φ : Al} {H : Hp} {x : Exc} {cls : Value} {d : Option Addr} (h : ExR K φ H x cls d) (a : Addr) : RD K φ H (exV a d x) (.ref a) := by
  obtain ⟨C, fs⟩ := x
  obtain ⟨_, h⟩ := h
  cases fs with
  | none => unfold exV; rw [RD]
  | some fs =>
    obtain ⟨dd, ws, rfl, h1, h2, h3⟩ := h
    show RD K φ H (.exo a dd (fs.map (·.1)) (fs.map (·.2))) (.ref a)
    rw [RD]
    refine ⟨ws.map (·.2), rfl, ?_, ?_, h3⟩
    · have h2' : fs.map (·.1) = ws.map (·.1) := h2
      rw [h2', zip_map]; exact h1
    · have := congrArg List.length h2
      simpa using this
section
variable {F : Fam} {W : WX} {x n : Str} {c : Value} {i : Nat} {body suite : List Stmt} {b0 : Stmt} {np pos pos' : Pos} {tb : DTS} {ts : Addr → Exc → Option Addr → DTS}
/-- the contexts of a try's body, of an except suite -/
def Fam.tr (F : Fam) (W' : WX) : Fam := ⟨Σ' (i : F.ι) (pn : List (Addr × Obj)) (xe : Value → Shared → Prop), Takes ((F.X i).tr pn xe) W' ∧ PassesOwn (model (F.X i).prog (F.X i).w) (F.X i).A (F.X i).env xe, fun j => (F.X j.1).tr j.2.1 j.2.2.1, F.K, fun j => F.hK j.1⟩
def Fam.su (F : Fam) (a : Addr) (cls : Value) (d : Option Addr) : Fam := ⟨Σ' (i : F.ι) (oe : Obj) (pn : List (Addr × Obj)), Zc cls d oe ∧ ∃ vs, oe.data = .fields vs, fun j => (F.X j.1).suite a ((a, j.2.1) :: j.2.2.1), F.K, fun j => F.hK j.1⟩
/-- em: of which classes the clause takes the errors -/
theorem ExR.some {K : PySem.W.Frag} {φ : Al} {H : Hp} {x : Exc} {cls : Value} {d : Option Addr} (h : ExR K φ H x cls d) : d.isSome = x.fs.isSome := by
  obtain ⟨C, fs⟩ := x
  obtain ⟨_, h⟩ := h
  cases fs with
  | none => have h : d = none := h; subst h; rfl
  | some fs => obtain ⟨dd, ws, rfl, _⟩ := h; rfl
def dTryAs (em : Addr → Option Bool) (i : Nat) (tb : DTS) (ts : Addr → Exc → Option Addr → DTS) : DTS := fun D ρ S =>
  tb { D with ex := fun x ρ1 S1 => ∃ b, em x.C = some b ∧ (b = true → ∀ a d, d.isSome = x.fs.isSome → ts a x d { D with nx := fun ρ2 S2 => D.nx (ρ2.set i none) S2, bk := fun ρ2 S2 => D.bk (ρ2.set i none) S2, ct := fun ρ2 S2 => D.ct (ρ2.set i none) S2, ex := fun _ _ _ => False } (ρ1.set i (some (exV a d x))) S1) ∧ (b = false → D.ex x ρ1 S1) } ρ S
theorem ds_tryAs (i : Nat) {em : Addr → Option Bool} (hem : ∀ C b, em C = some b → PySem.W.exmOne F.K (.ref C) c = some b) (hs : ∀ j, (F.X j).stack = (F.X j).env :: (F.X j).outer) (hf : ∀ j, (F.X j).env.frame = some (F.X j).env.locals) (hN : ∀ j, (F.X j).N.Nodup)
    (hc : ∀ j, Names (F.X j) x c) (tk : ∀ j, Takes (F.X j) W) (hb : ∀ W', DSs (F.tr W') W' body tb) (hsu : ∀ a x d, DSs (F.su a (.ref x.C) d) W0 (b0 :: suite) (ts a x d))
    (hi : ∀ j, (F.X j).N[i]? = some n := by intro _; rfl) (hln : ∀ j, (F.X j).env.kindOf n = some .local := by intro _; rfl) :
    DS F W (.Try body [.ExceptHandler (some (.Name x np)) (some n) (b0 :: suite) pos'] [] [] pos) (dTryAs em i tb ts) := by
  have hb' : ∀ W', ∃ t : TS, (∀ j, PSs ((F.tr W').X j) body t) ∧ ∀ σ ρ φ S H D' D, SR F.K φ S H → Sl F.K φ H ρ σ → Lnk F.K W' φ H D' D → tb D' ρ S → t D σ H := hb
  -- the suite's reading by values: for every error that it may be
  let tsV : Addr → Value → Option Addr → TS := fun a cls d D σ H => ∃ y : Exc, cls = .ref y.C ∧ (Classical.choose (hsu a y d)) D σ H
  have hsV : ∀ (j : F.ι) (a : Addr) (oe : Obj) (cls : Value) (d : Option Addr) (pn : List (Addr × Obj)), Zc cls d oe → (∃ vs, oe.data = .fields vs) → PSs ((F.X j).suite a ((a, oe) :: pn)) (b0 :: suite) (tsV a cls d) := by
    intro j a oe cls d pn z fv
    refine ⟨fun pins s σ H D I h => ?_⟩
    obtain ⟨y, rfl, h⟩ := h
    exact ((Classical.choose_spec (hsu a y d)).1 ⟨j, oe, pn, z, fv⟩).run pins s σ H D I h
  refine ⟨fun D σ H => (Classical.choose (hb' (wAs F.K c i tsV W D))) D σ H, fun j => ?_, fun σ ρ φ S H D' D r sl l h => ?_⟩
  · have := ps_try_as (i := i) (tb := fun W' => Classical.choose (hb' W')) (ts := tsV) (pos := pos) (pos' := pos') (np := np) (hs j) (hf j) (hN j) (hi j) (hln j) (hc j) (tk j) (fun W' pn xe tk' pa => (Classical.choose_spec (hb' W')).1 ⟨j, pn, xe, tk', pa⟩) (hsV j)
    rw [F.hK j] at this
    exact this
  · refine (Classical.choose_spec (hb' (wAs F.K c i tsV W D))).2 σ ρ φ S H { D' with ex := fun x ρ1 S1 => ∃ b, em x.C = some b ∧ (b = true → ∀ a d, d.isSome = x.fs.isSome → ts a x d { D' with nx := fun ρ2 S2 => D'.nx (ρ2.set i none) S2, bk := fun ρ2 S2 => D'.bk (ρ2.set i none) S2, ct := fun ρ2 S2 => D'.ct (ρ2.set i none) S2, ex := fun _ _ _ => False } (ρ1.set i (some (exV a d x))) S1) ∧ (b = false → D'.ex x ρ1 S1) } D r sl ⟨l.nx, l.rt, l.bk, l.ct, ?_⟩ h
    intro φ1 H1 S1 ρ1 σ1 y cls d s1 r1 sl1 xr hh
    obtain ⟨b, eb, h1, h2⟩ := hh
    have ec : cls = .ref y.C := xr.1
    subst ec
    refine ⟨b, hem _ _ eb, fun e a ha => ⟨y, rfl, ?_⟩, fun e => l.ex _ _ _ _ _ _ _ _ s1 r1 sl1 xr (h2 e)⟩
    refine (Classical.choose_spec (hsu a y d)).2 _ _ φ1 S1 H1 _ _ r1 (sl1.set (exV_rd xr a)) ?_ (h1 e a d xr.some)
    have l1 := l.mono s1
    exact ⟨fun _ _ _ _ _ s r sl q => l1.nx _ _ _ _ _ s r sl.unset q, l1.rt, fun _ _ _ _ _ s r sl q => l1.bk _ _ _ _ _ s r sl.unset q, fun _ _ _ _ _ s r sl q => l1.ct _ _ _ _ _ s r sl.unset q, fun _ _ _ _ _ _ _ _ _ _ _ _ z => z.elim⟩
end
section
variable {F : Fam} {W : WX} {a : Addr} {C : Addr} {d : Option Addr} {e : Expr} {te : DTE} {f : Str} {pos : Pos}
theorem zip_lookup {K : PySem.W.Frag} {φ : Al} {H : Hp} {f : Str} {u : D} : ∀ {ks : List Str} {xs : List D} {vs : List V}, RDs K φ H xs vs → (ks.zip xs).lookup f = some u → ∃ v, (ks.zip vs).lookup f = some v ∧ RD K φ H u v
  | [], xs, vs, _, h => by simp at h
  | k :: ks, [], vs, _, h => by simp at h
  | k :: ks, x :: xs, vs, r, h => by
    rw [RDs] at r
    obtain ⟨v, vs', rfl, r1, r2⟩ := r
    rw [List.zip_cons_cons] at h ⊢
    by_cases e : f = k
    · subst e
      have l1 : ((f, x) :: ks.zip xs).lookup f = some x := by simp [List.lookup]
      have l2 : ((f, v) :: ks.zip vs').lookup f = some v := by simp [List.lookup]
      rw [l1] at h
      cases h
      exact ⟨v, l2, r1⟩
    · have e' : (f == k) = false := by simpa using e
      have l1 : ((k, x) :: ks.zip xs).lookup f = (ks.zip xs).lookup f := by simp [List.lookup, e']
      have l2 : ((k, v) :: ks.zip vs').lookup f = (ks.zip vs').lookup f := by simp [List.lookup, e']
      rw [l1] at h
      rw [l2]
      exact zip_lookup r2 h
/-- the suite's own error is what e is worth; d tells where its dict is -/
theorem de_xf {dd : Addr} (T : XfC F.K C) (hno : PySem.W.findIn F.K (.ref C) f = some none) (he : DE (F.su a (.ref C) (some dd)) W e te) (hb : ∀ i, attributeBase e f ((F.su a (.ref C) (some dd)).X i).env (eval e ((F.su a (.ref C) (some dd)).X i).env) = eval e ((F.su a (.ref C) (some dd)).X i).env := by intro _; rfl) :
    DE (F.su a (.ref C) (some dd)) W (.Attribute e f pos) (fun ρ S Q E => te ρ S (fun v S1 => ∃ ks xs u, v = .exo a dd ks xs ∧ (ks.zip xs).lookup f = some u ∧ Q u S1) E) := by
  obtain ⟨t1, p1, k1⟩ := he
  refine ⟨tXf a (.ref C) (some dd) C f t1, fun j => ?_, fun σ ρ φ S H E Q' Q o q h => ?_⟩
  · obtain ⟨i, oe, pn, z, fv⟩ := j
    have T' : XfC (F.X i).K C := by rw [F.hK]; exact T
    exact pe_xf T' (by rw [F.hK]; exact hno) z fv (p1 ⟨i, oe, pn, z, fv⟩) (hb ⟨i, oe, pn, z, fv⟩)
  · refine k1 σ ρ φ S H E _ _ o (fun φ1 H1 S1 v u s1 r1 rd h1 => ?_) h
    obtain ⟨ks, xs, y, rfl, el, h1⟩ := h1
    rw [RD] at rd
    obtain ⟨vs, rfl, e1, hl, rs⟩ := rd
    obtain ⟨w, e2, rw'⟩ := zip_lookup rs el
    exact ⟨rfl, rfl, dd, _, w, rfl, e1, e2, q φ1 H1 S1 _ _ s1 r1 rw' h1⟩
/-- what a class must say so that isinstance asks its errors rightly -/
structure ExcI (K : PySem.W.Frag) (C : Addr) : Prop where
  cl : (PySem.W.clsIn K C).isSome = true
  ga : PySem.W.findIn K (.ref C) "__getattribute__" = some (some (.builtin "BaseException.__getattribute__"))
  gg : PySem.W.findIn K (.ref C) "__getattr__" = some none
  sub : PySem.W.subIn K (.ref C) (.type "BaseException") = some true
  ca : PySem.W.findIn K (.ref C) "__class__" = some (some (.builtin "object.__class__"))
  cn : PySem.W.specialIn K (.builtin "object.__class__") "__get__" = some (some (.builtin "getset_descriptor.__get__"))
  ck : PySem.W.takesIn K (.builtin "object.__class__") = some true
  cm : PySem.W.mroIn K C (.type "object") = some true
/-- isinstance(e, c): the error at a, its dict -/
def rIsX (K : PySem.W.Frag) (C a : Addr) (d : Option Addr) : List V → Hp → VK → Prop := fun xs H Q => ∃ (c : V) (cv : Value) (b : Bool), xs = [.ref a, c] ∧ ClsV c cv ∧ PySem.W.kitOne K (.ref C) cv = some b ∧ (∀ dd, d = some dd → ∃ fs, H dd = some (.xd fs)) ∧ Q (.bl b) H
theorem call_isX {X : Cx} {oe : Obj} {pn : List (Addr × Obj)} (T : ExcI X.K C) (hz : Zc (.ref C) d oe) (hf : ∃ vs, oe.data = .fields vs) : CallR (X.suite a ((a, oe) :: pn)) (.builtin "isinstance") (rIsX X.K C a d) := by
  intro pins s σ H xs us Q I r h
  obtain ⟨c, cv, b, rfl, hcv, e, hd, q⟩ := h
  obtain ⟨u1, u2, rfl, r1, r2⟩ := vals2 r
  cases (show u1 = Value.ref a from r1)
  have ec := hcv.eq r2
  subst ec
  obtain ⟨hget, _⟩ := I.pin (a, oe) (List.mem_append.mpr (.inl List.mem_cons_self))
  obtain ⟨vs, hv⟩ := hf
  obtain ⟨oc, od, oda, osl⟩ := oe
  obtain ⟨h1, h2⟩ := hz
  dsimp only at h1 h2 hv
  subst h1 h2 hv
  have done : ∀ tk, EP (X.suite a ((a, ⟨.ref C, od, .fields vs, osl⟩) :: pn)) pins σ Q (.bool b) { s with toks := tk } := fun tk => ⟨.bl b, H, I.tok tk, rfl, q⟩
  have nb : Value.ref a ≠ .builtin "__main__.__loader__#opaque" := fun z => nomatch z
  cases od with
  | none => exact PySem.W.kia_one (PySem.W.kitx_exc (ox := ⟨.ref C, none, .fields vs, osl⟩) (od := none) T.cl T.ga T.gg T.sub T.ca T.cn T.ck T.cm) I.kIn ⟨hget, rfl, rfl, trivial⟩ e nb done
  | some dd =>
    obtain ⟨fs, hx⟩ := hd dd rfl
    obtain ⟨mA, hns, _⟩ : ObjOk _ _ H s.heap dd (.xd fs) := I.hok dd _ hx
    obtain ⟨od, ho, _⟩ := lookIn_ns hns
    exact PySem.W.kia_one (PySem.W.kitx_exc (ox := ⟨.ref C, some dd, .fields vs, osl⟩) (od := some od) T.cl T.ga T.gg T.sub T.ca T.cn T.ck T.cm) I.kIn ⟨hget, rfl, rfl, ho⟩ e nb done
end
end Dy
namespace Dy
open PySem PySem.Spec PyProof.Rows L2
mutual
def pyD : D → Option PyData
  | .non => some .none
  | .bl b => some (.bool b)
  | .int i => some (.int i)
  | .str x => some (.str x)
  | .tup xs => (pyDs xs).map .tuple
  | .lst xs => (pyDs xs).map .list
  | .frz xs => (pyDs xs).map .list
  | _ => none
def pyDs : List D → Option (List PyData)
  | [] => some []
  | x :: xs => (pyD x).bind fun d => (pyDs xs).map fun ds => d :: ds
end
def pyS (S : Store) : D → Option PyData
  | .ref n => match S[n]? with
    | some (.lst xs) => (pyDs xs).map .list
    | _ => none
  | d => pyD d
section
variable {K : PySem.W.Frag} {φ : Al} {H : Hp} {S : Store}
mutual
theorem dp_of : ∀ (d : D) (v : V) (p : PyData), RD K φ H d v → pyD d = some p → Dp K H v p ∧ p.plain = true
  | .non, v, p, h, e => by rw [RD] at h; rw [pyD] at e; cases e; subst h; exact ⟨.non, rfl⟩
  | .bl b, v, p, h, e => by rw [RD] at h; rw [pyD] at e; cases e; subst h; exact ⟨.bl b, rfl⟩
  | .int b, v, p, h, e => by rw [RD] at h; rw [pyD] at e; cases e; subst h; exact ⟨.int b, rfl⟩
  | .str b, v, p, h, e => by rw [RD] at h; rw [pyD] at e; cases e; subst h; exact ⟨.str b, rfl⟩
  | .tup xs, v, p, h, e => by
    rw [RD] at h
    rw [pyD] at e
    obtain ⟨a, vs, rfl, h1, h2⟩ := h
    cases q : pyDs xs with
    | none => rw [q] at e; cases e
    | some ps =>
      rw [q] at e; cases e
      obtain ⟨i1, i2⟩ := dps_of xs vs ps h2 q
      exact ⟨.tup h1 i1, by rw [PyData.plain]; exact i2⟩
  | .lst xs, v, p, h, e => by
    rw [RD] at h
    rw [pyD] at e
    obtain ⟨a, vs, rfl, h1, h2⟩ := h
    cases q : pyDs xs with
    | none => rw [q] at e; cases e
    | some ps =>
      rw [q] at e; cases e
      obtain ⟨i1, i2⟩ := dps_of xs vs ps h2 q
      exact ⟨.lst h1.sq i1, by rw [PyData.plain]; exact i2⟩
  | .frz xs, v, p, h, e => by
    rw [RD] at h
    rw [pyD] at e
    obtain ⟨a, vs, rfl, h1, h2⟩ := h
    cases q : pyDs xs with
    | none => rw [q] at e; cases e
    | some ps =>
      rw [q] at e; cases e
      obtain ⟨i1, i2⟩ := dps_of xs vs ps h2 q
      exact ⟨.lst h1.sq i1, by rw [PyData.plain]; exact i2⟩
  | .ty n, v, p, h, e => by rw [pyD] at e <;> first | cases e | exact fun _ => nofun | nofun
  | .dic ks xs, v, p, h, e => by rw [pyD] at e <;> first | cases e | exact fun _ => nofun | nofun
  | .ref n, v, p, h, e => by rw [pyD] at e <;> first | cases e | exact fun _ => nofun | nofun
  | .cls n, v, p, h, e => by rw [pyD] at e <;> first | cases e | exact fun _ => nofun | nofun
  | .exo _ _ _ _, v, p, h, e => by rw [pyD] at e <;> first | cases e | exact fun _ => nofun | nofun
theorem dps_of : ∀ (xs : List D) (vs : List V) (ps : List PyData), RDs K φ H xs vs → pyDs xs = some ps → DpAll K H vs ps ∧ PyData.plainAll ps = true
  | [], vs, ps, h, e => by rw [RDs] at h; rw [pyDs] at e; cases e; subst h; exact ⟨.nil, rfl⟩
  | x :: xs, vs, ps, h, e => by
    rw [RDs] at h
    rw [pyDs] at e
    obtain ⟨v, r, rfl, h1, h2⟩ := h
    cases q : pyD x with
    | none => rw [q] at e; cases e
    | some d =>
      rw [q] at e
      cases q2 : pyDs xs with
      | none => rw [q2] at e; cases e
      | some ds =>
        rw [q2] at e; cases e
        obtain ⟨i1, i2⟩ := dp_of x v d h1 q
        obtain ⟨j1, j2⟩ := dps_of xs r ds h2 q2
        exact ⟨.cons i1 j1, by rw [PyData.plainAll, i2, j2]; rfl⟩
end
theorem dpS_of (r : SR K φ S H) {d : D} {v : V} {p : PyData} (h : RD K φ H d v) (e : pyS S d = some p) : Dp K H v p ∧ p.plain = true := by
  cases d with
  | ref n =>
    simp only [pyS] at e
    split at e
    · rename_i xs q
      obtain ⟨a, vs, rfl, _, h1, h2⟩ := r.lst h q
      cases q2 : pyDs xs with
      | none => rw [q2] at e; cases e
      | some ds =>
        rw [q2] at e; cases e
        obtain ⟨j1, j2⟩ := dps_of xs vs ds h2 q2
        exact ⟨.lst (SqL.of h1) j1, by rw [PyData.plain]; exact j2⟩
    · cases e
  | _ => exact dp_of _ v p h e
end
def rEqP (K : PySem.W.Frag) (neg : Bool) : R2 := fun x y H Q => ∃ d e, Dp K H x d ∧ Dp K H y e ∧ d.plain = true ∧ e.plain = true ∧ min d.depth e.depth ≤ 60 ∧ Q (.bl (neg ^^ PyData.eqv d e)) H
theorem ep_bl {X : Cx} {pins : List (Addr × Obj)} {σ : L2.St} {s : Shared} {Q : VK} {b c : Bool} (I : Inv X pins σ H s) (q : Q (.bl b) H) (e : b = c) : EP X pins σ Q (.bool c) s := ⟨.bl c, H, I, rfl, e ▸ q⟩
theorem op_eqP {X : Cx} (hu : X.A.units + 64 < cLine) : OpR X (compareOp .Eq) (rEqP X.K false) := by
  rintro pins s σ H x y v u Q I rx ry ⟨d, e, dx, dy, p1, p2, hd, q⟩
  obtain ⟨as, ra⟩ := Dp.reads I d x v dx rx
  obtain ⟨bs, rb⟩ := Dp.reads I e y u dy ry
  exact SeqAt.eq_plain ra rb p1 p2 (by omega) (ep_bl I q (by simp))
theorem op_neP {X : Cx} (hu : X.A.units + 64 < cLine) : OpR X (compareOp .NotEq) (rEqP X.K true) := by
  rintro pins s σ H x y v u Q I rx ry ⟨d, e, dx, dy, p1, p2, hd, q⟩
  obtain ⟨as, ra⟩ := Dp.reads I d x v dx rx
  obtain ⟨bs, rb⟩ := Dp.reads I e y u dy ry
  exact SeqAt.ne_plain ra rb p1 p2 (by omega) (ep_bl I q (by simp))
/-- == -/
def dEqN (neg : Bool) : D2 := fun x y S Q => match x, y with
  | .int i, .int j => Q (.bl (neg ^^ decide (i = j))) S
  | .str i, .str j => Q (.bl (neg ^^ decide (i = j))) S
  | .bl i, .bl j => Q (.bl (neg ^^ decide (i = j))) S
  | .non, .non => Q (.bl (neg ^^ true)) S
  | x, y => ∃ d e, pyS S x = some d ∧ pyS S y = some e ∧ min d.depth e.depth ≤ 60 ∧ Q (.bl (neg ^^ PyData.eqv d e)) S
theorem lk_eqN {K : PySem.W.Frag} (neg : Bool) : Lk K (dEqN neg) (rEqP K neg) := by
  intro φ S H Q' Q x y v1 v2 r r1 r2 q h
  have gen : ∀ d e : PyData, pyS S x = some d → pyS S y = some e → min d.depth e.depth ≤ 60 → Q' (.bl (neg ^^ PyData.eqv d e)) S → rEqP K neg v1 v2 H Q := fun d e e1 e2 hd h => by
    obtain ⟨i1, i2⟩ := dpS_of r r1 e1
    obtain ⟨j1, j2⟩ := dpS_of r r2 e2
    exact ⟨d, e, i1, j1, i2, j2, hd, q φ H S _ _ .refl r rd_bl h⟩
  unfold dEqN at h
  split at h
  · rename_i i j
    refine gen (.int i) (.int j) rfl rfl (by simp [PyData.depth]) ?_
    have : PyData.eqv (.int i) (.int j) = decide (i = j) := by rw [PyData.eqv]; exact PySem.W.beq_decide i j
    rw [this]; exact h
  · rename_i i j
    refine gen (.str i) (.str j) rfl rfl (by simp [PyData.depth]) ?_
    have : PyData.eqv (.str i) (.str j) = decide (i = j) := by rw [PyData.eqv]; exact PySem.W.beq_decide i j
    rw [this]; exact h
  · rename_i i j
    refine gen (.bool i) (.bool j) rfl rfl (by simp [PyData.depth]) ?_
    have : PyData.eqv (.bool i) (.bool j) = decide (i = j) := by rw [PyData.eqv]; exact PySem.W.beq_decide i j
    rw [this]; exact h
  · exact gen .none .none rfl rfl (by simp [PyData.depth]) h
  · obtain ⟨d, e, e1, e2, hd, h⟩ := h
    exact gen d e e1 e2 hd h
theorem lk_eq {K : PySem.W.Frag} : Lk K (dEqN false) (rEqP K false) := lk_eqN false
theorem lk_ne {K : PySem.W.Frag} : Lk K (dEqN true) (rEqP K true) := lk_eqN true
section
variable {F : Fam} {k : Nat}
theorem oq_eq (hr : ∀ i, Room k (F.X i).A) (i : F.ι) : OpR (F.X i) (compareOp .Eq) (rEqP F.K false) := F.hK i ▸ op_eqP (hr i).units
theorem oq_ne (hr : ∀ i, Room k (F.X i).A) (i : F.ι) : OpR (F.X i) (compareOp .NotEq) (rEqP F.K true) := F.hK i ▸ op_neP (hr i).units
end
/-- x in a list, a tuple -/
def rInP (K : PySem.W.Frag) (neg : Bool) : R2 := fun x y H Q => ∃ d ds, (Dp K H y (.list ds) ∨ Dp K H y (.tuple ds)) ∧ Dp K H x d ∧ PyData.plainAll ds = true ∧ d.plain = true ∧ min (PyData.depthAll ds) d.depth ≤ 60 ∧ Q (.bl (neg ^^ ds.any fun z => PyData.eqv z d)) H
theorem op_inP {X : Cx} (hu : X.A.units + 64 < cLine) : OpR X (compareOp .In) (rInP X.K false) := by
  rintro pins s σ H x y v u Q I rx ry ⟨d, ds, dy, dx, p1, p2, hd, q⟩
  obtain ⟨as, ra⟩ := Dp.reads I d x v dx rx
  rcases dy with dy | dy
  · obtain ⟨bs, rb⟩ := Dp.reads I _ y u dy ry
    exact SeqAt.in_list_data rb ra p1 p2 (by omega) (ep_bl I q (by simp))
  · obtain ⟨bs, rb⟩ := Dp.reads I _ y u dy ry
    exact SeqAt.in_tuple_data rb ra p1 p2 (by omega) (ep_bl I q (by simp))
def dInN (neg : Bool) : D2 := fun x y S Q => ∃ d ys ds, pyS S x = some d ∧ sqOf S y = some ys ∧ pyDs ys = some ds ∧ min (PyData.depthAll ds) d.depth ≤ 60 ∧ Q (.bl (neg ^^ ds.any fun z => PyData.eqv z d)) S
theorem lk_inN {K : PySem.W.Frag} (neg : Bool) : Lk K (dInN neg) (rInP K neg) := by
  rintro φ S H Q' Q x y v1 v2 r r1 r2 q ⟨d, ys, ds, e1, e2, e3, hd, h⟩
  obtain ⟨i1, i2⟩ := dpS_of r r1 e1
  obtain ⟨a, vs, rfl, h1, h2⟩ := sq_of r r2 e2
  obtain ⟨j1, j2⟩ := dps_of ys vs ds h2 e3
  refine ⟨d, ds, ?_, i1, j2, i2, hd, q φ H S _ _ .refl r rd_bl h⟩
  rcases h1 with h1 | h1
  · exact .inl (.lst h1 j1)
  · exact .inr (.tup h1 j1)
theorem bt_int : bootBuiltins "int" = some (.type "int") := by decide +kernel
theorem bt_bool : bootBuiltins "bool" = some (.type "bool") := by decide +kernel
theorem bt_str : bootBuiltins "str" = some (.type "str") := by decide +kernel
theorem bt_tuple : bootBuiltins "tuple" = some (.type "tuple") := by decide +kernel
theorem bt_list : bootBuiltins "list" = some (.type "list") := by decide +kernel
theorem bt_dict : bootBuiltins "dict" = some (.type "dict") := by decide +kernel
theorem bt_abs : bootBuiltins "abs" = some (.builtin "abs") := by decide +kernel
theorem bt_len : bootBuiltins "len" = some (.builtin "len") := by decide +kernel
theorem bt_all : bootBuiltins "all" = some (.builtin "all") := by decide +kernel
theorem bt_isinstance : bootBuiltins "isinstance" = some (.builtin "isinstance") := by decide +kernel
theorem bt_ValueError : bootBuiltins "ValueError" = some (.type "ValueError") := by decide +kernel
section
variable {F : Fam} {W : WX} {e e2 : Expr} {t : DTA} {p pos : Pos} {k : Nat}
abbrev St1 (F : Fam) (e : Expr) (es : List Expr) : Prop := ∀ i, starEach (e :: es) (F.X i).env = (false, eval e (F.X i).env) :: starEach es (F.X i).env
abbrev Pl1 (F : Fam) (pos : Pos) (es : List Expr) : Prop := ∀ i, (backTo pos (starEach es (F.X i).env)).any (·.1) = false
theorem dc_int (hm : ∀ i, (F.X i).mg "int" = none) (ha : DA F W [e] t) (hg : ∀ i, Gl (F.X i) "int" := by intro _; rfl) (he : St1 F e [] := by intro _; rfl) (hp : Pl1 F pos [] := by intro _; rfl) : DE F W (.Call (.Name "int" p) [e] [] pos) (dCB cInt t) := de_callTy (fun _ => call_int1) lk_int hg hm bt_int ha (he := he) (hpl := hp)
theorem dc_abs (hm : ∀ i, (F.X i).mg "abs" = none) (ha : DA F W [e] t) (hg : ∀ i, Gl (F.X i) "abs" := by intro _; rfl) (he : St1 F e [] := by intro _; rfl) (hp : Pl1 F pos [] := by intro _; rfl) : DE F W (.Call (.Name "abs" p) [e] [] pos) (dCB cAbs t) := de_callB (fun _ => call_abs) lk_abs hg hm bt_abs ha (he := he) (hpl := hp)
theorem dc_len (hm : ∀ i, (F.X i).mg "len" = none) (ha : DA F W [e] t) (hg : ∀ i, Gl (F.X i) "len" := by intro _; rfl) (he : St1 F e [] := by intro _; rfl) (hp : Pl1 F pos [] := by intro _; rfl) : DE F W (.Call (.Name "len" p) [e] [] pos) (dCB cLen t) := de_callB (fun i => F.hK i ▸ call_len_seq) lk_len hg hm bt_len ha (he := he) (hpl := hp)
theorem dc_all (hc : ∀ i, (F.X i).calm = true) (hm : ∀ i, (F.X i).mg "all" = none) (ha : DA F W [e] t) (hg : ∀ i, Gl (F.X i) "all" := by intro _; rfl) (he : St1 F e [] := by intro _; rfl) (hp : Pl1 F pos [] := by intro _; rfl) : DE F W (.Call (.Name "all" p) [e] [] pos) (dCB cAll t) := de_callB (fun i => F.hK i ▸ cr_all (hc i)) lk_all hg hm bt_all ha (he := he) (hpl := hp)
theorem dc_tuple (hm : ∀ i, (F.X i).mg "tuple" = none) (ha : DA F W [e] t) (hg : ∀ i, Gl (F.X i) "tuple" := by intro _; rfl) (he : St1 F e [] := by intro _; rfl) (hp : Pl1 F pos [] := by intro _; rfl) : DE F W (.Call (.Name "tuple" p) [e] [] pos) (dCB cTuple t) := de_callTy (fun i => F.hK i ▸ call_tuple_of) lk_tuple hg hm bt_tuple ha (he := he) (hpl := hp)
theorem dc_isi {T : String} (hT : T ∈ tags) (hN : T ≠ "NoneType") (hm : ∀ i, (F.X i).mg "isinstance" = none) (ha : DA F W [e, e2] t) (hg : ∀ i, Gl (F.X i) "isinstance" := by intro _; rfl) (he : St1 F e [e2] := by intro _; rfl) (hp : Pl1 F pos [e2] := by intro _; rfl) :
    DE F W (.Call (.Name "isinstance" p) [e, e2] [] pos) (dCB (cIsi T) t) := de_callB (fun i => F.hK i ▸ call_isi) (lk_isi hT hN) hg hm bt_isinstance ha (he := he) (hpl := hp)
end
def Cal (P : Program) (w : World) (K : PySem.W.Frag) (mg : Str → Option Value) (base : Heap) (x : Str) (k : Nat) (ps : List Str) (sp : DSp) : Prop :=
  ∃ f fd, FnOk P w K mg base (L2.CX P w) k f fd ps (liftSp K sp) ∧ mg x = some (.ref f) ∧ PySem.W.keepIn K (.ref f) = true ∧ Binds K fd ps []
section
variable {F : Fam} {W : WX} {e : Expr} {es : List Expr} {t : DTA} {p pos : Pos} {k k2 : Nat} {x : Str} {ps : List Str} {sp : DSp}
abbrev CalF (F : Fam) (x : Str) (k : Nat) (ps : List Str) (sp : DSp) : Prop := ∀ i, Cal (F.X i).prog (F.X i).w (F.X i).K (F.X i).mg (F.X i).base x k ps sp
theorem de_callC (c : CalF F x k ps sp) (hr : ∀ i, Room k2 (F.X i).A) (hk : k ≤ k2) (tk : ∀ i, Takes (F.X i) W) (ha : DA F W (e :: es) t) (hg : ∀ i, Gl (F.X i) x := by intro _; rfl) (hdb : (x == ("__debug__" : Str)) = false := by decide) (he : St1 F e es := by intro _; rfl) (hp : Pl1 F pos es := by intro _; rfl) :
    DE F W (.Call (.Name x p) (e :: es) [] pos) (dCall sp t) := by
  obtain ⟨t1, p1, k1⟩ := ha
  refine ⟨tCallS (liftSp F.K sp) (WE W) t1, fun i => ?_, fun σ ρ φ S H E Q' Q o q h => k1 σ ρ φ S H E _ _ o (fun φ1 H1 S1 ds vs s1 r1 rd h1 => call_link (o.mono s1 r1) (q.mono s1) rd h1) h⟩
  obtain ⟨f, fd, G, gm, kp, bd⟩ := c i
  rw [F.hK i] at G
  have G' : FnOk (F.X i).prog (F.X i).w (F.X i).K (F.X i).mg (F.X i).base (L2.CX (F.X i).prog (F.X i).w) k f fd ps (liftSp F.K sp) := by rw [F.hK i]; exact G
  exact pe_callS G' ((hr i).mono hk) (hg i) gm kp bd (fun σ => passAt (tk i) σ) (p1 i) hdb (he i) (hp i)
theorem de_callC0 (c : CalF F x k ps sp) (hr : ∀ i, Room k2 (F.X i).A) (hk : k ≤ k2) (tk : ∀ i, Takes (F.X i) W) (hg : ∀ i, Gl (F.X i) x := by intro _; rfl) (hdb : (x == ("__debug__" : Str)) = false := by decide) : DE F W (.Call (.Name x p) [] [] pos) (dCall sp dNil) := by
  refine ⟨tCallS (liftSp F.K sp) (WE W) tNil, fun i => ?_, fun σ ρ φ S H E Q' Q o q h => call_link o q .nil h⟩
  obtain ⟨f, fd, G, gm, kp, bd⟩ := c i
  rw [F.hK i] at G
  have G' : FnOk (F.X i).prog (F.X i).w (F.X i).K (F.X i).mg (F.X i).base (L2.CX (F.X i).prog (F.X i).w) k f fd ps (liftSp F.K sp) := by rw [F.hK i]; exact G
  exact pe_callS0' G' ((hr i).mono hk) (hg i) gm kp bd (fun σ => passAt (tk i) σ) hdb
end
end Dy
namespace Dy
open PySem PySem.Spec PyProof.Rows L2
def dPut (d o i : D) (P : Store → Prop) (S : Store) : Prop := ∃ n xs k j, o = .ref n ∧ S[n]? = some (.lst xs) ∧ i = .int k ∧ ixN xs.length k = some j ∧ P (S.set n (.lst (xs.set j d)))
section
variable {ρ : Rho} {S : Store} {Q : QD} {E : XQ} {ta tb tc te to ti : DTE} {uA uB : DTT} {t tr : DTA} {r r' : D2} {d d2 x y : D} {i j n : Nat} {D' : DEnds} {u v : DTS} {QT : Bool → Store → Prop} {QA : List D → Store → Prop}
theorem c_op (h : ta ρ S (fun d1 S1 => tb ρ S1 (fun d2 S2 => r d1 d2 S2 Q) E) E) : dOp r ta tb ρ S Q E := h
theorem c_un {r : D → Store → QD → Prop} (h : ta ρ S (fun d S1 => r d S1 Q) E) : dUn r ta ρ S Q E := h
theorem c_var (e : ρ[i]? = some (some d)) (h : Q d S) : dVar i ρ S Q E := ⟨d, e, h⟩
theorem c_c (h : Q d S) : dC d ρ S Q E := h
theorem c_nil (h : QA [] S) : dNil ρ S QA E := h
theorem c_cons (h : te ρ S (fun d S1 => tr ρ S1 (fun ds S2 => QA (d :: ds) S2) E) E) : dCons te tr ρ S QA E := h
theorem c_tup (h : t ρ S (fun ds S1 => ds.length ≤ sizeLine ∧ Q (.tup ds) S1) E) : dTup t ρ S Q E := h
theorem c_lst (h : t ρ S (fun ds S1 => ds.length ≤ sizeLine ∧ Q (.lst ds) S1) E) : dLst t ρ S Q E := h
theorem c_new (h : t ρ S (fun ds S1 => ds.length ≤ sizeLine ∧ Q (.ref S1.length) (S1 ++ [.lst ds])) E) : dNew t ρ S Q E := h
theorem c_cb {r : DR} (h : t ρ S (fun ds S1 => r ds S1 Q) E) : dCB r t ρ S Q E := h
theorem c_call {sp : DSp} (h : t ρ S (fun ds S1 => sp ds S1 Q E) E) : dCall sp t ρ S Q E := h
theorem c_if (h : uA ρ S (fun c S1 => if c = true then ta ρ S1 Q E else tb ρ S1 Q E) E) : dIf uA ta tb ρ S Q E := h
theorem c_andV (h : ta ρ S (fun d S1 => ∃ c, d = .bl c ∧ if c = true then tb ρ S1 Q E else Q (.bl false) S1) E) : dAndV ta tb ρ S Q E := h
theorem c_orV (h : ta ρ S (fun d S1 => ∃ c, d = .bl c ∧ if c = true then Q (.bl true) S1 else tb ρ S1 Q E) E) : dOrV ta tb ρ S Q E := h
theorem c_notV (h : ta ρ S (fun d S1 => ∃ c, d = .bl c ∧ Q (.bl (!c)) S1) E) : dNotV ta ρ S Q E := h
theorem c_test (h : te ρ S (fun d S1 => ∃ k, d = .bl k ∧ QT k S1) E) : dTest te ρ S QT E := h
theorem c_and (h : uA ρ S (fun c S1 => if c = true then uB ρ S1 QT E else QT false S1) E) : dAnd uA uB ρ S QT E := h
theorem c_or (h : uA ρ S (fun c S1 => if c = true then QT true S1 else uB ρ S1 QT E) E) : dOr uA uB ρ S QT E := h
theorem c_not (h : uA ρ S (fun c S1 => QT (!c) S1) E) : dNot uA ρ S QT E := h
theorem c_yes (h : QT true S) : dYes ρ S QT E := h
theorem c_bl {P : Bool → Prop} {b : Bool} (h : P b) : ∃ k, D.bl b = .bl k ∧ P k := ⟨b, rfl, h⟩
theorem c_chain {r r' : D2} (h : ta ρ S (fun x S1 => tb ρ S1 (fun y S2 => r x y S2 fun z S3 => ∃ k, z = .bl k ∧ (if k = true then tc ρ S3 (fun w S4 => r' y w S4 Q) E else Q (.bl false) S3)) E) E) : dChain r r' ta tb tc ρ S Q E := h
theorem c_sl {r : D → Option Int → Option Int → Store → QD → Prop} {tl th : DTO} (h : te ρ S (fun x S1 => tl ρ S1 (fun l S2 => th ρ S2 (fun u S3 => r x l u S3 Q) E) E) E) : dSl r te tl th ρ S Q E := h
theorem c_nopart {QO : Option Int → Store → Prop} (h : QO none S) : dNoPart ρ S QO E := h
theorem c_part {QO : Option Int → Store → Prop} (h : te ρ S (fun d S1 => ∃ i, d = .int i ∧ QO (some i) S1) E) : dPart te ρ S QO E := h
theorem c_intE {P : Int → Prop} {i : Int} (h : P i) : ∃ k, D.int i = .int k ∧ P k := ⟨i, rfl, h⟩
theorem o_I0 {g : Int → Int → D} {i j : Int} (h : Q (g i j) S) : dI0 g (.int i) (.int j) S Q := ⟨i, j, rfl, rfl, h⟩
theorem o_I {C : Int → Int → Prop} {g : Int → Int → D} {i j : Int} (c : C i j) (h : Q (g i j) S) : dI C g (.int i) (.int j) S Q := ⟨i, j, rfl, rfl, c, h⟩
theorem o_addI {i j : Int} (h : Q (.int (i + j)) S) : dAdd (.int i) (.int j) S Q := h
theorem o_addT {xs ys : List D} (c : xs.length + ys.length ≤ sizeLine) (h : Q (.tup (xs ++ ys)) S) : dAdd (.tup xs) (.tup ys) S Q := ⟨c, h⟩
theorem o_addS {i j : Str} (c : i.length + j.length ≤ sizeLine) (h : Q (.str (i ++ j)) S) : dAdd (.str i) (.str j) S Q := ⟨c, h⟩
theorem o_ix {xs : List D} {i : Int} {v : D} (e : sqOf S x = some xs) (e2 : atI xs i = some v) (h : Q v S) : dIx x (.int i) S Q := ⟨xs, i, v, e, rfl, e2, h⟩
theorem o_cat {xs ys : List D} (e1 : lsM S x = some xs) (e2 : lsM S y = some ys) (c : xs.length + ys.length ≤ sizeLine) (h : Q (.lst (xs ++ ys)) S) : dCat x y S Q := ⟨xs, ys, e1, e2, c, h⟩
theorem o_isN (h : Q (.bl (isN x)) S) : dIsN x .non S Q := ⟨rfl, h⟩
theorem o_notN (h : Q (.bl (!isN x)) S) : dNotN x .non S Q := ⟨rfl, h⟩
theorem o_eqI {neg : Bool} {i j : Int} (h : Q (.bl (neg ^^ decide (i = j))) S) : dEqN neg (.int i) (.int j) S Q := h
theorem o_eqS {neg : Bool} {i j : Str} (h : Q (.bl (neg ^^ decide (i = j))) S) : dEqN neg (.str i) (.str j) S Q := h
theorem o_eqB {neg : Bool} {i j : Bool} (h : Q (.bl (neg ^^ decide (i = j))) S) : dEqN neg (.bl i) (.bl j) S Q := h
theorem o_neg {i : Int} (h : Q (.int (-i)) S) : dNeg (.int i) S Q := ⟨i, rfl, h⟩
theorem o_slT {xs : List D} {lo hi : Option Int} (h : Q (.tup (cutD xs lo hi)) S) : dSlT (.tup xs) lo hi S Q := ⟨xs, rfl, h⟩
theorem o_slL {xs : List D} {lo hi : Option Int} (e : lsOf S x = some xs) (h : Q (.lst (cutD xs lo hi)) S) : dSlL x lo hi S Q := ⟨xs, e, h⟩
theorem o_int {i : Int} (h : Q (.int i) S) : cInt [.int i] S Q := .inl ⟨i, rfl, h⟩
theorem o_intB {b : Bool} (h : Q (.int (if b then 1 else 0)) S) : cInt [.bl b] S Q := .inr ⟨b, rfl, h⟩
theorem o_abs {i : Int} (h : Q (.int (if i < 0 then -i else i)) S) : cAbs [.int i] S Q := ⟨i, rfl, h⟩
theorem o_len {xs : List D} (e : sqOf S d = some xs) (h : Q (.int xs.length) S) : cLen [d] S Q := ⟨d, xs, rfl, e, h⟩
theorem o_list {xs : List D} (e : sqOf S d = some xs) (h : Q (.lst xs) S) : cList [d] S Q := ⟨d, xs, rfl, e, h⟩
theorem o_listN {xs : List D} (e : sqOf S d = some xs) (h : Q (.ref S.length) (S ++ [.lst xs])) : cListN [d] S Q := ⟨d, xs, rfl, e, h⟩
theorem o_tuple {xs : List D} (e : sqOf S d = some xs) (h : Q (.tup xs) S) : cTuple [d] S Q := ⟨d, xs, rfl, e, h⟩
theorem o_isi {T tag : String} (e : tagOf S d = some tag) (h : Q (.bl (isiT T tag)) S) : cIsi T [d, .ty T] S Q := ⟨d, tag, rfl, e, h⟩
theorem o_lsAnd {xs : List D} {B : Prop} (e : lsOf S d = some xs) (h : B) : (∃ xs, lsOf S d = some xs) ∧ B := ⟨⟨xs, e⟩, h⟩
variable {nx bk ct : Rho → Store → Prop} {rt : D → Store → Prop} {ex : Exc → Rho → Store → Prop}
theorem s_seq (h : u ⟨v ⟨nx, rt, bk, ct, ex⟩, rt, bk, ct, ex⟩ ρ S) : dSeq u v ⟨nx, rt, bk, ct, ex⟩ ρ S := h
theorem s_next (h : nx ρ S) : dNext ⟨nx, rt, bk, ct, ex⟩ ρ S := h
theorem s_asg (h : te ρ S (fun d S1 => nx (ρ.set i (some d)) S1) (fun x S1 => ex x ρ S1)) : dAsg te (eName i) ⟨nx, rt, bk, ct, ex⟩ ρ S := h
theorem s_asgG {g : DTG} (h : te ρ S (fun d S1 => g d ρ S1 nx) (fun x S1 => ex x ρ S1)) : dAsg te g ⟨nx, rt, bk, ct, ex⟩ ρ S := h
theorem s_drop (h : te ρ S (fun _ S1 => nx ρ S1) (fun x S1 => ex x ρ S1)) : dDrop te ⟨nx, rt, bk, ct, ex⟩ ρ S := h
theorem s_ret (h : te ρ S rt (fun x S1 => ex x ρ S1)) : dRet te ⟨nx, rt, bk, ct, ex⟩ ρ S := h
theorem s_retN (h : rt .non S) : dRetN ⟨nx, rt, bk, ct, ex⟩ ρ S := h
theorem s_ifs (h : uA ρ S (fun b S1 => if b = true then u ⟨nx, rt, bk, ct, ex⟩ ρ S1 else v ⟨nx, rt, bk, ct, ex⟩ ρ S1) (fun x S1 => ex x ρ S1)) : dIfS uA u v ⟨nx, rt, bk, ct, ex⟩ ρ S := h
theorem s_par (h : t ρ S (fun ds S1 => ∃ d c, ds = [d, c] ∧ nx ((ρ.set i (some d)).set j (some c)) S1) (fun x S1 => ex x ρ S1)) : dPar i j t ⟨nx, rt, bk, ct, ex⟩ ρ S := h
theorem s_two {P : D → D → Prop} {a b : D} (h : P a b) : ∃ d c, [a, b] = [d, c] ∧ P d c := ⟨a, b, rfl, h⟩
theorem s_aug (e : ρ[i]? = some (some x)) (h : te ρ S (fun d S1 => r x d S1 fun z S2 => nx (ρ.set i (some z)) S2) (fun x S1 => ex x ρ S1)) : dAug i te r ⟨nx, rt, bk, ct, ex⟩ ρ S := ⟨x, e, h⟩
theorem s_setL (h : te ρ S (fun d S1 => to ρ S1 (fun o S2 => ti ρ S2 (fun i S3 => dPut d o i (nx ρ) S3) (fun x S1 => ex x ρ S1)) (fun x S1 => ex x ρ S1)) (fun x S1 => ex x ρ S1)) : dSetL te to ti ⟨nx, rt, bk, ct, ex⟩ ρ S := h
theorem o_put {P : Store → Prop} {xs : List D} {k : Int} (e : S[n]? = some (.lst xs)) (e2 : ixN xs.length k = some j)
    (h : ∀ S', S'.length = S.length → S'[n]? = some (.lst (xs.set j d)) → (∀ m : Nat, m ≠ n → S'[m]? = S[m]?) → P S') : dPut d (.ref n) (.int k) P S := by
  refine ⟨n, xs, k, j, rfl, e, rfl, e2, h _ (by simp) ?_ fun m hm => List.getElem?_set_ne (Ne.symm hm)⟩
  exact List.getElem?_set_self (List.getElem?_eq_some_iff.mp e).1
theorem g_name {P : Rho → Store → Prop} (h : P (ρ.set i (some d)) S) : eName i d ρ S P := h
theorem g_tup {P : Rho → Store → Prop} {g : DTGs} {xs : List D} (e : xs.length = n) (h : g xs ρ S P) : eTup n g (.tup xs) ρ S P := ⟨xs, rfl, e, h⟩
theorem g_nil {P : Rho → Store → Prop} (h : P ρ S) : eNil [] ρ S P := ⟨rfl, h⟩
theorem g_cons {P : Rho → Store → Prop} {g : DTG} {gs : DTGs} {ds : List D} (h : g d ρ S fun ρ1 S1 => gs ds ρ1 S1 P) : eCons g gs (d :: ds) ρ S P := ⟨d, ds, rfl, h⟩
theorem sq_ref {xs : List D} (e : S[n]? = some (.lst xs)) : sqOf S (.ref n) = some xs := by unfold sqOf lsOf; simp only [e]
theorem ls_ref {xs : List D} (e : S[n]? = some (.lst xs)) : lsOf S (.ref n) = some xs := by unfold lsOf; simp only [e]
theorem lm_ref {xs : List D} (e : S[n]? = some (.lst xs)) : lsM S (.ref n) = some xs := by unfold lsM; simp only [e]
theorem tg_ref {xs : List D} (e : S[n]? = some (.lst xs)) : tagOf S (.ref n) = some "list" := by unfold tagOf; simp only [e]
theorem o_app {xs : List D} {y : D} (e : S[n]? = some (.lst xs)) (b : xs.length < sizeLine)
    (h : ∀ S', S'.length = S.length → S'[n]? = some (.lst (xs ++ [y])) → (∀ m : Nat, m ≠ n → S'[m]? = S[m]?) → Q .non S') : mApp (.ref n) [y] S Q :=
  ⟨n, xs, y, rfl, rfl, e, b, h _ (by simp) (List.getElem?_set_self (List.getElem?_eq_some_iff.mp e).1) fun m hm => List.getElem?_set_ne (Ne.symm hm)⟩
theorem s_bm {r : DM} (h : to ρ S (fun o S1 => (∃ xs, lsOf S1 o = some xs) ∧ t ρ S1 (fun ds S2 => r o ds S2 Q) E) E) : dBM r to t ρ S Q E := h
theorem s_bm0 {r : DM} (h : to ρ S (fun o S1 => (∃ xs, lsOf S1 o = some xs) ∧ r o [] S1 Q) E) : dBM0 r to ρ S Q E := h
theorem s_rng1 {R : List D → (Store → Prop) → Store → Prop} (h : t ρ S (fun ds S1 => ∃ j : Int, ds = [.int j] ∧ -(2 ^ 62) ≤ j ∧ j < 2 ^ 62 ∧ R (rngD 0 j.toNat) (fun _ => True) S1) E) : jRng1 t ρ S R E := h
theorem s_sq {R : List D → (Store → Prop) → Store → Prop} (h : te ρ S (fun d S1 => ∃ xs, sqOf S1 d = some xs ∧ R xs (fun S => sqOf S d = some xs) S1) E) : jSq te ρ S R E := h
/-- a list of the store is put anew: the store behind it is told by what it holds -/
theorem put_at {P : Store → Prop} {o : SO} {so : SO} (hn : S[n]? = some so) (h : ∀ S', S'.length = S.length → S'[n]? = some o → (∀ m : Nat, m ≠ n → S'[m]? = S[m]?) → P S') : P (S.set n o) := by
  refine h _ (by simp) ?_ fun m hm => List.getElem?_set_ne (Ne.symm hm)
  exact List.getElem?_set_self (List.getElem?_eq_some_iff.mp hn).1
end
theorem ifD {P : Prop} [Decidable P] {A B : Prop} (h1 : P → A) (h2 : ¬P → B) : if decide P = true then A else B := by
  by_cases h : P
  · rw [if_pos (decide_eq_true h)]; exact h1 h
  · rw [if_neg fun c => h (of_decide_eq_true c)]; exact h2 h
def dLcK (g : D → Rho → (Rho → Prop) → Prop) (tt : DTT) (te : DTE) (ρ : Rho) (Q : QD) (xs : List D) (live : Store → Prop) (S1 : Store) : Prop :=
  ∃ Pv : Nat → List D → Store → Prop, Pv 0 [] S1 ∧ (∀ k acc S, k ≤ xs.length → Pv k acc S → live S) ∧
  (∀ k x acc S, xs[k]? = some x → Pv k acc S → g x ρ fun ρ2 => tt ρ2 S (fun b S2 => if b = true then te ρ2 S2 (fun y S3 => acc.length < sizeLine ∧ Pv (k + 1) (acc ++ [y]) S3) noX else Pv (k + 1) acc S2) noX) ∧
  ∀ acc S, Pv xs.length acc S → Q (.lst acc) S
theorem c_lc {ρ : Rho} {S : Store} {Q : QD} {E : XQ} {ti : DTI} {g : D → Rho → (Rho → Prop) → Prop} {tt : DTT} {te : DTE} (h : ti ρ S (fun xs live S1 => dLcK g tt te ρ Q xs live S1) E) : dLc ti g tt te ρ S Q E := h
theorem c_lcN {ρ : Rho} {S : Store} {Q : QD} {E : XQ} {ti : DTI} {g : D → Rho → (Rho → Prop) → Prop} {tt : DTT} {te : DTE} (h : ti ρ S (fun xs live S1 => dLcK g tt te ρ (fun d S1 => ∃ xs, d = .lst xs ∧ Q (.ref S1.length) (S1 ++ [.lst xs])) xs live S1) E) : dLcN ti g tt te ρ S Q E := h
/-- items told by a function, a test told by a function -/
theorem o_lcG {ρ : Rho} {S : Store} {Q : QD} {tt : DTT} {te : DTE} {i : Nat} {xs : List D} {live : Store → Prop} (f : D → D) (p : D → Bool) (hl : live S) (hz : xs.length ≤ sizeLine)
    (ht : ∀ x ∈ xs, ∀ P : Bool → Store → Prop, P (p x) S → tt (ρ.set i (some x)) S P noX) (he : ∀ x ∈ xs, p x = true → ∀ P : QD, P (f x) S → te (ρ.set i (some x)) S P noX)
    (h : Q (.lst ((xs.filter p).map f)) S) : dLcK (c1 i) tt te ρ Q xs live S := by
  refine ⟨fun k acc S' => S' = S ∧ acc = ((xs.take k).filter p).map f, ⟨rfl, by simp⟩, fun k acc S' _ ⟨e, _⟩ => e ▸ hl, fun k x acc S' hx ⟨e, ea⟩ => ?_, fun acc S' ⟨e, ea⟩ => ?_⟩
  · subst e ea
    have m := List.mem_of_getElem? hx
    refine ht x m _ ?_
    have st : xs.take (k + 1) = xs.take k ++ [x] := by rw [List.take_succ, hx]; rfl
    cases e : p x with
    | false =>
      rw [if_neg Bool.false_ne_true]
      refine ⟨rfl, ?_⟩
      rw [st, List.filter_append]
      simp [e]
    | true =>
      rw [if_pos rfl]
      refine he x m e _ ⟨?_, rfl, ?_⟩
      · have h1 : k < xs.length := (List.getElem?_eq_some_iff.mp hx).1
        have h2 := List.length_filter_le p (xs.take k)
        rw [List.length_take] at h2
        rw [List.length_map]
        omega
      · rw [st, List.filter_append]
        simp [e]
  · subst e ea
    rw [List.take_length]
    exact h
/-- items told by a function -/
theorem o_lcM {ρ : Rho} {S : Store} {Q : QD} {te : DTE} {i : Nat} {xs : List D} {live : Store → Prop} (f : D → D) (hl : live S) (hz : xs.length ≤ sizeLine)
    (he : ∀ x ∈ xs, ∀ P : QD, P (f x) S → te (ρ.set i (some x)) S P noX) (h : Q (.lst (xs.map f)) S) : dLcK (c1 i) dYes te ρ Q xs live S := by
  refine o_lcG f (fun _ => true) hl hz (fun _ _ P h => h) (fun x m _ => he x m) ?_
  rw [List.filter_eq_self.mpr fun _ _ => rfl]
  exact h
/-- a loop behind its items -/
def dForK (g : DTG) (tb : DTS) (nx : Rho → Store → Prop) (rt : D → Store → Prop) (ex : Exc → Rho → Store → Prop) (ρ : Rho) (xs : List D) (live : Store → Prop) (S1 : Store) : Prop :=
  ∃ Pv : Nat → Rho → Store → Prop, Pv 0 ρ S1 ∧ (∀ i ρ S, i ≤ xs.length → Pv i ρ S → live S) ∧
  (∀ i x ρ S, xs[i]? = some x → Pv i ρ S → g x ρ S fun ρ2 S2 => tb ⟨Pv (i + 1), rt, nx, Pv (i + 1), ex⟩ ρ2 S2) ∧ ∀ ρ S, Pv xs.length ρ S → nx ρ S
theorem s_for {ρ : Rho} {S : Store} {nx bk ct : Rho → Store → Prop} {rt : D → Store → Prop} {ex : Exc → Rho → Store → Prop} {ti : DTI} {g : DTG} {tb : DTS} (h : ti ρ S (fun xs live S1 => dForK g tb nx rt ex ρ xs live S1) (fun x S1 => ex x ρ S1)) : dFor ti g tb ⟨nx, rt, bk, ct, ex⟩ ρ S := h
theorem sz_and {n : Nat} {P : Prop} (h : n ≤ 100000) (k : P) : n ≤ sizeLine ∧ P := ⟨Nat.le_trans h (by decide), k⟩
theorem ifB {c : Bool} {A B : Prop} (h1 : c = true → A) (h2 : c = false → B) : if c = true then A else B := by
  cases c with
  | false => rw [if_neg Bool.false_ne_true]; exact h2 rfl
  | true => rw [if_pos rfl]; exact h1 rfl
theorem ifYes {c : Bool} {A B : Prop} (e : c = true) (h : A) : if c = true then A else B := by rw [if_pos e]; exact h
theorem ifNo {c : Bool} {A B : Prop} (e : c = false) (h : B) : if c = true then A else B := by rw [e, if_neg Bool.false_ne_true]; exact h
theorem small {n : Nat} (h : n ≤ 100000) : n ≤ sizeLine := Nat.le_trans h (by decide)
theorem at0 {α : Type} (xs : List α) : atI xs 0 = xs[0]? := by
  unfold atI ixN
  cases xs <;> simp
theorem atN {α : Type} (xs : List α) (k : Nat) : atI xs (k : Int) = xs[k]? := by
  unfold atI ixN
  by_cases h : k < xs.length
  · simp [h]
  · simp [h]
theorem at1 {α : Type} (xs : List α) : atI xs 1 = xs[1]? := atN xs 1
theorem at2 {α : Type} (xs : List α) : atI xs 2 = xs[2]? := atN xs 2
theorem at3 {α : Type} (xs : List α) : atI xs 3 = xs[3]? := atN xs 3
theorem at4 {α : Type} (xs : List α) : atI xs 4 = xs[4]? := atN xs 4
theorem ixN_0 {n : Nat} (h : 0 < n) : ixN n 0 = some 0 := by unfold ixN; simp; omega
theorem cut_take {xs : List D} {v : Int} (h : 0 ≤ v) : cutD xs none (some v) = xs.take v.toNat := by
  unfold cutD HT.sIx
  simp only [List.drop_zero, Nat.sub_zero]
  rw [if_neg (by omega)]
  by_cases q : v.toNat ≤ xs.length
  · rw [Nat.min_eq_left q]
  · rw [Nat.min_eq_right (by omega), List.take_of_length_le (by omega), List.take_of_length_le (by omega)]
theorem cut_drop {xs : List D} {v : Int} (h : 0 ≤ v) : cutD xs (some v) none = xs.drop v.toNat := by
  unfold cutD HT.sIx
  simp only []
  rw [if_neg (by omega)]
  by_cases q : v.toNat ≤ xs.length
  · rw [Nat.min_eq_left q, List.take_of_length_le (by rw [List.length_drop]; omega)]
  · rw [Nat.min_eq_right (by omega), List.drop_of_length_le (by omega), List.drop_of_length_le (by omega)]; simp
theorem all_int : ∀ {l : List D}, (∀ x ∈ l, ∃ i, x = .int i) → ∃ is : List Int, l = is.map .int
  | [], _ => ⟨[], rfl⟩
  | x :: l, h => by
    obtain ⟨i, rfl⟩ := h x List.mem_cons_self
    obtain ⟨is, rfl⟩ := all_int fun y m => h y (List.mem_cons_of_mem _ m)
    exact ⟨i :: is, rfl⟩
theorem o_sqAnd {S : Store} {d : D} {xs : List D} {P : List D → Prop} (e : sqOf S d = some xs) (h : P xs) : ∃ xs, sqOf S d = some xs ∧ P xs := ⟨xs, e, h⟩
theorem o_lstE {P : List D → Prop} {xs : List D} (h : P xs) : ∃ ys, D.lst xs = .lst ys ∧ P ys := ⟨xs, rfl, h⟩
end Dy
namespace Dy
open PySem PySem.Spec PyProof.Rows L2 PySem.SeqAt
theorem str_eq_dict (b : Str) (u : Tok) (l : Addr) (es : Array DictEntry) (n : Nat) (dd : Option Addr) (sl : Array (Option Value)) :
    Meets (Builtin.«str.__eq__» ⟨[.str b u, .ref l], []⟩) (fun _ R s => s.heap.get? l = some { cls := .type "dict", dict := dd, data := .dict es n, slots := sl } ∧ R (.ok (.ret .notImplemented)) s) :=
  .of_wp fun prog w A R s h => by obtain ⟨hp, g, d, tk, os⟩ := s; obtain ⟨hl, h⟩ := h; have f1 := F.sub_dict_str; wp_walk using wpAny_loadPart' hl; exact ⟨_, rfl, h⟩
theorem dict_eq_str (l : Addr) (es : Array DictEntry) (n : Nat) (dd : Option Addr) (sl : Array (Option Value)) (b : Str) (u : Tok) :
    Meets (Builtin.«dict.__eq__» ⟨[.ref l, .str b u], []⟩) (fun _ R s => s.heap.get? l = some { cls := .type "dict", dict := dd, data := .dict es n, slots := sl } ∧ R (.ok (.ret .notImplemented)) s) :=
  .of_wp fun prog w A R s h => by obtain ⟨hp, g, d, tk, os⟩ := s; obtain ⟨hl, h⟩ := h; have f1 := F.sub_str_dict; wp_walk using wpAny_loadPart' hl; exact ⟨_, rfl, h⟩
theorem eq_str_dict {A : Around} {s : Shared} {l : Addr} {o : Obj} {es : Array DictEntry} {n : Nat} (b : Str) (u : Tok) (ho : s.heap.get? l = some o) (hc : o.cls = .type "dict") (hd : o.data = .dict es n) (hu : A.units < cLine) : EqAt A s (.str b u) (.ref l) false := fun prog w E Q h => by
  unfold eqBool
  refine wpAny_holding ?_
  refine wpAny_ite_split (fun hab => absurd (eq_of_beq hab) nofun) (fun _ => ?_)
  obtain ⟨cls, dd, data, sl⟩ := o
  simp only at hc hd
  subst hc hd
  refine wpAny_bind ?_
  refine rc_eq_decline_or (k := false) (typeIs_str s b u) ⟨_, ho, rfl⟩ (by decide) F.sub_dict_str F.slot_str_eq F.slot_dict_eq_refl
    (fun _ hq => call_meets F.slot_str_eq (typeIs_str s b u) F.entry_str_eq (F.args_str_eq_2 _ _) (str_eq_dict b u l es n dd sl) ⟨ho, hq⟩)
    (fun _ hq => call_meets F.slot_dict_eq_refl ⟨_, ho, rfl⟩ F.entry_dict_eq (F.args_dict_eq_2 _ _) (dict_eq_str l es n dd sl b u) ⟨ho, hq⟩)
    (fun _ hq => wpAny_of_eq (rfl : isSame (.str b u) (.ref l) = pure false) hq) (.inr hu) (wpAny_truthy_bool h)
/-- a list, a tuple, a dict -/
def Cont (K : PySem.W.Frag) (H : Hp) (a : Addr) : Prop := (∃ kvs, H a = some (.dK kvs)) ∨ (∃ vs, SqT K H a vs) ∨ ∃ vs, SqL K H a vs
theorem eq_str_cont {X : Cx} {pins : List (Addr × Obj)} {s : Shared} {σ : L2.St} {H : Hp} {a : Addr} {A : Around} (I : L2.Inv X pins σ H s) (hc : Cont X.K H a) (hu : A.units < cLine) (x : Str) (t : Tok) : EqAt A s (.str x t) (.ref a) false := by
  rcases hc with ⟨kvs, ha⟩ | ⟨vs, hs⟩ | ⟨vs, hs⟩
  · obtain ⟨_, _, vs, _, o, es, ep, g1, g2, g3, _⟩ : ObjOk _ _ H s.heap a (.dK kvs) := I.hok a _ ha
    exact eq_str_dict x t g1 g2.1 g3 hu
  · obtain ⟨its, rv, ⟨o, ho, hc, n, hd⟩, _⟩ := I.tuple hs
    exact EqAt.str_tuple x t ⟨o, ho, hc, n, hd⟩ hu
  · obtain ⟨its, rv, ⟨o, n, ho, hc, _, hd⟩, _⟩ := I.list hs
    exact EqAt.str_list x t ⟨o, ho, hc, n, hd⟩ hu
def rInX (K : PySem.W.Frag) (neg : Bool) : R2 := fun x y H Q => rInP K neg x y H Q ∨ ∃ (a : Addr) (xs : List Str), x = .ref a ∧ Cont K H a ∧ (Dp K H y (.list (xs.map PyData.str)) ∨ Dp K H y (.tuple (xs.map PyData.str))) ∧ Q (.bl neg) H
theorem all_strs {h : Heap} : ∀ {vs : List Value} {xs : List Str} {as : List Addr}, ReadsAll h vs (xs.map PyData.str) as → ∀ y ∈ vs, ∃ x u, y = .str x u
  | [], _, _, _, y, m => nomatch m
  | v :: vs, [], _, r, _, _ => nomatch r
  | v :: vs, x :: xs, _, r, y, m => by
    cases r with
    | cons r1 r2 =>
      rcases List.mem_cons.mp m with rfl | m
      · cases r1 with
        | str x t => exact ⟨x, t, rfl⟩
      · exact all_strs r2 y m
theorem any_no {vs : Array Value} : (vs.any fun _ => false) = false := by
  simp
section
variable {X : Cx}
theorem in_dict {pins : List (Addr × Obj)} {s : Shared} {σ : L2.St} {H : Hp} {y : V} {a : Addr} {xs : List Str} {Q : VK} {u : Value} {f : Bool → Value → Value → Sem Value} (neg : Bool) (hu : X.A.units + 64 < cLine) (I : L2.Inv X pins σ H s) (ha : Cont X.K H a) (dy : Dp X.K H y (.list (xs.map PyData.str)) ∨ Dp X.K H y (.tuple (xs.map PyData.str))) (ry : RelV y u) (q : Q (.bl neg) H)
    (h1 : ∀ l (items : Array Value), u = .ref l → s.heap.IsList l items → (∀ z, z ∈ items → EqAt X.A.in1 s z (.ref a) false) → EP X pins σ Q (.bool (neg ^^ items.any fun _ => false)) s → wpAny (model X.prog X.w) X.A (f neg (.ref a) u) (EP X pins σ Q) X.xe s)
    (h2 : ∀ l (items : Array Value), u = .ref l → s.heap.IsTuple l items → (∀ z, z ∈ items → EqAt X.A.in1 s z (.ref a) false) → EP X pins σ Q (.bool (neg ^^ items.any fun _ => false)) s → wpAny (model X.prog X.w) X.A (f neg (.ref a) u) (EP X pins σ Q) X.xe s) :
    wpAny (model X.prog X.w) X.A (f neg (.ref a) u) (EP X pins σ Q) X.xe s := by
  have eq : ∀ z : Value, (∃ x t, z = .str x t) → EqAt X.A.in1 s z (.ref a) false := fun z ⟨x, t, e⟩ => e ▸ eq_str_cont I ha (by show X.A.units + 1 < cLine; omega) x t
  have fin : ∀ items : Array Value, EP X pins σ Q (.bool (neg ^^ items.any fun _ => false)) s := fun items => ⟨.bl neg, H, I, by rw [any_no]; cases neg <;> rfl, q⟩
  rcases dy with dy | dy
  · obtain ⟨bs, rb⟩ := Dp.reads I _ y u dy ry
    cases rb with
    | list g1 g2 g3 g4 => exact h1 _ _ rfl ⟨_, g1, g2, _, g3⟩ (fun z hz => eq z (all_strs g4 z (by simpa using hz))) (fin _)
  · obtain ⟨bs, rb⟩ := Dp.reads I _ y u dy ry
    cases rb with
    | tuple g1 g2 g3 g4 => exact h2 _ _ rfl ⟨_, g1, g2, _, g3⟩ (fun z hz => eq z (all_strs g4 z (by simpa using hz))) (fin _)
theorem op_inX (hu : X.A.units + 64 < cLine) : OpR X (compareOp .In) (rInX X.K false) := by
  rintro pins s σ H x y v u Q I rx ry (h | ⟨a, xs, rfl, ha, dy, q⟩)
  · exact op_inP hu pins s σ H x y v u Q I rx ry h
  · cases (show v = Value.ref a from rx)
    refine in_dict (f := fun neg => compareOp .In) false hu I ha dy ry q (fun l items e hl he h => ?_) (fun l items e hl he h => ?_)
    · subst e; exact in_listAt _ hl he (by simpa using h)
    · subst e; exact in_tupleAt _ hl he (by simpa using h)
end
def isCont : D → Bool
  | .tup _ => true
  | .lst _ => true
  | .frz _ => true
  | .dic _ _ => true
  | _ => false
/-- x in ys: data without dicts; or a list, a tuple, a dict among strings -/
def dInX (neg : Bool) : D2 := fun x y S Q => dInN neg x y S Q ∨ ∃ xs : List Str, isCont x = true ∧ sqOf S y = some (xs.map .str) ∧ Q (.bl neg) S
theorem cont_of {K : PySem.W.Frag} {φ : Al} {H : Hp} {x : D} {v : V} (h : RD K φ H x v) (c : isCont x = true) : ∃ a, v = .ref a ∧ Cont K H a := by
  cases x with
  | tup xs => rw [RD] at h; obtain ⟨a, vs, rfl, h1, _⟩ := h; exact ⟨a, rfl, .inr (.inl ⟨_, h1⟩)⟩
  | lst xs => rw [RD] at h; obtain ⟨a, vs, rfl, h1, _⟩ := h; exact ⟨a, rfl, .inr (.inr ⟨_, h1.sq⟩)⟩
  | frz xs => rw [RD] at h; obtain ⟨a, vs, rfl, h1, _⟩ := h; exact ⟨a, rfl, .inr (.inr ⟨_, h1.sq⟩)⟩
  | dic ks xs => rw [RD] at h; obtain ⟨a, vs, rfl, h1, _⟩ := h; exact ⟨a, rfl, .inl ⟨_, h1.1⟩⟩
  | _ => cases c
theorem pyDs_strs : ∀ xs : List Str, pyDs (xs.map .str) = some (xs.map .str)
  | [] => by rw [List.map_nil, pyDs]; rfl
  | x :: xs => by rw [List.map_cons, pyDs, pyD, pyDs_strs xs]; rfl
theorem lk_inXN {K : PySem.W.Frag} (neg : Bool) : Lk K (dInX neg) (rInX K neg) := by
  rintro φ S H Q' Q x y v1 v2 r r1 r2 q (h | ⟨xs, c, e, h⟩)
  · exact .inl (lk_inN neg φ S H Q' Q x y v1 v2 r r1 r2 q h)
  · obtain ⟨a, rfl, hc⟩ := cont_of r1 c
    obtain ⟨b, ws, rfl, h3, h4⟩ := sq_of r r2 e
    obtain ⟨j1, _⟩ := dps_of _ ws _ h4 (pyDs_strs xs)
    refine .inr ⟨a, xs, rfl, hc, ?_, q φ H S _ _ .refl r rd_bl h⟩
    rcases h3 with h3 | h3
    · exact .inl (.lst h3 j1)
    · exact .inr (.tup h3 j1)
theorem lk_inX {K : PySem.W.Frag} : Lk K (dInX false) (rInX K false) := lk_inXN false
section
variable {F : Fam} {k : Nat}
theorem oq_inX (hr : ∀ i, Room k (F.X i).A) (i : F.ι) : OpR (F.X i) (compareOp .In) (rInX F.K false) := F.hK i ▸ op_inX (hr i).units
end
def inS (xs : List Str) : D → Bool
  | .str s => xs.any fun x => decide (x = s)
  | _ => false
/-- a value that isinstance and == ask by its kind -/
def plainD : D → Bool
  | .non => true
  | .bl _ => true
  | .int _ => true
  | .str _ => true
  | d => isCont d
theorem any_eqv {xs : List Str} {p : PyData} {f : Str → Bool} (h : ∀ x, PyData.eqv (.str x) p = f x) : ((xs.map PyData.str).any fun z => PyData.eqv z p) = xs.any f := by
  rw [List.any_map]
  congr 1
  funext x
  exact h x
theorem o_inS {S : Store} {Q : QD} {neg : Bool} {d y : D} {xs : List Str} (e : sqOf S y = some (xs.map .str)) (c : plainD d = true) (h : Q (.bl (neg ^^ inS xs d)) S) : dInX neg d y S Q := by
  have sc : ∀ p : PyData, pyS S d = some p → p.depth = 0 → (∀ f : Str → Bool, (∀ x, PyData.eqv (.str x) p = f x) → Q (.bl (neg ^^ xs.any f)) S) → dInX neg d y S Q := fun p e1 hd hq =>
    .inl ⟨p, _, _, e1, e, pyDs_strs xs, by rw [hd]; omega, by rw [any_eqv fun _ => rfl]; exact hq _ fun _ => rfl⟩
  have ct : isCont d = true → inS xs d = false → dInX neg d y S Q := fun c e2 => .inr ⟨xs, c, e, by rw [e2] at h; simpa using h⟩
  have no : ∀ f : Str → Bool, (∀ x, f x = false) → xs.any f = false := fun f h => by
    have : f = fun _ => false := funext h
    rw [this]; simp
  cases d with
  | non => exact sc .none rfl (by rw [PyData.depth] <;> intros <;> contradiction) fun f hf => by rw [no f fun x => (hf x).symm.trans (by rw [PyData.eqv])]; exact h
  | bl b => exact sc (.bool b) rfl (by rw [PyData.depth] <;> intros <;> contradiction) fun f hf => by rw [no f fun x => (hf x).symm.trans (by rw [PyData.eqv])]; exact h
  | int b => exact sc (.int b) rfl (by rw [PyData.depth] <;> intros <;> contradiction) fun f hf => by rw [no f fun x => (hf x).symm.trans (by rw [PyData.eqv])]; exact h
  | str b =>
    refine sc (.str b) rfl (by rw [PyData.depth] <;> intros <;> contradiction) fun f hf => ?_
    have : f = fun x => decide (x = b) := funext fun x => (hf x).symm.trans (by rw [PyData.eqv]; exact PySem.W.beq_decide x b)
    rw [this]; exact h
  | tup _ => exact ct rfl rfl
  | lst _ => exact ct rfl rfl
  | frz _ => exact ct rfl rfl
  | dic _ _ => exact ct rfl rfl
  | ty _ => cases c
  | ref _ => cases c
  | cls _ => cases c
  | exo _ _ _ _ => cases c
def tagD : D → String
  | .non => "NoneType"
  | .bl _ => "bool"
  | .int _ => "int"
  | .str _ => "str"
  | .tup _ => "tuple"
  | .dic _ _ => "dict"
  | _ => "list"
theorem tag_plain {S : Store} {d : D} (c : plainD d = true) : tagOf S d = some (tagD d) := by
  cases d <;> first | rfl | cases c
theorem o_isiP {S : Store} {Q : QD} {T : String} {d : D} (c : plainD d = true) (h : Q (.bl (isiT T (tagD d))) S) : cIsi T [d, .ty T] S Q := ⟨d, _, rfl, tag_plain c, h⟩
theorem o_all {S : Store} {Q : QD} {g : D → Bool} {xs : List D} (h : Q (.bl (xs.all g)) S) : cAll [.lst (xs.map fun x => .bl (g x))] S Q := by
  refine ⟨_, xs.map g, rfl, by rw [List.map_map]; rfl, ?_⟩
  rw [List.all_map]
  exact h
/-- plain data, of tuples, lists that nobody changes, and empty dicts -/
inductive Dat : D → Prop
  | non : Dat .non
  | bl (b : Bool) : Dat (.bl b)
  | int (i : Int) : Dat (.int i)
  | str (s : Str) : Dat (.str s)
  | dic : Dat (.dic [] [])
  | tup {xs : List D} (h : ∀ x ∈ xs, Dat x) (z : xs.length ≤ 1000) : Dat (.tup xs)
  | lst {xs : List D} (h : ∀ x ∈ xs, Dat x) (z : xs.length ≤ 1000) : Dat (.lst xs)
theorem Dat.plain {d : D} (h : Dat d) : plainD d = true := by cases h <;> rfl
end Dy
namespace Dy
open PySem PySem.Spec PyProof.Rows L2
def Kst (K : PySem.W.Frag) (mg : Str → Option Value) (x : Str) (d : D) : Prop := ∃ v u, mg x = some u ∧ RelV v u ∧ ∀ φ H, RD K φ H d v
section
variable {F : Fam} {W : WX} {e e2 : Expr} {es : List Expr} {te : DTE} {t : DTA} {p pos pos2 : Pos} {k k2 : Nat} {x f : Str} {ps : List Str} {sp : DSp} {C : Addr} {d : D}
theorem de_k {mg : Str → Option Value} (hmg : ∀ i, (F.X i).mg = mg) (h : Kst F.K mg x d) (hg : ∀ i, Gl (F.X i) x := by intro _; rfl) (hd : (x == ("__debug__" : Str)) = false := by decide) : DE F W (.Name x pos) (dC d) := by
  obtain ⟨v, u, h1, h2, h3⟩ := h
  exact ⟨tC v, fun i => pe_glob (hg i) (by rw [hmg i]; exact h1) h2 hd, fun σ ρ φ S H E Q' Q o q k => q φ H S _ _ .refl o.sr (h3 φ H) k⟩
/-- a class with an __init__ -/
def CalM (P : Program) (w : World) (K : PySem.W.Frag) (mg : Str → Option Value) (base : Heap) (x : Str) (C : Addr) (k : Nat) (ps : List Str) (sp : DSp) : Prop :=
  ∃ fi fd, L2.Mk K C fi ∧ FnOk P w K mg base (L2.CX P w) k fi fd ps (liftSp K sp) ∧ mg x = some (.ref C) ∧ Binds K fd ps []
abbrev CalMF (F : Fam) (x : Str) (C : Addr) (k : Nat) (ps : List Str) (sp : DSp) : Prop := ∀ i, CalM (F.X i).prog (F.X i).w (F.X i).K (F.X i).mg (F.X i).base x C k ps sp
theorem de_makeC (c : CalMF F x C k ps sp) (hr : ∀ i, Room k2 (F.X i).A) (hk : k + 1 ≤ k2) (tk : ∀ i, Takes (F.X i) W) (ha : DA F W (e :: es) t) (hg : ∀ i, Gl (F.X i) x := by intro _; rfl) (hdb : (x == ("__debug__" : Str)) = false := by decide)
    (he : ∀ i, starEach (e :: es) (F.X i).env = (false, eval e (F.X i).env) :: starEach es (F.X i).env := by intro _; rfl) (hpl : ∀ i, (backTo pos (starEach es (F.X i).env)).any (·.1) = false := by intro _; rfl) :
    DE F W (.Call (.Name x p) (e :: es) [] pos) (dMake C sp t) := by
  obtain ⟨t1, p1, k1⟩ := ha
  refine ⟨_, fun i => ?_, fun σ ρ φ S H E Q' Q o q h => k1 σ ρ φ S H E _ _ o (fun φ1 H1 S1 ds vs s1 r1 rd h1 => make_link (o.mono s1 r1) (q.mono s1) rd h1) h⟩
  obtain ⟨fi, fd, M, G, gm, bd⟩ := c i
  rw [F.hK i] at G
  have G' : FnOk (F.X i).prog (F.X i).w (F.X i).K (F.X i).mg (F.X i).base (L2.CX (F.X i).prog (F.X i).w) k fi fd ps (liftSp F.K sp) := by rw [F.hK i]; exact G
  exact pe_makeS' M G' ((hr i).mono hk) (hg i) gm bd (fun σ => passAt (tk i) σ) (p1 i) hdb (he i) (hpl i)
/-- an error class with one field -/
def CalE (P : Program) (w : World) (K : PySem.W.Frag) (mg : Str → Option Value) (base : Heap) (x : Str) (C : Addr) (f : Str) : Prop :=
  ∃ fI fd, ErrF K C f fI ∧ mg x = some (.ref C) ∧ FnOk P w K mg base (L2.CX P w) 1 fI fd ["self", f] (spEI C f) ∧ Binds K fd ["self", f] []
theorem ds_raiseC (hc : ∀ i, (F.X i).calm = true) {P : Program} {w : World} {mg : Str → Option Value} {base : Heap} (c : CalE P w F.K mg base x C f) (hP : ∀ i, (F.X i).prog = P) (hw : ∀ i, (F.X i).w = w) (hmg : ∀ i, (F.X i).mg = mg) (hb : ∀ i, (F.X i).base = base) (tk : ∀ i, Takes (F.X i) W) (hr : ∀ i, Room k2 (F.X i).A) (hk : 2 ≤ k2)
    (he : DE F W e te) (hg : ∀ i, Gl (F.X i) x := by intro _; rfl) (hdb : (x == ("__debug__" : Str)) = false := by decide)
    (hs : ∀ i, starEach [e] (F.X i).env = (false, eval e (F.X i).env) :: starEach [] (F.X i).env := by intro _; rfl) (hpl : ∀ i, (backTo pos (starEach [] (F.X i).env)).any (·.1) = false := by intro _; rfl) :
    DS F W (.Raise (some (.Call (.Name x p) [e] [] pos)) none pos2) (dRaiseF C f te) := by
  obtain ⟨fI, fd, T, gm, G, bd⟩ := c
  exact ds_raiseF hc T tk (fun i => by rw [hmg i]; exact gm) (fun i => by rw [hP i, hw i, hmg i, hb i, F.hK i]; exact G) (fun i => (hr i).mono hk) (fun i => by rw [F.hK i]; exact bd) he hg hdb hs hpl
/-- statements that are never reached -/
theorem dss_no {sts : List Stmt} : DSs F W sts (fun _ _ _ => False) := ⟨fun _ _ _ => False, fun i => ⟨fun pins s σ H D I h => h.elim⟩, fun _ _ _ _ _ _ _ _ _ _ h => h.elim⟩
end
def cIsE (a dd : Addr) (kt : D → Option Bool) : DR := fun ds S Q => ∃ ks xs c b, ds = [.exo a dd ks xs, c] ∧ kt c = some b ∧ Q (.bl b) S
/-- kt tells whether C is under a class -/
def KitOf (K : PySem.W.Frag) (C : Addr) (kt : D → Option Bool) : Prop := ∀ c b, kt c = some b → (∃ n, c = .ty n ∧ PySem.W.kitOne K (.ref C) (.type n) = some b) ∨ ∃ C2, c = .cls C2 ∧ PySem.W.kitOne K (.ref C) (.ref C2) = some b
theorem lk_isE {K : PySem.W.Frag} {C a dd : Addr} {kt : D → Option Bool} (h : KitOf K C kt) : LkC K (cIsE a dd kt) (rIsX K C a (some dd)) := by
  rintro φ S H Q' Q ds vs r rd q ⟨ks, xs, c, b, rfl, e, hq⟩
  obtain ⟨v, w, rfl, h1, h2⟩ := rds2 rd
  rw [RD] at h1
  obtain ⟨us, rfl, g1, g2, g3⟩ := h1
  have fin : Q (.bl b) H := q φ H S _ _ .refl r rd_bl hq
  have hx : ∀ d', some dd = some d' → ∃ fs, H d' = some (.xd fs) := fun d' e => by cases e; exact ⟨_, g1⟩
  rcases h c b e with ⟨n, rfl, hk⟩ | ⟨C2, rfl, hk⟩
  · rw [RD] at h2
    subst h2
    exact ⟨.ty n, .type n, b, rfl, .ty n, hk, hx, fin⟩
  · rw [RD] at h2
    subst h2
    exact ⟨.ref C2, .ref C2, b, rfl, .own C2, hk, hx, fin⟩
section
variable {F : Fam} {W : WX} {a C dd : Addr} {e e2 : Expr} {t : DTA} {p pos : Pos} {kt : D → Option Bool}
theorem dc_isE (T : ExcI F.K C) (h : KitOf F.K C kt) (hm : ∀ i, ((F.su a (.ref C) (some dd)).X i).mg "isinstance" = none) (ha : DA (F.su a (.ref C) (some dd)) W [e, e2] t) (hg : ∀ i, Gl ((F.su a (.ref C) (some dd)).X i) "isinstance" := by intro _; rfl)
    (he : St1 (F.su a (.ref C) (some dd)) e [e2] := by intro _; rfl) (hp : Pl1 (F.su a (.ref C) (some dd)) pos [e2] := by intro _; rfl) : DE (F.su a (.ref C) (some dd)) W (.Call (.Name "isinstance" p) [e, e2] [] pos) (dCB (cIsE a dd kt) t) := by
  refine de_callB (fun j => ?_) (lk_isE h) hg hm bt_isinstance ha (he := he) (hpl := hp)
  obtain ⟨i, oe, pn, z, fv⟩ := j
  have T' : ExcI (F.X i).K C := by rw [F.hK]; exact T
  have := call_isX (X := F.X i) (a := a) (pn := pn) T' z fv
  rw [F.hK] at this
  exact this
end
theorem o_isE {a dd : Addr} {kt : D → Option Bool} {ks : List Str} {xs : List D} {c : D} {b : Bool} {S : Store} {Q : QD} (e : kt c = some b) (h : Q (.bl b) S) : cIsE a dd kt [.exo a dd ks xs, c] S Q := ⟨ks, xs, c, b, rfl, e, h⟩
def oFld (P : Addr → Prop) (f : Str) (d : D) (S : Store) (Q : QD) : Prop := ∃ n C fs v, d = .ref n ∧ S[n]? = some (.ins C fs) ∧ P C ∧ fs.lookup f = some v ∧ Q v S
def oSetF (P : Addr → Prop) (f : Str) (d o : D) (R : Store → Prop) (S : Store) : Prop := ∃ n C fs, o = .ref n ∧ S[n]? = some (.ins C fs) ∧ P C ∧ fs.length < 1000 ∧ R (S.set n (.ins C (putD f d fs)))
def dDnil : DTE := fun _ S Q _ => Q (.dic [] []) S
theorem pe_dnil {X : Cx} {pos : Pos} : PE X (.Dict [] [] pos) (fun _ H Q => ∀ p, H p = none → Q (.ref p) (upd H p (.dK []))) :=
  ⟨fun pins s σ H Q I q => wpAny_Dict_empty
    ⟨.ref s.heap.objs.size, _, I.laid (a := s.heap.objs.size) (o := .dK []) (h' := s.heap.push { cls := .type "dict", data := .dict #[] }) (t' := s.toks) (fun _ _ g => Heap.get?_push_of_some _ g) (Nat.le_refl _) (dk_empty s.heap I.big), rfl,
      q _ (I.hok.fresh (Nat.le_refl _))⟩⟩
theorem de_dnil {F : Fam} {W : WX} {pos : Pos} : DE F W (.Dict [] [] pos) dDnil :=
  ⟨_, fun i => pe_dnil, fun σ ρ φ S H E Q' Q o q h p hp => q φ _ S _ _ (step_new hp) (o.sr.new hp) (by rw [RD]; exact ⟨p, [], rfl, ⟨upd_same, o.sr.out hp, o.sr.outb hp⟩, rfl, .nil⟩) h⟩
theorem c_dnil {ρ : Rho} {S : Store} {Q : QD} {E : XQ} (h : Q (.dic [] []) S) : dDnil ρ S Q E := h
theorem c_make {C : Addr} {sp : DSp} {t : DTA} {ρ : Rho} {S : Store} {Q : QD} {E : XQ} (h : t ρ S (fun ds S1 => sp (.ref S1.length :: ds) (S1 ++ [.ins C []]) (fun d S2 => d = .non ∧ Q (.ref S1.length) S2) E) E) : dMake C sp t ρ S Q E := h
theorem c_fld {P : Addr → Prop} {f : Str} {to : DTE} {ρ : Rho} {S : Store} {Q : QD} {E : XQ} (h : to ρ S (fun d S1 => oFld P f d S1 Q) E) : dFld P f to ρ S Q E := h
theorem o_fld {P : Addr → Prop} {f : Str} {n : Nat} {C : Addr} {fs : List (Str × D)} {v : D} {S : Store} {Q : QD} (e : S[n]? = some (.ins C fs)) (hP : P C) (hl : fs.lookup f = some v) (h : Q v S) : oFld P f (.ref n) S Q := ⟨n, C, fs, v, rfl, e, hP, hl, h⟩
theorem s_setF {P : Addr → Prop} {f : Str} {to te : DTE} {nx bk ct : Rho → Store → Prop} {rt : D → Store → Prop} {ex : Exc → Rho → Store → Prop} {ρ : Rho} {S : Store} (h : te ρ S (fun d S1 => to ρ S1 (fun o S2 => oSetF P f d o (nx ρ) S2) (fun x S1 => ex x ρ S1)) (fun x S1 => ex x ρ S1)) : dSetF P f to te ⟨nx, rt, bk, ct, ex⟩ ρ S := h
theorem o_setF {P : Addr → Prop} {f : Str} {d : D} {n : Nat} {C : Addr} {fs : List (Str × D)} {S : Store} {R : Store → Prop} (e : S[n]? = some (.ins C fs)) (hP : P C) (hz : fs.length < 1000)
    (h : ∀ S', S'.length = S.length → S'[n]? = some (.ins C (putD f d fs)) → (∀ m : Nat, m ≠ n → S'[m]? = S[m]?) → R S') : oSetF P f d (.ref n) R S :=
  ⟨n, C, fs, rfl, e, hP, hz, h _ (by simp) (List.getElem?_set_self (List.getElem?_eq_some_iff.mp e).1) fun m hm => List.getElem?_set_ne (Ne.symm hm)⟩
theorem s_raiseF {C : Addr} {f : Str} {te : DTE} {nx bk ct : Rho → Store → Prop} {rt : D → Store → Prop} {ex : Exc → Rho → Store → Prop} {ρ : Rho} {S : Store} (h : te ρ S (fun d S1 => ex ⟨C, some [(f, d)]⟩ ρ S1) (fun x S1 => ex x ρ S1)) : dRaiseF C f te ⟨nx, rt, bk, ct, ex⟩ ρ S := h
theorem s_tryAs {em : Addr → Option Bool} {i : Nat} {tb : DTS} {ts : Addr → Exc → Option Addr → DTS} {nx bk ct : Rho → Store → Prop} {rt : D → Store → Prop} {ex : Exc → Rho → Store → Prop} {ρ : Rho} {S : Store}
    (h : tb ⟨nx, rt, bk, ct, fun x ρ1 S1 => ∃ b, em x.C = some b ∧ (b = true → ∀ a d, d.isSome = x.fs.isSome → ts a x d ⟨fun ρ2 S2 => nx (ρ2.set i none) S2, rt, fun ρ2 S2 => bk (ρ2.set i none) S2, fun ρ2 S2 => ct (ρ2.set i none) S2, fun _ _ _ => False⟩ (ρ1.set i (some (exV a d x))) S1) ∧ (b = false → ex x ρ1 S1)⟩ ρ S) :
    dTryAs em i tb ts ⟨nx, rt, bk, ct, ex⟩ ρ S := h
def oXe (a dd : Addr) (f : Str) (v : D) (S1 : Store) (Q : QD) : Prop := ∃ ks xs u, v = .exo a dd ks xs ∧ (ks.zip xs).lookup f = some u ∧ Q u S1
def dXe (a dd : Addr) (f : Str) (te : DTE) : DTE := fun ρ S Q E => te ρ S (fun v S1 => oXe a dd f v S1 Q) E
theorem de_xe {F : Fam} {W : WX} {a C dd : Addr} {e : Expr} {te : DTE} {f : Str} {pos : Pos} (T : XfC F.K C) (hno : PySem.W.findIn F.K (.ref C) f = some none) (he : DE (F.su a (.ref C) (some dd)) W e te) (hb : ∀ i, attributeBase e f ((F.su a (.ref C) (some dd)).X i).env (eval e ((F.su a (.ref C) (some dd)).X i).env) = eval e ((F.su a (.ref C) (some dd)).X i).env := by intro _; rfl) :
    DE (F.su a (.ref C) (some dd)) W (.Attribute e f pos) (dXe a dd f te) := de_xf T hno he hb
def tsOnly (C : Addr) (t : Addr → Addr → DTS) (a : Addr) (x : Exc) : Option Addr → DTS
  | some dd => if x.C = C then t a dd else fun _ _ _ => False
  | none => fun _ _ _ => False
/-- a suite that takes errors of one class with fields alone -/
theorem su_only {F : Fam} {sts : List Stmt} {C : Addr} {t : Addr → Addr → DTS} (h : ∀ a dd, DSs (F.su a (.ref C) (some dd)) W0 sts (t a dd)) (a : Addr) (x : Exc) (d : Option Addr) : DSs (F.su a (.ref x.C) d) W0 sts (tsOnly C t a x d) := by
  cases d with
  | none => exact dss_no
  | some dd =>
    by_cases e : x.C = C
    · have := h a dd
      rw [← e] at this
      have e2 : tsOnly C t a x (some dd) = t a dd := if_pos e
      rw [e2]
      exact this
    · have e2 : tsOnly C t a x (some dd) = fun _ _ _ => False := if_neg e
      rw [e2]
      exact dss_no
theorem tr_tk {F : Fam} {W : WX} (j : (F.tr W).ι) : Takes ((F.tr W).X j) W := j.2.2.2.1
theorem s_only {C : Addr} {t : Addr → Addr → DTS} {a dd : Addr} {fs : Option (List (Str × D))} {D' : DEnds} {ρ : Rho} {S : Store} (h : t a dd D' ρ S) : tsOnly C t a ⟨C, fs⟩ (some dd) D' ρ S := by
  have e : tsOnly C t a ⟨C, fs⟩ (some dd) = t a dd := if_pos rfl
  rw [e]; exact h
theorem c_xe {a dd : Addr} {f : Str} {te : DTE} {ρ : Rho} {S : Store} {Q : QD} {E : XQ} (h : te ρ S (fun v S1 => oXe a dd f v S1 Q) E) : dXe a dd f te ρ S Q E := h
theorem o_xe {a dd : Addr} {f : Str} {ks : List Str} {xs : List D} {u : D} {S : Store} {Q : QD} (e : (ks.zip xs).lookup f = some u) (h : Q u S) : oXe a dd f (.exo a dd ks xs) S Q := ⟨ks, xs, u, rfl, e, h⟩
end Dy
namespace Dy
open PySem PySem.Spec PyProof.Rows L2
/-- data of tuples, at most n deep -/
def okD : Nat → D → Bool
  | _, .non => true
  | _, .bl _ => true
  | _, .int _ => true
  | _, .str _ => true
  | n + 1, .tup xs => xs.all (okD n)
  | _, _ => false
mutual
theorem py_ok : ∀ (n : Nat) (d : D), okD n d = true → ∃ p, pyD d = some p ∧ p.depth ≤ n ∧ p.plain = true
  | n, .non, _ => ⟨.none, by rw [pyD], by rw [PyData.depth] <;> first | omega | (intros; contradiction), rfl⟩
  | n, .bl b, _ => ⟨.bool b, by rw [pyD], by rw [PyData.depth] <;> first | omega | (intros; contradiction), rfl⟩
  | n, .int b, _ => ⟨.int b, by rw [pyD], by rw [PyData.depth] <;> first | omega | (intros; contradiction), rfl⟩
  | n, .str b, _ => ⟨.str b, by rw [pyD], by rw [PyData.depth] <;> first | omega | (intros; contradiction), rfl⟩
  | n + 1, .tup xs, h => by
    obtain ⟨ps, e, hd, hp⟩ := pys_ok n xs (by unfold okD at h; exact h)
    exact ⟨.tuple ps, by rw [pyD, e]; rfl, by rw [PyData.depth]; omega, by rw [PyData.plain]; exact hp⟩
  | 0, .tup _, h => by unfold okD at h; cases h
  | _, .lst _, h => by unfold okD at h; cases h
  | _, .frz _, h => by unfold okD at h; cases h
  | _, .dic _ _, h => by unfold okD at h; cases h
  | _, .ref _, h => by unfold okD at h; cases h
  | _, .ty _, h => by unfold okD at h; cases h
  | _, .cls _, h => by unfold okD at h; cases h
  | _, .exo _ _ _ _, h => by unfold okD at h; cases h
theorem pys_ok : ∀ (n : Nat) (xs : List D), xs.all (okD n) = true → ∃ ps, pyDs xs = some ps ∧ PyData.depthAll ps ≤ n ∧ PyData.plainAll ps = true
  | n, [], _ => ⟨[], by rw [pyDs], by rw [PyData.depthAll]; omega, by rw [PyData.plainAll]⟩
  | n, x :: xs, h => by
    rw [List.all_cons, Bool.and_eq_true] at h
    obtain ⟨p, e1, h1, h2⟩ := py_ok n x h.1
    obtain ⟨ps, e3, h3, h4⟩ := pys_ok n xs h.2
    exact ⟨p :: ps, by rw [pyDs, e1, e3]; rfl, by rw [PyData.depthAll]; omega, by rw [PyData.plainAll, h2, h4]; rfl⟩
end
/-- two tuples of like data are like -/
theorem o_eqT {S : Store} {Q : QD} {neg : Bool} {xs : List D} {n : Nat} (h : okD n (.tup xs) = true) (hn : n ≤ 60) (k : Q (.bl (neg ^^ true)) S) : dEqN neg (.tup xs) (.tup xs) S Q := by
  obtain ⟨p, e, hd, hp⟩ := py_ok n _ h
  show ∃ d e, pyS S (.tup xs) = some d ∧ pyS S (.tup xs) = some e ∧ min d.depth e.depth ≤ 60 ∧ Q (.bl (neg ^^ PyData.eqv d e)) S
  exact ⟨p, p, e, e, by omega, by rw [PySem.SeqAt.eqv_refl_plain p hp]; exact k⟩
/-- a comprehension whose items change the store: R holds of it, p of the items -/
theorem o_lcP {ρ : Rho} {S : Store} {Q : QD} {te : DTE} {i : Nat} {xs : List D} {live : Store → Prop} (R : Store → Prop) (p : D → Prop) (hl : ∀ S', R S' → live S') (h0 : R S) (hz : xs.length ≤ sizeLine)
    (he : ∀ x ∈ xs, ∀ S', R S' → ∀ P : QD, (∀ y S2, p y → R S2 → P y S2) → te (ρ.set i (some x)) S' P noX) (h : ∀ ys S', R S' → ys.length = xs.length → (∀ y ∈ ys, p y) → Q (.lst ys) S') : dLcK (c1 i) dYes te ρ Q xs live S := by
  refine ⟨fun k acc S' => R S' ∧ acc.length = k ∧ ∀ y ∈ acc, p y, ⟨h0, rfl, by simp⟩, fun k acc S' _ hh => hl S' hh.1, fun k x acc S' hx hh => ?_, fun acc S' hh => h acc S' hh.1 hh.2.1 hh.2.2⟩
  obtain ⟨hR, ha, hp⟩ := hh
  have m := List.mem_of_getElem? hx
  have hk : k < xs.length := (List.getElem?_eq_some_iff.mp hx).1
  show if true = true then te (ρ.set i (some x)) S' (fun y S3 => acc.length < sizeLine ∧ (R S3 ∧ (acc ++ [y]).length = k + 1 ∧ ∀ z ∈ acc ++ [y], p z)) noX else (R S' ∧ acc.length = k + 1 ∧ ∀ z ∈ acc, p z)
  rw [if_pos rfl]
  refine he x m S' hR _ fun y S2 py R2 => ⟨by omega, R2, by simp [ha], fun z mz => ?_⟩
  rcases List.mem_append.mp mz with mz | mz
  · exact hp z mz
  · rw [List.mem_singleton.mp mz]; exact py
theorem rng_len {lo : Int} {n : Nat} : (rngD lo n).length = n := by unfold rngD; simp
end Dy
namespace Dy
open PySem PySem.Spec PyProof.Rows L2
/-- the law's own promise -/
def spLaw : DSp := fun ds S Q E => ∃ ns : List Int, ds = [.frz (ns.map .int)] ∧ S = [] ∧ ∀ S', Q (.bl true) S'
theorem rds_ints {K : PySem.W.Frag} {φ : Al} {H : Hp} : ∀ ns : List Int, RDs K φ H (ns.map D.int) (ns.map V.int)
  | [] => by rw [List.map_nil, List.map_nil, RDs]
  | n :: ns => by rw [List.map_cons, List.map_cons, RDs]; exact ⟨_, _, rfl, by rw [RD], rds_ints ns⟩
theorem law_starts {K : PySem.W.Frag} {H : Hp} {a : Addr} {ns : List Int} (o : Only H) (h : SqL K H a (ns.map V.int)) : liftSp K spLaw [V.ref a] H (fun v _ => v = .bl true) fun _ _ _ => False := by
  have hf : FrF K H a (ns.map V.int) := by
    rcases h with (h | ⟨p, h⟩) | h
    · rcases o a with e | ⟨p, xs, e⟩
      · rw [e] at h; cases h
      · rw [e] at h; cases h
    · exact .inl ⟨p, h⟩
    · exact .inr (.inr h)
  refine ⟨⟨[], []⟩, [], [.frz (ns.map .int)], fun d _ => d = .bl true, fun _ _ => False, ⟨List.nodup_nil, rfl, fun n a o h => by simp at h, (fun a h => nomatch h), (fun a h => nomatch h)⟩, ?_, ⟨ns, rfl, rfl, fun _ => rfl⟩, ?_, ?_⟩
  · rw [RDs]
    exact ⟨_, _, rfl, by rw [RD]; exact ⟨a, _, rfl, hf, rds_ints ns⟩, by rw [RDs]⟩
  · intro φ' H' S' d v s r rd e
    cases e
    rw [RD] at rd
    exact rd
  · intro φ' H' S' x cls d s r xr z
    exact z.elim
theorem kit_ty_of {K : PySem.W.Frag} {C : Addr} (h : PySem.W.subIn K (.ref C) (.type "ValueError") = some true) : PySem.W.kitOne K (.ref C) (.type "ValueError") = some true := by
  unfold PySem.W.kitOne
  have q : (Value.ref C == Value.type "ValueError") = false := by rfl
  rw [q, if_neg Bool.false_ne_true]
  unfold PySem.W.kitCls
  exact (if_pos (by decide +kernel)).trans h
end Dy
namespace Dy
open PySem PySem.Spec PyProof.Rows L2
def dBits (to : DTE) : DTE := fun ρ S Q E => to ρ S (fun d S1 => ∃ i, d = .int i ∧ Q (.int (Builtin.Int.intBits i : Nat)) S1) E
theorem c_bits {to : DTE} {ρ : Rho} {S : Store} {Q : QD} {E : XQ} (h : to ρ S (fun d S1 => ∃ i, d = .int i ∧ Q (.int (Builtin.Int.intBits i : Nat)) S1) E) : dBits to ρ S Q E := h
end Dy
namespace Dy
open PySem PySem.Spec PyProof.Rows L2
abbrev KVD := List (Key × D)
def valD (kvs : KVD) (k : Key) : Option D := (kvs.find? fun kv => decide (kv.1 = k)).map (·.2)
def dputK (kvs : KVD) (k : Key) (d : D) : KVD := if (kvs.any fun kv => decide (kv.1 = k)) = true then kvs.map (fun kv => if kv.1 = k then (kv.1, d) else kv) else kvs ++ [(k, d)]
def ddropK (kvs : KVD) (k : Key) : KVD := kvs.filter fun kv => decide (kv.1 ≠ k)
def dvOf (S : Store) : D → Option KVD
  | .dic ks xs => some (ks.zip xs)
  | .ref n => match S[n]? with
    | some (.dK kvs) => some kvs
    | _ => none
  | _ => none
def kyOf : D → Option Key
  | .int i => some (.inl i)
  | .str s => some (.inr s)
  | _ => none
def kyD : Key → D
  | .inl i => .int i
  | .inr s => .str s
section
variable {K : PySem.W.Frag} {φ : Al} {H : Hp} {S : Store}
theorem rk_nil {ws : List (Key × V)} (h : RK K φ H ([] : KVD) ws) : ws = [] := by
  have := h.1
  cases ws with
  | nil => rfl
  | cons w ws => cases this
theorem rk_cons {p : Key × D} {kvs : KVD} {ws : List (Key × V)} (h : RK K φ H (p :: kvs) ws) : ∃ v ws', ws = (p.1, v) :: ws' ∧ RD K φ H p.2 v ∧ RK K φ H kvs ws' := by
  obtain ⟨h1, h2⟩ := h
  cases ws with
  | nil => cases h1
  | cons w ws =>
    rw [List.map_cons, List.map_cons] at h1 h2
    rw [RDs] at h2
    obtain ⟨v, r, e, r1, r2⟩ := h2
    obtain ⟨e1, e2⟩ := List.cons.inj e
    obtain ⟨e3, e4⟩ := List.cons.inj h1
    refine ⟨w.2, ws, by rw [e3], by rw [e1]; exact r1, e4, ?_⟩
    rw [e2]; exact r2
theorem rk_mk_nil : RK K φ H ([] : KVD) ([] : List (Key × V)) := ⟨rfl, .nil⟩
theorem rk_mk {k : Key} {d : D} {v : V} {kvs : KVD} {ws : List (Key × V)} (h : RD K φ H d v) (r : RK K φ H kvs ws) : RK K φ H ((k, d) :: kvs) ((k, v) :: ws) := by
  refine ⟨?_, ?_⟩
  · rw [List.map_cons, List.map_cons, r.1]
  · rw [List.map_cons, List.map_cons]; exact .cons h r.2
theorem rk_len {kvs : KVD} {ws : List (Key × V)} (h : RK K φ H kvs ws) : ws.length = kvs.length := by
  have := congrArg List.length h.1
  simpa using this.symm
theorem rk_val {k : Key} : ∀ {kvs : KVD} {ws : List (Key × V)}, RK K φ H kvs ws → (∀ d, valD kvs k = some d → ∃ v, valV ws k = some v ∧ RD K φ H d v) ∧ (valD kvs k).isSome = (valV ws k).isSome
  | [], ws, h => by
    cases rk_nil h
    exact ⟨(fun d e => by cases e), rfl⟩
  | p :: kvs, ws, h => by
    obtain ⟨v, ws', rfl, r1, r2⟩ := rk_cons h
    by_cases e : p.1 = k
    · have e1 : valD (p :: kvs) k = some p.2 := by simp [valD, List.find?_cons, e]
      have e2 : valV ((p.1, v) :: ws') k = some v := valV_pos (p := (p.1, v)) e
      rw [e1, e2]
      exact ⟨(fun d q => by cases q; exact ⟨v, rfl, r1⟩), rfl⟩
    · have e1 : valD (p :: kvs) k = valD kvs k := by simp [valD, List.find?_cons, e]
      have e2 : valV ((p.1, v) :: ws') k = valV ws' k := valV_neg (p := (p.1, v)) e
      rw [e1, e2]
      exact rk_val r2
theorem rk_any {k : Key} {kvs : KVD} {ws : List (Key × V)} (h : RK K φ H kvs ws) : (kvs.any fun kv => decide (kv.1 = k)) = ws.any fun kv => decide (kv.1 = k) := by
  have e1 : (kvs.any fun kv => decide (kv.1 = k)) = (kvs.map (·.1)).any fun x => decide (x = k) := by rw [List.any_map]; rfl
  have e2 : (ws.any fun kv => decide (kv.1 = k)) = (ws.map (·.1)).any fun x => decide (x = k) := by rw [List.any_map]; rfl
  rw [e1, e2, h.1]
theorem rk_repl {k : Key} {d : D} {v : V} (hd : RD K φ H d v) : ∀ {kvs : KVD} {ws : List (Key × V)}, RK K φ H kvs ws → RK K φ H (kvs.map fun kv => if kv.1 = k then (kv.1, d) else kv) (ws.map fun kv => if kv.1 = k then (kv.1, v) else kv)
  | [], ws, h => by cases rk_nil h; exact rk_mk_nil
  | p :: kvs, ws, h => by
    obtain ⟨u, ws', rfl, r1, r2⟩ := rk_cons h
    rw [List.map_cons, List.map_cons]
    by_cases e : p.1 = k
    · rw [if_pos e, if_pos e]; exact rk_mk hd (rk_repl hd r2)
    · rw [if_neg e, if_neg e]; exact rk_mk r1 (rk_repl hd r2)
theorem rk_snoc {k : Key} {d : D} {v : V} (hd : RD K φ H d v) : ∀ {kvs : KVD} {ws : List (Key × V)}, RK K φ H kvs ws → RK K φ H (kvs ++ [(k, d)]) (ws ++ [(k, v)])
  | [], ws, h => by cases rk_nil h; exact rk_mk hd rk_mk_nil
  | p :: kvs, ws, h => by
    obtain ⟨u, ws', rfl, r1, r2⟩ := rk_cons h
    exact rk_mk r1 (rk_snoc hd r2)
theorem rk_put {k : Key} {d : D} {v : V} {kvs : KVD} {ws : List (Key × V)} (h : RK K φ H kvs ws) (hd : RD K φ H d v) : RK K φ H (dputK kvs k d) (L2.putK ws k v) := by
  unfold dputK L2.putK
  rw [rk_any h]
  by_cases e : (ws.any fun kv => decide (kv.1 = k)) = true
  · rw [if_pos e, if_pos e]; exact rk_repl hd h
  · rw [if_neg e, if_neg e]; exact rk_snoc hd h
theorem rk_zip : ∀ {ks : List Key} {xs : List D} {vs : List V}, ks.length = vs.length → RDs K φ H xs vs → RK K φ H (ks.zip xs) (ks.zip vs)
  | [], xs, vs, e, h => rk_mk_nil
  | k :: ks, [], vs, e, h => by
    have := h.length
    cases vs with
    | nil => cases e
    | cons v vs => cases this
  | k :: ks, x :: xs, vs, e, h => by
    rw [RDs] at h
    obtain ⟨v, r, rfl, r1, r2⟩ := h
    exact rk_mk r1 (rk_zip (by simpa using e) r2)
theorem dv_of {d : D} {v : V} {kvs : KVD} (r : SR K φ S H) (rd : RD K φ H d v) (e : dvOf S d = some kvs) : ∃ a ws, v = .ref a ∧ H a = some (.dK ws) ∧ RK K φ H kvs ws := by
  cases d with
  | dic ks xs =>
    rw [RD] at rd
    obtain ⟨a, vs, rfl, h1, h2, h3⟩ := rd
    cases e
    exact ⟨a, _, rfl, h1.1, rk_zip h2 h3⟩
  | ref n =>
    obtain ⟨a, rfl, ha⟩ := rd_ref rd
    simp only [dvOf] at e
    split at e
    · rename_i q hq
      cases e
      obtain ⟨ws, h1, h2⟩ := r.at_ n a _ ha hq
      exact ⟨a, ws, rfl, h1, h2⟩
    · cases e
  | _ => cases e
theorem ky_rd {d : D} {v : V} {k : Key} (rd : RD K φ H d v) (e : kyOf d = some k) : v = kV k := by
  cases d with
  | int i => rw [RD] at rd; cases e; exact rd
  | str i => rw [RD] at rd; cases e; exact rd
  | _ => cases e
end
def dDGet : D2 := fun x y S Q => ∃ kvs k v, dvOf S x = some kvs ∧ kyOf y = some k ∧ valD kvs k = some v ∧ Q v S
section
variable {F : Fam} {W : WX} {o i e value : Expr} {td ty tv : DTE} {pos pos' apos cpos : Pos} {k : Nat}
theorem de_dget (hr : ∀ i, Room k (F.X i).A) (ho : DE F W o td) (hi : DE F W i ty) (hs : NoSl i := by intro _ _; rfl) : DE F W (.Subscript o i pos) (dOp dDGet td ty) := by
  obtain ⟨t1, p1, k1⟩ := ho
  obtain ⟨t2, p2, k2⟩ := hi
  refine ⟨_, fun j => pe_dget (by have := (hr j).units; omega) (p1 j) (p2 j) hs, fun σ ρ φ S H E Q' Q o q h => ?_⟩
  refine k1 σ ρ φ S H E _ _ o (fun φ1 H1 S1 d1 v1 s1 r1 rd1 h1 => ?_) h
  refine k2 σ ρ φ1 S1 H1 E _ _ (o.mono s1 r1) (fun φ2 H2 S2 d2 v2 s2 r2 rd2 h2 => ?_) h1
  obtain ⟨kvs, ky, v, e1, e2, e3, h3⟩ := h2
  obtain ⟨a, ws, rfl, g1, g2⟩ := dv_of r2 (RD.mono s2 r1.muts _ _ rd1) e1
  cases ky_rd rd2 e2
  obtain ⟨u, g3, g4⟩ := (rk_val g2).1 _ e3
  exact ⟨a, u, rfl, g3 ▸ DGet.k g1, q φ2 H2 S2 _ _ (s1.trans s2) r2 g4 h3⟩
/-- k in d, k not in d -/
def rDIn (neg : Bool) : R2 := fun y x H Q => ∃ a o, x = .ref a ∧ DGet H a y o ∧ Q (.bl (neg ^^ o.isSome)) H
theorem op_dIn {X : Cx} (hu : X.A.units + 64 < cLine) : OpR X (compareOp .In) (rDIn false) := by
  rintro pins s σ H y x v u Q I ry rx ⟨a, o, rfl, g, q⟩
  cases (show u = Value.ref a from rx)
  exact d_in (by omega) I g ry fun s' I' => ⟨.bl o.isSome, H, I', rfl, by rw [Bool.false_xor] at q; exact q⟩
def dDIn (neg : Bool) : D2 := fun y x S Q => ∃ kvs k, dvOf S x = some kvs ∧ kyOf y = some k ∧ Q (.bl (neg ^^ (valD kvs k).isSome)) S
theorem lk_dIn {K : PySem.W.Frag} (neg : Bool) : Lk K (dDIn neg) (rDIn neg) := by
  rintro φ S H Q' Q y x v1 v2 r r1 r2 q ⟨kvs, ky, e1, e2, h⟩
  obtain ⟨a, ws, rfl, g1, g2⟩ := dv_of r r2 e1
  cases ky_rd r1 e2
  exact ⟨a, _, rfl, DGet.k g1, by rw [← (rk_val g2).2]; exact q φ H S _ _ .refl r rd_bl h⟩
theorem oq_dIn (hr : ∀ i, Room k (F.X i).A) (i : F.ι) : OpR (F.X i) (compareOp .In) (rDIn false) := op_dIn (hr i).units
def oDPut (d o i : D) (R : Store → Prop) (S : Store) : Prop := ∃ n kvs k, o = .ref n ∧ S[n]? = some (.dK kvs) ∧ kyOf i = some k ∧ kvs.length < 1000 ∧ R (S.set n (.dK (dputK kvs k d)))
def dSetD (te to ti : DTE) : DTS := fun D ρ S => te ρ S (fun d S1 => to ρ S1 (fun o S2 => ti ρ S2 (fun i S3 => oDPut d o i (D.nx ρ) S3) (fun x S1 => D.ex x ρ S1)) (fun x S1 => D.ex x ρ S1)) (fun x S1 => D.ex x ρ S1)
end
end Dy
namespace Dy
open PySem PySem.Spec PyProof.Rows L2
section
variable {K : PySem.W.Frag}
def cLenD : DR := fun ds S Q => ∃ d kvs, ds = [d] ∧ dvOf S d = some kvs ∧ Q (.int kvs.length) S
def cListD : DR := fun ds S Q => ∃ d kvs, ds = [d] ∧ dvOf S d = some kvs ∧ Q (.lst (kvs.map fun kv => kyD kv.1)) S
/-- dict(d): a new one -/
def cDictD : DR := fun ds S Q => ∃ d kvs, ds = [d] ∧ dvOf S d = some kvs ∧ Q (.ref S.length) (S ++ [.dK kvs])
end
end Dy
namespace Dy
open PySem PySem.Spec PyProof.Rows L2
def dPairs : List (DTE × DTE) → Rho → Store → (List (D × D) → Store → Prop) → XQ → Prop
  | [], _, S, Q, _ => Q [] S
  | (tk, tv) :: r, ρ, S, Q, E => tk ρ S (fun x S1 => tv ρ S1 (fun y S2 => dPairs r ρ S2 (fun ps S3 => Q ((x, y) :: ps) S3) E) E) E
def RP (K : PySem.W.Frag) (φ : Al) (H : Hp) (ps : List (D × D)) (vs : List (V × V)) : Prop := RDs K φ H (ps.map (·.1)) (vs.map (·.1)) ∧ RDs K φ H (ps.map (·.2)) (vs.map (·.2))
def DPs (F : Fam) (W : WX) (pos : Pos) (keys : List (Option Expr)) (values : List Expr) (trs' : List (DTE × DTE)) : Prop :=
  ∃ trs, (∀ i, PPs (F.X i) pos keys values trs) ∧ ∀ σ ρ φ S H E Q' Q, Ok F.K W σ ρ φ S H E → (∀ φ1 H1 S1 ps vs, Step φ φ1 H H1 → SR F.K φ1 S1 H1 → RP F.K φ1 H1 ps vs → Q' ps S1 → Q vs H1) → dPairs trs' ρ S Q' E → tPairs trs σ H Q
section
variable {F : Fam} {W : WX} {pos : Pos} {k v : Expr} {ks : List (Option Expr)} {vs : List Expr} {tk tv : DTE} {trs : List (DTE × DTE)}
theorem dps_nil : DPs F W pos [] [] [] := ⟨[], fun _ => pps_nil, fun σ ρ φ S H E Q' Q o q h => q φ H S [] [] .refl o.sr ⟨.nil, .nil⟩ h⟩
theorem dps_cons (hk : DE F W k tk) (hv : DE F W v tv) (hr : DPs F W pos ks vs trs) : DPs F W pos (some k :: ks) (v :: vs) ((tk, tv) :: trs) := by
  obtain ⟨t1, p1, k1⟩ := hk
  obtain ⟨t2, p2, k2⟩ := hv
  obtain ⟨t3, p3, k3⟩ := hr
  refine ⟨(t1, t2) :: t3, fun i => pps_cons (p1 i) (p2 i) (p3 i), fun σ ρ φ S H E Q' Q o q h => ?_⟩
  refine k1 σ ρ φ S H E _ _ o (fun φ1 H1 S1 x u s1 r1 rx h1 => ?_) h
  refine k2 σ ρ φ1 S1 H1 E _ _ (o.mono s1 r1) (fun φ2 H2 S2 y w s2 r2 ry h2 => ?_) h1
  refine k3 σ ρ φ2 S2 H2 E _ _ (o.mono (s1.trans s2) r2) (fun φ3 H3 S3 ps ws s3 r3 rp h3 => ?_) h2
  exact q φ3 H3 S3 ((x, y) :: ps) ((u, w) :: ws) ((s1.trans s2).trans s3) r3 ⟨.cons (RD.mono (s2.trans s3) r1.muts _ _ rx) rp.1, .cons (RD.mono s3 r2.muts _ _ ry) rp.2⟩ h3
end
def dmergeK (more : KVD) : KVD := more.foldl (fun acc kv => dputK acc kv.1 kv.2) []
section
variable {K : PySem.W.Frag} {φ : Al} {H : Hp}
theorem rk_fold : ∀ {more acc : KVD} {ws as : List (Key × V)}, RK K φ H more ws → RK K φ H acc as → RK K φ H (more.foldl (fun acc kv => dputK acc kv.1 kv.2) acc) (ws.foldl (fun acc kv => L2.putK acc kv.1 kv.2) as)
  | [], acc, ws, as, h, g => by cases rk_nil h; exact g
  | p :: more, acc, ws, as, h, g => by
    obtain ⟨v, ws', rfl, r1, r2⟩ := rk_cons h
    exact rk_fold (acc := dputK acc p.1 p.2) (as := L2.putK as p.1 v) r2 (rk_put g r1)
theorem ky_inj {d : D} {k : Key} {v : V} (h : RD K φ H (kyD k) v) : v = kV k := by
  cases k <;> (unfold kyD at h; rw [RD] at h; exact h)
theorem rp_kvs : ∀ {kvs : KVD} {vs : List (V × V)}, RP K φ H (kvs.map fun kv => (kyD kv.1, kv.2)) vs → ∃ ws : List (Key × V), vs = ws.map (fun kv => (kV kv.1, kv.2)) ∧ RK K φ H kvs ws
  | [], vs, h => by
    obtain ⟨h1, _⟩ := h
    rw [List.map_nil, List.map_nil, RDs] at h1
    have : vs = [] := List.map_eq_nil_iff.mp h1
    exact ⟨[], this, rk_mk_nil⟩
  | p :: kvs, vs, h => by
    obtain ⟨h1, h2⟩ := h
    cases vs with
    | nil =>
      rw [List.map_cons, List.map_cons, RDs] at h1
      obtain ⟨_, _, e, _⟩ := h1
      cases e
    | cons u vs =>
      rw [List.map_cons, List.map_cons, List.map_cons, RDs] at h1 h2
      obtain ⟨v1, r1, e1, a1, b1⟩ := h1
      obtain ⟨v2, r2, e2, a2, b2⟩ := h2
      obtain ⟨e3, e4⟩ := List.cons.inj e1
      obtain ⟨e5, e6⟩ := List.cons.inj e2
      obtain ⟨ws, ew, rw'⟩ := rp_kvs (kvs := kvs) (vs := vs) ⟨by rw [e4]; exact b1, by rw [e6]; exact b2⟩
      refine ⟨(p.1, u.2) :: ws, ?_, rk_mk (by rw [e5]; exact a2) rw'⟩
      rw [List.map_cons, ← ew]
      congr 1
      exact Prod.ext (by rw [e3]; exact ky_inj (d := p.2) a1) rfl
theorem zip_kv {κ : Type} : ∀ {kvs : List (κ × D)} {ws : List (κ × V)}, kvs.map (·.1) = ws.map (·.1) → (kvs.map (·.1)).zip (ws.map (·.2)) = ws
  | kvs, ws, h => by rw [h, zip_map]
end
/-- the end of a display: at p a dict, of nobody's yet -/
theorem disp_core {F : Fam} {W : WX} {σ : L2.St} {ρ : Rho} {φ : Al} {S : Store} {H : Hp} {E : XQ} {p : Addr} (o : Ok F.K W σ ρ φ S H E) (hp : H p = none) :
    Step φ ⟨φ.l, p :: φ.b⟩ H (upd H p (.dK [])) ∧ SR F.K ⟨φ.l, p :: φ.b⟩ S (upd H p (.dK [])) := by
  have st0 : Step φ ⟨φ.l, p :: φ.b⟩ H (upd H p (.dK [])) := ⟨⟨[], by simp⟩, fun a m n _ => by
    rcases List.mem_cons.mp m with m | m
    · rw [m]; exact hp
    · exact absurd m n, fun a m => List.mem_cons_of_mem _ m, fun a ob e _ => by
    have : a ≠ p := fun z => by rw [z, hp] at e; cases e
    rw [upd_ne this]; exact e, fun a m n => absurd m n⟩
  refine ⟨st0, o.sr.nd, o.sr.len, fun n a ob ha ho => (o.sr.at_ n a ob ha ho).moved st0.w o.sr.muts (upd_ne fun z => o.sr.out hp (z ▸ List.mem_of_getElem? ha)), fun a m => ?_, fun a m => ?_⟩
  · rcases List.mem_cons.mp m with m | m
    · rw [m]; exact .inr ⟨[], upd_same⟩
    · have ne : a ≠ p := fun z => o.sr.outb hp (z ▸ m)
      rw [upd_ne ne]; exact o.sr.mb a m
  · rcases List.mem_cons.mp m with m | m
    · rw [m]; exact o.sr.out hp
    · exact o.sr.db a m
section
variable {F : Fam} {W : WX} {pos : Pos} {ks : List (Option Expr)} {vs : List Expr} {trs : List (DTE × DTE)}
def dDisp (trs : List (DTE × DTE)) : DTE := fun ρ S Q E => dPairs trs ρ S (fun ps S1 => ∃ kvs : KVD, ps = kvs.map (fun kv => (kyD kv.1, kv.2)) ∧ kvs.length ≤ 15 ∧ Q (.dic ((dmergeK kvs).map (·.1)) ((dmergeK kvs).map (·.2))) S1) E
def dDispN (trs : List (DTE × DTE)) : DTE := fun ρ S Q E => dPairs trs ρ S (fun ps S1 => ∃ kvs : KVD, ps = kvs.map (fun kv => (kyD kv.1, kv.2)) ∧ kvs.length ≤ 15 ∧ Q (.ref S1.length) (S1 ++ [.dK (dmergeK kvs)])) E
theorem de_disp (h : DPs F W pos ks vs trs) (hall : ks.all (·.isSome) = true := by rfl) (hl : ks.length = vs.length := by rfl) (h0 : ks ≠ [] := by decide) (h15 : ks.length ≤ 15 := by decide) : DE F W (.Dict ks vs pos) (dDisp trs) := by
  obtain ⟨t1, p1, k1⟩ := h
  refine ⟨_, fun i => pe_disp (p1 i) hall hl h0 h15, fun σ ρ φ S H E Q' Q o q h p hp => ?_⟩
  obtain ⟨st0, rb⟩ := disp_core o hp
  refine k1 σ ρ _ S _ E _ _ (o.mono st0 rb) (fun φ1 H1 S1 ps us s1 r1 rp h1 => ?_) h
  obtain ⟨kvs, rfl, hz, h1⟩ := h1
  obtain ⟨ws, rfl, rk⟩ := rp_kvs rp
  have m1 : p ∈ φ1.b := s1.sub p List.mem_cons_self
  have n1 : p ∉ φ1.l := r1.db p m1
  refine ⟨s1.keep p _ upd_same (o.sr.out hp), ws, rfl, by rw [rk_len rk]; exact hz, ?_⟩
  have sw : StepW φ1 ⟨φ1.l, φ.b⟩ H1 (upd H1 p (.dK (L2.mergeK [] ws))) := ⟨⟨[], by simp⟩, fun a m n _ => absurd (s1.sub a (List.mem_cons_of_mem _ m)) n, fun a ob e _ nb => by
    have : a ≠ p := fun z => nb (z ▸ m1)
    rw [upd_ne this]; exact e, fun a m n _ => absurd m n⟩
  have rm : RK F.K φ1 H1 (dmergeK kvs) (L2.mergeK [] ws) := rk_fold rk rk_mk_nil
  refine q ⟨φ1.l, φ.b⟩ _ S1 _ _ ⟨s1.pre, fun a m n _ => absurd m n, fun a m => m, fun a ob e n => ?_, fun a m n => ?_⟩ ⟨r1.nd, r1.len, fun n a ob ha ho => (r1.at_ n a ob ha ho).moved sw r1.muts (upd_ne fun z => n1 (z ▸ List.mem_of_getElem? ha)), fun a m => ?_, fun a m => r1.db a (s1.sub a (List.mem_cons_of_mem _ m))⟩ ?_ h1
  · have ne : a ≠ p := fun z => by rw [z, hp] at e; cases e
    rw [upd_ne ne]
    exact s1.keep a ob (by rw [upd_ne ne]; exact e) n
  · have e := s1.new a m n
    have ne : a ≠ p := fun z => by rw [z, upd_same] at e; cases e
    rw [upd_ne ne] at e; exact e
  · have ne : a ≠ p := fun z => o.sr.outb hp (z ▸ m)
    rw [upd_ne ne]
    exact r1.mb a (s1.sub a (List.mem_cons_of_mem _ m))
  · rw [RD]
    have rm2 := RK.monoW sw r1.muts rm
    refine ⟨p, (L2.mergeK [] ws).map (·.2), rfl, ⟨?_, n1, o.sr.outb hp⟩, ?_, rm2.2⟩
    · rw [upd_same]
      show some (HO.dK (L2.mergeK [] ws)) = some (HO.dK (((dmergeK kvs).map (·.1)).zip _))
      rw [rm2.1, zip_map]
    · have := congrArg List.length rm2.1
      simpa using this
end
end Dy
namespace Dy
open PySem PySem.Spec PyProof.Rows L2
section
variable {F : Fam} {W : WX} {o i e value : Expr} {to ti te : DTE} {pos tpos apos cpos : Pos} {k : Nat}
def oDAug (r : D2) (o i : D) (te : DTE) (R : Rho → Store → Prop) (E : XQ) (ρ : Rho) (S : Store) : Prop := ∃ kvs ky v, dvOf S o = some kvs ∧ kyOf i = some ky ∧ valD kvs ky = some v ∧ te ρ S (fun d S1 => r v d S1 fun z S2 => oDPut z o i (R ρ) S2) E
def dAugD (to ti te : DTE) (r : D2) : DTS := fun D ρ S => to ρ S (fun o S1 => ti ρ S1 (fun i S2 => oDAug r o i te D.nx (fun x S3 => D.ex x ρ S3) ρ S2) (fun x S1 => D.ex x ρ S1)) (fun x S1 => D.ex x ρ S1)
def oDDel (o i : D) (R : Store → Prop) (S : Store) : Prop := ∃ n kvs ky, o = .ref n ∧ S[n]? = some (.dK kvs) ∧ kyOf i = some ky ∧ (valD kvs ky).isSome = true ∧ R (S.set n (.dK (ddropK kvs ky)))
def dDelD (to ti : DTE) : DTS := fun D ρ S => to ρ S (fun o S1 => ti ρ S1 (fun i S2 => oDDel o i (D.nx ρ) S2) (fun x S1 => D.ex x ρ S1)) (fun x S1 => D.ex x ρ S1)
def oDPop (o i : D) (S : Store) (Q : QD) : Prop := ∃ n kvs ky v, o = .ref n ∧ S[n]? = some (.dK kvs) ∧ kyOf i = some ky ∧ valD kvs ky = some v ∧ Q v (S.set n (.dK (ddropK kvs ky)))
def dPopD (to ti : DTE) : DTE := fun ρ S Q E => to ρ S (fun o S1 => (∃ kvs, dvOf S1 o = some kvs) ∧ ti ρ S1 (fun i S2 => oDPop o i S2 Q) E) E
end
def truD (S : Store) : D → Option Bool
  | .non => some false
  | .bl b => some b
  | .int i => some (i != 0)
  | .tup xs => some (!xs.isEmpty)
  | .lst xs => some (!xs.isEmpty)
  | .frz xs => some (!xs.isEmpty)
  | .dic ks xs => some (!(ks.zip xs).isEmpty)
  | .ref n => match S[n]? with
    | some (.lst xs) => some (!xs.isEmpty)
    | some (.dK kvs) => some (!kvs.isEmpty)
    | _ => none
  | _ => none
theorem RDs.empty {K : PySem.W.Frag} {φ : Al} {H : Hp} {xs : List D} {vs : List V} (h : RDs K φ H xs vs) : vs.isEmpty = xs.isEmpty := by
  have := h.length
  cases xs <;> cases vs <;> first | rfl | cases this
def dTru (te : DTE) : DTT := fun ρ S Q E => te ρ S (fun d S1 => ∃ b, truD S1 d = some b ∧ Q b S1) E
end Dy
namespace Dy
open PySem PySem.Spec PyProof.Rows L2
theorem enum_made {v : Value} {o : Obj} {HH : Heap → Prop} (B : Begins v o HH) :
    Meets (Builtin.«enumerate.__new__» ⟨[.type "enumerate", v], []⟩) (fun _ R s => HH s.heap ∧ R (.ok (.ret (.ref (s.heap.push o).objs.size)))
      { s with heap := (s.heap.push o).push { cls := .type "enumerate", data := .fields #[.none, .bool false, .ref s.heap.objs.size, rawInt 0, .none, .none] } }) := by
  refine .of_wp fun prog w A R s h => ?_
  obtain ⟨hp, gs, ds, ts, oo⟩ := s
  obtain ⟨hB, h⟩ := h
  have sub0 := sub_enumerate
  have go : ∀ {A' : Around} {E Q : Value → Shared → Prop}, Q (.ref hp.objs.size) ⟨hp.push o, gs, ds, ts, oo⟩ → wpAny (model prog w) A' (pyIter v) Q E ⟨hp, gs, ds, ts, oo⟩ := fun q => B.iter prog w _ _ ⟨hp, gs, ds, ts, oo⟩ _ hB q
  wp_walk using go
  refine wpAny_stack_any fun stk => ?_
  refine wpAny_pure ?_
  split
  · rename_i cl _ _ _ _ _
    cases (cl == Value.type "enumerate") <;> (wp_walk using go; exact ⟨_, rfl, h⟩)
  · (wp_walk using go; exact ⟨_, rfl, h⟩)
theorem enum_tup {prog : Program} {w : World} {A : Around} {E : Value → Shared → Prop} {s : Shared} {t : Addr} {items : Array Value} {Q : Value → Shared → Prop} (hT : s.heap.IsTuple t items)
    (h : ∀ h', IsEnum h' (s.heap.objs.size + 1) s.heap.objs.size 0 .none → h'.IsTupleIter s.heap.objs.size t 0 → (∀ b o, s.heap.get? b = some o → h'.get? b = some o) → Q (.ref (s.heap.objs.size + 1)) { s with heap := h' }) :
    wpAny (model prog w) A (call (.type "enumerate") [.ref t]) Q E s := by
  let ob : Obj := { cls := .type "tuple_iterator", data := .fields #[.ref t, .int 0 0] }
  let en : Obj := { cls := .type "enumerate", data := .fields #[.none, .bool false, .ref s.heap.objs.size, rawInt 0, .none, .none] }
  refine callType_new F.called_enumerate (by decide) (F.typeCall_enumerate_1 _) (F.newCall_enumerate_1 _) (fun obj => F.args_object_init_2 obj _) F.entry_enumerate_new (enum_made (begins_tuple t items)) ⟨hT, ?_⟩
  have z1 : (s.heap.push ob).objs.size = s.heap.objs.size + 1 := Heap.size_push ..
  have e1 : ((s.heap.push ob).push en).get? (s.heap.objs.size + 1) = some en := by
    have := Heap.get?_push_size (s.heap.push ob) (o := en) rfl
    rw [z1] at this; exact this
  show _ ∧ _
  rw [z1]
  exact ⟨⟨_, e1, rfl⟩, h _ e1 ⟨_, Heap.get?_push_of_some _ (Heap.get?_push_size _ rfl), rfl, rfl⟩ fun b o x => Heap.get?_push_of_some _ (Heap.get?_push_of_some _ x)⟩
/-- the tuple at a, its items in new pairs -/
def IteT (K : PySem.W.Frag) (a : Addr) : It :=
  ⟨fun i H => ∃ (ys : List V) (y : V), SqT K H a ys ∧ ys[i]? = some y,
   fun i H v H' => ∃ p y, v = .ref p ∧ H p = none ∧ H' = upd H p (.tup [.int (i : Nat), y]) ∧ ∀ ys, SqT K H a ys → ys[i]? = some y,
   fun i H => ∃ ys : List V, SqT K H a ys ∧ ys.length = i⟩
theorem turn_enumT {P : Program} {w : World} {K : PySem.W.Frag} {el : List Expr} {k : Nat} {tp : Pos} (a e it : Addr) : Turn P w K (.Tuple el k tp) (IteT K a) [e, it] e (fun i h => (∃ old, IsEnum h e it ((i : Nat) : Int) old) ∧ h.IsTupleIter it a i ∧ e ≠ it) where
  mem := by simp
  obj := by
    rintro i h ⟨⟨old, he⟩, ⟨o, ho, _, hd⟩, _⟩ b hb
    rcases (by simpa using hb : b = e ∨ b = it) with z | z <;> rw [z]
    · exact ⟨_, he, fun v q => nomatch q⟩
    · exact ⟨o, ho, fun v q => by rw [hd] at q; cases q⟩
  keep := by
    rintro i h h' ⟨⟨old, he⟩, hi, ne⟩ k
    exact ⟨⟨old, k e (by simp) _ he⟩, hi.at fun o q => k it (by simp) o q, ne⟩
  item := by
    intro X e1 e2 e3 hc i pins s σ H E I hf st hg
    subst e1 e2 e3
    obtain ⟨⟨old, he⟩, hit, ne⟩ := st
    obtain ⟨ys, y, hq, hy⟩ := hg
    obtain ⟨us, rv, tp0, hz⟩ := I.tuple hq
    obtain ⟨u, hu, ru⟩ := rv.get hy
    have he1 : e < s.heap.objs.size := Heap.lt_size he
    have hi1 : it < s.heap.objs.size := by
      obtain ⟨_, q, _⟩ := hit
      exact Heap.lt_size q
    have ane : a ≠ it := fun z => by
      obtain ⟨o, ho, c, _⟩ := tp0
      obtain ⟨o2, ho2, c2, _⟩ := hit
      rw [z, ho2] at ho
      cases ho
      rw [c2] at c
      injection c with c
      exact absurd c (by decide)
    have ena : e ∉ [it, a] := fun m => by
      rcases (by simpa using m : e = it ∨ e = a) with z | z
      · exact ne z
      · obtain ⟨o, ho, c, _⟩ := tp0
        rw [← z, he] at ho
        cases ho
        have c : Value.type "enumerate" = Value.type "tuple" := c
        injection c with c
        exact absurd c (by decide)
    have Dr := Draws.tuple (prog := X.prog) (w := X.w) (A := X.A.in1) (I.ok.hd hc) it a ane us.toArray
    have hlt : i < us.toArray.size := by
      have := (List.getElem?_eq_some_iff.mp hu).1
      simpa using this
    refine wpAny_pyNext_enum_itemD Dr he ⟨hit, tp0⟩ hlt ne ena fun x h' tk px ho st' hT hsz hk => ?_
    have ex : x = u := by
      have px : us.toArray[i]? = some x := px
      rw [List.getElem?_toArray, hu] at px
      cases px; rfl
    subst ex
    refine ⟨_, rfl, wpAny_letOwnedTupleGo_enum (s := { s with heap := h', toks := tk + 1 }) ho fun h2 he2 sb => ?_⟩
    have hT2 : h2.get? s.heap.objs.size = some { cls := .type "tuple", data := .seq #[.int i tk, x] } := (sb.2 _ (Nat.ne_of_gt he1)).trans hT
    have new : ObjOk X.prog X.w (upd H s.heap.objs.size (.tup [.int (i : Nat), y])) h2 s.heap.objs.size (.tup [.int (i : Nat), y]) := ⟨small (Nat.le_of_ble_eq_true rfl), [.int i tk, x], .cons ⟨_, rfl⟩ (.cons ru .nil), ⟨_, hT2, rfl, _, rfl⟩⟩
    have I1 : Inv X pins σ (upd H s.heap.objs.size (.tup [.int (i : Nat), y])) { s with heap := h2, toks := tk + 1 } := I.turnedNew (ch := [e, it]) (fun b ob hb q => (sb.2 b fun z => hb (by simp [z])).trans (hk b ob (fun z => hb (by simp [z])) (fun z => hb (by simp [z])) q)) hf (Nat.le_refl _) new
    refine ⟨.ref s.heap.objs.size, _, I1, rfl, ⟨_, y, rfl, I.hok.fresh (Nat.le_refl _), rfl, fun zs hzs => ?_⟩, ⟨⟨x, ?_⟩, st'.1.at fun o q => (sb.2 it (Ne.symm ne)).trans q, ne⟩, fun b hb => ?_⟩
    · rw [I.tuple_inj hzs hq]; exact hy
    · have ei : ((i + 1 : Nat) : Int) = (i : Int) + 1 := by omega
      rw [ei]; exact he2
    · have hlt2 : b < s.heap.objs.size := by
        rcases (by simpa using hb : b = e ∨ b = it) with z | z <;> rw [z] <;> assumption
      rw [upd_ne (Nat.ne_of_lt hlt2)]
      exact (hf b hb).1
  done := by
    intro X e1 e2 e3 hc i pins s σ H E I hf st hg
    subst e1 e2 e3
    obtain ⟨⟨old, he⟩, hit, ne⟩ := st
    obtain ⟨ys, hq, hy⟩ := hg
    obtain ⟨us, rv, tp0, hz⟩ := I.tuple hq
    obtain ⟨f0, f1, f2, f3, f4, f5⟩ := hf it (by simp)
    have ane : a ≠ it := fun z => by
      obtain ⟨o, ho, c, _⟩ := tp0
      obtain ⟨o2, ho2, c2, _⟩ := hit
      rw [z, ho2] at ho
      cases ho
      rw [c2] at c
      injection c with c
      exact absurd c (by decide)
    have Dr := Draws.tuple (prog := X.prog) (w := X.w) (A := X.A.in1) (I.ok.hd hc) it a ane us.toArray
    have es : us.toArray.size = i := by
      have := rv.length
      simp; omega
    rw [es] at Dr
    exact wpAny_pyNext_enum_endD Dr he ⟨hit, tp0⟩ fun h' eb => ⟨rfl, I.turned (t' := s.toks) (fun b o hb q => eb b o hb q) f0 f1 f3 f4 f5⟩
  self := by
    rintro A i s Q E ⟨⟨_, he⟩, _⟩ h
    exact wpAny_pyIter_enum he h
def iEnumT (K : PySem.W.Frag) (ta : TA) : TI := fun σ H R => ta σ H fun vs H1 => ∃ a ys, vs = [.ref a] ∧ SqT K H1 a ys ∧ R (IteT K a) H1
theorem pi_enumT {X : Cx} {e : Expr} {ta : TA} {p pos tp : Pos} {el : List Expr} {k : Nat} (hg : Gl X "enumerate") (hm : X.mg "enumerate" = none) (ha : PA X [e] ta) (hs : starEach [e] X.env = [(false, eval e X.env)] := by rfl) : PI X (.Tuple el k tp) (.Call (.Name "enumerate" p) [e] [] pos) (iEnumT X.K ta) := by
  constructor
  intro pins s σ H R I h
  refine Call_ (ld_blt I hg hm boot_enumerate (PyProof.Rows.callWith_type1 (thn (ha.run pos pins s σ H _ I h) fun us s1 h1 => ?_) hs rfl))
  obtain ⟨vs, H1, I1, r1, a, ys, ev, hq, q⟩ := h1
  subst ev
  obtain ⟨u, rfl, rx⟩ := vals1 r1
  cases rx
  obtain ⟨its, rv, tp0, hz⟩ := I1.tuple hq
  refine enum_tup tp0 fun h' he hit hk => wpAny_pyIter_enum he ?_
  have I2 : Inv X pins σ H1 { s1 with heap := h' } := I1.kept (t' := s1.toks) hk
  refine ⟨s1.heap.objs.size + 1, [s1.heap.objs.size + 1, s1.heap.objs.size], _, _, H1, rfl, I2, turn_enumT a (s1.heap.objs.size + 1) s1.heap.objs.size, ⟨⟨.none, he⟩, hit, Nat.succ_ne_self _⟩, fun b hb => ?_, q⟩
  have hle : s1.heap.objs.size ≤ b := by
    rcases (by simpa using hb : b = s1.heap.objs.size + 1 ∨ b = s1.heap.objs.size) with z | z <;> rw [z] <;> first | exact Nat.le_refl _ | exact Nat.le_add_right _ _
  exact I1.fpOk hle (I1.hok.fresh hle)
def enD (xs : List D) : List D := (List.range xs.length).map fun i => .tup [.int (i : Nat), xs.getD i .non]
theorem enD_len {xs : List D} : (enD xs).length = xs.length := by unfold enD; simp
theorem enD_get {xs : List D} {i : Nat} {d : D} (h : xs[i]? = some d) : (enD xs)[i]? = some (.tup [.int (i : Nat), d]) := by
  have hi := (List.getElem?_eq_some_iff.mp h).1
  unfold enD
  rw [List.getElem?_map, List.getElem?_range hi]
  simp [List.getD_eq_getElem?_getD, h]
def jEnT (t : DTA) : DTI := fun ρ S R E => t ρ S (fun ds S1 => ∃ xs, ds = [.tup xs] ∧ R (enD xs) (fun _ => True) S1) E
def jEnL (t : DTA) : DTI := fun ρ S R E => t ρ S (fun ds S1 => ∃ d xs, ds = [d] ∧ lsOf S1 d = some xs ∧ R (enD xs) (fun S => lsOf S d = some xs) S1) E
section
variable {F : Fam} {W : WX} {e : Expr} {t : DTA} {p pos tp : Pos} {el : List Expr} {k : Nat}
theorem yld_enum {K : PySem.W.Frag} {φ2 : Al} {H2 H3 : Hp} {S2 : Store} {i : Nat} {xs : List D} {vs : List V} {v : V} {q : Addr} {y : V} (r : SR K φ2 S2 H2) (rs2 : RDs K φ2 H2 xs vs) (hi : i < xs.length) (hp : H2 q = none) (hH : H3 = upd H2 q (.tup [.int (i : Nat), y])) (hv : v = .ref q) (hy : vs[i]? = some y) :
    ∃ d, (enD xs)[i]? = some d ∧ Step φ2 φ2 H2 H3 ∧ SR K φ2 S2 H3 ∧ RD K φ2 H3 d v := by
  subst hH hv
  obtain ⟨u, eu, ru⟩ := rs2.get (List.getElem?_eq_getElem hi)
  rw [hy] at eu
  cases eu
  exact ⟨_, enD_get (List.getElem?_eq_getElem hi), step_new hp, r.new hp, rd_tup_new r hp (.cons (by rw [RD]) (.cons ru .nil))⟩
theorem di_enumT (hg : ∀ i, Gl (F.X i) "enumerate") (hm : ∀ i, (F.X i).mg "enumerate" = none) (ha : DA F W [e] t) (hs : ∀ i, starEach [e] (F.X i).env = [(false, eval e (F.X i).env)] := by intro _; rfl) : DI F W (.Tuple el k tp) (.Call (.Name "enumerate" p) [e] [] pos) (jEnT t) := by
  obtain ⟨t1, p1, k1⟩ := ha
  refine ⟨_, fun i => F.hK i ▸ pi_enumT (hg i) (hm i) (p1 i) (hs i), fun σ ρ φ S H E R' R o q h => ?_⟩
  refine k1 σ ρ φ S H E _ _ o (fun φ1 H1 S1 ds us s1 r1 rd h1 => ?_) h
  obtain ⟨xs, rfl, h1⟩ := h1
  obtain ⟨v, rfl, hv⟩ := rds1 rd
  obtain ⟨a, vs, rfl, hq, rs⟩ := rd_tup hv
  refine ⟨a, vs, rfl, hq, q φ1 H1 S1 _ _ _ s1 r1 (fun φ2 H2 S2 i s r lv => ?_) h1⟩
  have hq2 := s.w.sqT r1.muts.m r1.muts.b hq
  have rs2 := RDs.mono s r1.muts _ _ rs
  refine ⟨fun hi => ⟨vs, hq2, by rw [rs.length, ← enD_len]; exact hi⟩, fun hi => ?_⟩
  rw [enD_len] at hi
  obtain ⟨u, eu, ru⟩ := rs2.get (List.getElem?_eq_getElem hi)
  refine ⟨⟨vs, u, hq2, eu⟩, ?_⟩
  rintro v H3 ⟨b, y, hv, hp, hH, hy⟩
  exact yld_enum r rs2 hi hp hH hv (hy vs hq2)
theorem di_enumL (hg : ∀ i, Gl (F.X i) "enumerate") (hm : ∀ i, (F.X i).mg "enumerate" = none) (ha : DA F W [e] t) (hs : ∀ i, starEach [e] (F.X i).env = [(false, eval e (F.X i).env)] := by intro _; rfl) : DI F W (.Tuple el k tp) (.Call (.Name "enumerate" p) [e] [] pos) (jEnL t) := by
  obtain ⟨t1, p1, k1⟩ := ha
  refine ⟨_, fun i => F.hK i ▸ pi_enum (hg i) (hm i) (p1 i) (hs i), fun σ ρ φ S H E R' R o q h => ?_⟩
  refine k1 σ ρ φ S H E _ _ o (fun φ1 H1 S1 ds us s1 r1 rd h1 => ?_) h
  obtain ⟨d, xs, rfl, ed, h1⟩ := h1
  obtain ⟨v, rfl, hv⟩ := rds1 rd
  obtain ⟨a, vs, rfl, hq, rs⟩ := ls_of r1 hv ed
  refine ⟨a, vs, rfl, hq, q φ1 H1 S1 _ _ _ s1 r1 (fun φ2 H2 S2 i s r lv => ?_) h1⟩
  obtain ⟨a', vs2, ea, hq2, rs2⟩ := ls_of r (RD.mono s r1.muts _ _ hv) lv
  cases ea
  refine ⟨fun hi => ⟨vs2, hq2, by rw [rs2.length, ← enD_len]; exact Nat.le_of_eq hi⟩, fun hi => ?_⟩
  rw [enD_len] at hi
  obtain ⟨u, eu, ru⟩ := rs2.get (List.getElem?_eq_getElem hi)
  refine ⟨⟨vs2, u, hq2, eu⟩, ?_⟩
  rintro v H3 ⟨b, y, hv, hp, hH, hy⟩
  exact yld_enum r rs2 hi hp hH hv (hy vs2 hq2)
end
end Dy
namespace Dy
open PySem PySem.Spec PyProof.Rows L2
theorem s_raise0 {C : Addr} {nx bk ct : Rho → Store → Prop} {rt : D → Store → Prop} {ex : Exc → Rho → Store → Prop} {ρ : Rho} {S : Store} (h : ex ⟨C, none⟩ ρ S) : dRaise0 C ⟨nx, rt, bk, ct, ex⟩ ρ S := h
/-- which classes C is under: by a table -/
def ktTab (l : List (D × Bool)) (c : D) : Option Bool := match c with
  | .ty n => (l.find? fun p => match p.1 with | .ty m => decide (m = n) | _ => false).map (·.2)
  | .cls n => (l.find? fun p => match p.1 with | .cls m => decide (m = n) | _ => false).map (·.2)
  | _ => none
theorem kt_tab {K : PySem.W.Frag} {C : Addr} {l : List (D × Bool)} (h1 : ∀ n b, (D.ty n, b) ∈ l → PySem.W.kitOne K (.ref C) (.type n) = some b) (h2 : ∀ c b, (D.cls c, b) ∈ l → PySem.W.kitOne K (.ref C) (.ref c) = some b) : KitOf K C (ktTab l) := fun c b e => by
  cases c with
  | ty n =>
    have e : (l.find? fun p => match p.1 with | .ty m => decide (m = n) | _ => false).map (·.2) = some b := e
    obtain ⟨p, hp, hb⟩ := Option.map_eq_some_iff.mp e
    have m := List.mem_of_find?_eq_some hp
    have q := List.find?_some hp
    obtain ⟨d, b'⟩ := p
    cases d with
    | ty k =>
      have q : k = n := of_decide_eq_true q
      cases q; cases hb
      exact .inl ⟨_, rfl, h1 _ _ m⟩
    | _ => cases q
  | cls n =>
    have e : (l.find? fun p => match p.1 with | .cls m => decide (m = n) | _ => false).map (·.2) = some b := e
    obtain ⟨p, hp, hb⟩ := Option.map_eq_some_iff.mp e
    have m := List.mem_of_find?_eq_some hp
    have q := List.find?_some hp
    obtain ⟨d, b'⟩ := p
    cases d with
    | cls k =>
      have q : k = n := of_decide_eq_true q
      cases q; cases hb
      exact .inr ⟨_, rfl, h2 _ _ m⟩
    | _ => cases q
  | _ => cases e
end Dy
namespace Dy
open PySem PySem.Spec PyProof.Rows L2
def dSortSet (te : DTE) : DTE := fun ρ S Q E => te ρ S (fun d S1 => ∃ ns : List Int, d = .tup (ns.map .int) ∧ ns.length < 64 ∧ ∀ ns' : List Int, ns'.Pairwise (· < ·) → (∀ k, k ∈ ns' ↔ k ∈ ns) → Q (.lst (ns'.map .int)) S1) E
end Dy
namespace Dy
open PySem PySem.Spec PyProof.Rows L2
section
variable {ρ : Rho} {S : Store} {Q : QD} {E : XQ} {ta tb tc te to ti : DTE} {t : DTA} {d d2 x y : D} {i j n : Nat} {k : Key} {kvs : KVD} {nx bk ct : Rho → Store → Prop} {rt : D → Store → Prop} {ex : Exc → Rho → Store → Prop}
theorem dv_ref (e : S[n]? = some (.dK kvs)) : dvOf S (.ref n) = some kvs := by unfold dvOf; simp only [e]
theorem o_dget {v : D} (e : dvOf S x = some kvs) (e2 : kyOf y = some k) (e3 : valD kvs k = some v) (h : Q v S) : dDGet x y S Q := ⟨kvs, k, v, e, e2, e3, h⟩
theorem o_dIn {neg : Bool} (e : dvOf S x = some kvs) (e2 : kyOf y = some k) (h : Q (.bl (neg ^^ (valD kvs k).isSome)) S) : dDIn neg y x S Q := ⟨kvs, k, e, e2, h⟩
theorem s_setD (h : te ρ S (fun d S1 => to ρ S1 (fun o S2 => ti ρ S2 (fun i S3 => oDPut d o i (nx ρ) S3) (fun x S1 => ex x ρ S1)) (fun x S1 => ex x ρ S1)) (fun x S1 => ex x ρ S1)) : dSetD te to ti ⟨nx, rt, bk, ct, ex⟩ ρ S := h
theorem s_augD {r : D2} (h : to ρ S (fun o S1 => ti ρ S1 (fun i S2 => oDAug r o i te nx (fun x S3 => ex x ρ S3) ρ S2) (fun x S1 => ex x ρ S1)) (fun x S1 => ex x ρ S1)) : dAugD to ti te r ⟨nx, rt, bk, ct, ex⟩ ρ S := h
theorem s_delD (h : to ρ S (fun o S1 => ti ρ S1 (fun i S2 => oDDel o i (nx ρ) S2) (fun x S1 => ex x ρ S1)) (fun x S1 => ex x ρ S1)) : dDelD to ti ⟨nx, rt, bk, ct, ex⟩ ρ S := h
theorem c_dpop (h : to ρ S (fun o S1 => (∃ kvs, dvOf S1 o = some kvs) ∧ ti ρ S1 (fun i S2 => oDPop o i S2 Q) E) E) : dPopD to ti ρ S Q E := h
theorem o_dvAnd {B : Prop} (e : dvOf S d = some kvs) (h : B) : (∃ kvs, dvOf S d = some kvs) ∧ B := ⟨⟨kvs, e⟩, h⟩
theorem c_disp {trs : List (DTE × DTE)} (h : dPairs trs ρ S (fun ps S1 => ∃ kvs : KVD, ps = kvs.map (fun kv => (kyD kv.1, kv.2)) ∧ kvs.length ≤ 15 ∧ Q (.dic ((dmergeK kvs).map (·.1)) ((dmergeK kvs).map (·.2))) S1) E) : dDisp trs ρ S Q E := h
theorem c_dispN {trs : List (DTE × DTE)} (h : dPairs trs ρ S (fun ps S1 => ∃ kvs : KVD, ps = kvs.map (fun kv => (kyD kv.1, kv.2)) ∧ kvs.length ≤ 15 ∧ Q (.ref S1.length) (S1 ++ [.dK (dmergeK kvs)])) E) : dDispN trs ρ S Q E := h
theorem c_pnil {QP : List (D × D) → Store → Prop} (h : QP [] S) : dPairs [] ρ S QP E := h
theorem c_pcons {QP : List (D × D) → Store → Prop} {tk tv : DTE} {r : List (DTE × DTE)} (h : tk ρ S (fun x S1 => tv ρ S1 (fun y S2 => dPairs r ρ S2 (fun ps S3 => QP ((x, y) :: ps) S3) E) E) E) : dPairs ((tk, tv) :: r) ρ S QP E := h
theorem c_tru {QT : Bool → Store → Prop} (h : te ρ S (fun d S1 => ∃ b, truD S1 d = some b ∧ QT b S1) E) : dTru te ρ S QT E := h
theorem o_tru {P : Bool → Prop} {b : Bool} (e : truD S d = some b) (h : P b) : ∃ b, truD S d = some b ∧ P b := ⟨b, e, h⟩
theorem o_lenD (e : dvOf S d = some kvs) (h : Q (.int kvs.length) S) : cLenD [d] S Q := ⟨d, kvs, rfl, e, h⟩
theorem o_listD (e : dvOf S d = some kvs) (h : Q (.lst (kvs.map fun kv => kyD kv.1)) S) : cListD [d] S Q := ⟨d, kvs, rfl, e, h⟩
theorem o_dictD (e : dvOf S d = some kvs) (h : Q (.ref S.length) (S ++ [.dK kvs])) : cDictD [d] S Q := ⟨d, kvs, rfl, e, h⟩
theorem c_sortSet (h : te ρ S (fun d S1 => ∃ ns : List Int, d = .tup (ns.map .int) ∧ ns.length < 64 ∧ ∀ ns' : List Int, ns'.Pairwise (· < ·) → (∀ k, k ∈ ns' ↔ k ∈ ns) → Q (.lst (ns'.map .int)) S1) E) : dSortSet te ρ S Q E := h
theorem s_enT {R : List D → (Store → Prop) → Store → Prop} (h : t ρ S (fun ds S1 => ∃ xs, ds = [.tup xs] ∧ R (enD xs) (fun _ => True) S1) E) : jEnT t ρ S R E := h
theorem s_enL {R : List D → (Store → Prop) → Store → Prop} (h : t ρ S (fun ds S1 => ∃ d xs, ds = [d] ∧ lsOf S1 d = some xs ∧ R (enD xs) (fun S => lsOf S d = some xs) S1) E) : jEnL t ρ S R E := h
theorem o_enT {R : List D → Prop} {xs : List D} (h : R xs) : ∃ ys, [D.tup xs] = [.tup ys] ∧ R ys := ⟨xs, rfl, h⟩
end
end Dy
namespace Dy
open PySem PySem.Spec PyProof.Rows L2
end Dy
namespace Dy
open PySem PySem.Spec PyProof.Rows L2
end Dy
namespace Dy
open PySem PySem.Spec PyProof.Rows L2 SrtO
end Dy
namespace Dy
open PySem PySem.Spec PyProof.Rows L2 SrtO
def dSortSetB (te : DTE) : DTE := fun ρ S Q E => te ρ S (fun d S1 => ∃ ns : List Int, d = .tup (ns.map .int) ∧ ns.length ≤ 1000 ∧ ∀ ns' : List Int, ns'.Pairwise (· < ·) → (∀ k, k ∈ ns' ↔ k ∈ ns) → Q (.lst (ns'.map .int)) S1) E
theorem c_sortSetB {te : DTE} {ρ : Rho} {S : Store} {Q : QD} {E : XQ} (h : te ρ S (fun d S1 => ∃ ns : List Int, d = .tup (ns.map .int) ∧ ns.length ≤ 1000 ∧ ∀ ns' : List Int, ns'.Pairwise (· < ·) → (∀ k, k ∈ ns' ↔ k ∈ ns) → Q (.lst (ns'.map .int)) S1) E) : dSortSetB te ρ S Q E := h
end Dy
namespace Dy
open PySem PySem.Spec PyProof.Rows L2
section
variable {α β : Type}
def kget (kn : List (Nat × α)) (i : Nat) : Option α := (kn.find? fun p => decide (p.1 = i)).map (·.2)
def keysN (kn : List (Nat × α)) : List Nat := kn.map (·.1)
def kvsF (f : α → D) (kn : List (Nat × α)) : KVD := kn.map fun p => (.inl ((p.1 : Nat) : Int), f p.2)
end
inductive Deed where
  | ch (i : Nat) | fk (i : Nat) | jn (i j : Nat) | ls (i : Nat)
  deriving DecidableEq
abbrev natD (m : Nat) : D := .int (m : Int)
def Deed.d : Deed → D
  | .ch i => .tup [.str "change", natD i]
  | .fk i => .tup [.str "fork", natD i]
  | .jn i j => .tup [.str "join", natD i, natD j]
  | .ls i => .tup [.str "lose", natD i]
structure Wld where
  most : Nat
  kind : Str
  los : Bool
def Wld.d (w : Wld) : D := .tup [natD w.most, .str w.kind, .bl w.los]
structure HM where
  kn : List (Nat × Nat)
  forks : Nat
  pen : Nat
abbrev HM.ks (h : HM) : List Nat := keysN h.kn
def HM.at (h : HM) (i : Nat) : Nat := (kget h.kn i).getD 0
end Dy
namespace Dy
open PySem PySem.Spec PyProof.Rows L2
/-- what a deed asks of the herd -/
def HM.ok (h : HM) : Deed → Prop
  | .ch i => i ∈ h.ks
  | .fk i => i ∈ h.ks
  | .jn i j => i ∈ h.ks ∧ j ∈ h.ks ∧ i ≠ j
  | .ls i => i ∈ h.ks
structure HM.Inv (h : HM) : Prop where
  nd : h.ks.Nodup
  ne : h.ks ≠ []
  le : ∀ k ∈ h.ks, k ≤ h.forks
  pe : h.pen ≤ h.forks
end Dy
namespace Dy
open PySem PySem.Spec PyProof.Rows L2
/-- items told by a function, a test told by a function; pairs -/
theorem o_lcG2 {ρ : Rho} {S : Store} {Q : QD} {tt : DTT} {te : DTE} {i j : Nat} {xs : List D} {live : Store → Prop} (f : D → D) (p : D → Bool) (hl : live S) (hz : xs.length ≤ sizeLine)
    (ht : ∀ x ∈ xs, ∃ u v, x = .tup [u, v] ∧ ∀ P : Bool → Store → Prop, P (p x) S → tt ((ρ.set i (some u)).set j (some v)) S P noX)
    (he : ∀ x ∈ xs, p x = true → ∀ u v, x = .tup [u, v] → ∀ P : QD, P (f x) S → te ((ρ.set i (some u)).set j (some v)) S P noX)
    (h : Q (.lst ((xs.filter p).map f)) S) : dLcK (c2 i j) tt te ρ Q xs live S := by
  refine ⟨fun k acc S' => S' = S ∧ acc = ((xs.take k).filter p).map f, ⟨rfl, by simp⟩, fun k acc S' _ hh => hh.1 ▸ hl, ?_, ?_⟩
  · rintro k x acc S' hx ⟨rfl, rfl⟩
    have m := List.mem_of_getElem? hx
    have hk : k < xs.length := (List.getElem?_eq_some_iff.mp hx).1
    obtain ⟨u, v, ex, h1⟩ := ht x m
    refine ⟨u, v, ex, h1 _ ?_⟩
    have e : (xs.take (k + 1)).filter p = (xs.take k).filter p ++ if p x = true then [x] else [] := by
      rw [List.take_succ, hx, List.filter_append]
      congr 1
      by_cases q : p x = true
      · simp [q]
      · simp [q]
    cases q : p x with
    | true =>
      rw [if_pos rfl]
      refine he x m q u v ex _ ⟨?_, rfl, by rw [e, q]; simp⟩
      have := List.length_filter_le p (xs.take k)
      have l2 : (xs.take k).length ≤ k := by simp; omega
      simp only [List.length_map]
      omega
    | false =>
      rw [if_neg (by decide)]
      exact ⟨rfl, by rw [e, q]; simp⟩
  · rintro acc S' ⟨rfl, rfl⟩
    rw [List.take_length]
    exact h
theorem o_lcM2 {ρ : Rho} {S : Store} {Q : QD} {te : DTE} {i j : Nat} {xs : List D} {live : Store → Prop} (f : D → D) (hl : live S) (hz : xs.length ≤ sizeLine)
    (he : ∀ x ∈ xs, ∃ u v, x = .tup [u, v] ∧ ∀ P : QD, P (f x) S → te ((ρ.set i (some u)).set j (some v)) S P noX) (h : Q (.lst (xs.map f)) S) : dLcK (c2 i j) dYes te ρ Q xs live S := by
  refine o_lcG2 f (fun _ => true) hl hz (fun x m => ?_) (fun x m _ u v ex P hP => ?_) (by rw [List.filter_eq_self.mpr (by simp)]; exact h)
  · obtain ⟨u, v, ex, _⟩ := he x m
    exact ⟨u, v, ex, fun P hP => hP⟩
  · obtain ⟨u', v', ex', h2⟩ := he x m
    rw [ex'] at ex
    cases ex
    exact h2 P (ex' ▸ hP)
theorem de_lc2b {F : Fam} {W : WX} {tt : DTT} {te : DTE} {ti : DTI} {elt iter : Expr} {ifs : List Expr} {scope : Scope} {x x2 : Str} {px px2 pos pos2 : Pos} {k : Nat} (i i2 : Nat) (hij : i ≠ i2) (hc : ∀ j, (F.X j).calm = true) (hN : ∀ j, (F.X j).N.Nodup) (hi : DI F W (.Tuple [.Name x px, .Name x2 px2] k pos) iter ti) (ok : ∀ j, BlkOk (F.X j).N (F.X j).env.scope scope [(x, i), (x2, i2)]) (ht : DTs (F.blk scope) W0 ifs tt) (he : DE (F.blk scope) W0 elt te)
    (hg : ∀ j, PG ((F.blk scope).X j) (.Tuple [.Name x px, .Name x2 px2] k pos) (gTup F.K 2 (gCons (gName i) (gCons (gName i2) gNil)))) (hs : ∀ j v, foldedSetIterable iter (F.X j).env v = pure v := by intro _ _; rfl) :
    DE F W (.ListComp elt [⟨.Tuple [.Name x px, .Name x2 px2] k pos, iter, ifs, 0⟩] scope pos2) (dLc ti (c2 i i2) tt te) := de_lc2 i i2 hij hc hN hi ok ht he hg (hs := hs)
end Dy
namespace Dy
open PySem PySem.Spec PyProof.Rows L2
end Dy
namespace Dy
open PySem PySem.Spec PyProof.Rows L2
abbrev tupNs (l : List Nat) : D := .tup (l.map natD)
structure LM where
  kn : List (Nat × List Nat)
  born : Nat
  done : Nat
  mark : Int
abbrev LM.ks (l : LM) : List Nat := keysN l.kn
def LM.at (l : LM) (i : Nat) : List Nat := (kget l.kn i).getD []
def LM.ok (l : LM) : Deed → Prop
  | .ch i => i ∈ l.ks
  | .fk i => i ∈ l.ks
  | .jn i j => i ∈ l.ks ∧ j ∈ l.ks ∧ i ≠ j
  | .ls i => i ∈ l.ks
end Dy
namespace Dy
open PySem PySem.Spec PyProof.Rows L2
abbrev stKeys : List Key := [.inr "knows", .inr "born", .inr "done", .inr "mark"]
/-- d is the laws' state l -/
def StAt (S : Store) (d : D) (l : LM) : Prop := ∃ kd, d = .dic stKeys [kd, natD l.born, natD l.done, .int l.mark] ∧ dvOf S kd = some (kvsF tupNs l.kn)
/-- dicts stand as they did -/
def DKept (S S' : Store) : Prop := ∀ (m : Nat) (kvs : KVD), S[m]? = some (.dK kvs) → S'[m]? = some (.dK kvs)
theorem dv_kept {S S' : Store} {d : D} {kvs : KVD} (h : dvOf S d = some kvs) (k : DKept S S') : dvOf S' d = some kvs := by
  cases d with
  | dic ks xs => exact h
  | ref n =>
    have h : (match S[n]? with | some (.dK kvs) => some kvs | _ => none) = some kvs := h
    cases e : S[n]? with
    | none => rw [e] at h; cases h
    | some o =>
      rw [e] at h
      cases o with
      | dK kvs2 =>
        cases h
        exact dv_ref (k n _ e)
      | _ => cases h
  | _ => cases h
theorem StAt.kept {S S' : Store} {d : D} {l : LM} (h : StAt S d l) (k : DKept S S') : StAt S' d l := by
  obtain ⟨kd, e, h⟩ := h
  exact ⟨kd, e, dv_kept h k⟩
theorem o_ext {S : Store} {Q : QD} {n : Nat} {xs ys : List D} {e : D} (e1 : S[n]? = some (.lst xs)) (e2 : lsM S e = some ys) (c : xs.length + ys.length ≤ sizeLine)
    (h : ∀ S', S'.length = S.length → S'[n]? = some (.lst (xs ++ ys)) → (∀ m : Nat, m ≠ n → S'[m]? = S[m]?) → Q .non S') : mExt (.ref n) [e] S Q :=
  ⟨n, xs, e, ys, rfl, rfl, e1, e2, c, put_at e1 h⟩
end Dy
namespace Dy
open PySem PySem.Spec PyProof.Rows L2
def emTab (l : List Addr) (C : Addr) : Option Bool := if C ∈ l then some true else none
theorem em_tab {K : PySem.W.Frag} {c : Addr} {l : List Addr} (h : ∀ C ∈ l, PySem.W.exmOne K (.ref C) (.ref c) = some true) : ∀ C b, emTab l C = some b → PySem.W.exmOne K (.ref C) (.ref c) = some b := fun C b e => by
  unfold emTab at e
  by_cases q : C ∈ l
  · rw [if_pos q] at e
    cases e
    exact h C q
  · rw [if_neg q] at e; cases e
end Dy
namespace Dy
open PySem PySem.Spec PyProof.Rows L2
theorem exm_of {K : PySem.W.Frag} {C S : Addr} (h1 : PySem.W.subIn K (.ref S) (.type "BaseException") = some true) (h2 : PySem.W.isClsIn K S = true) (h3 : PySem.W.typeIn K (.ref S) = some (.type "type")) {b : Bool} (h4 : PySem.W.subIn K (.ref C) (.ref S) = some b) : PySem.W.exmOne K (.ref C) (.ref S) = some b := by
  have e1 : (PySem.W.subIn K (.ref S) (.type "BaseException") == some true) = true := by rw [h1]; rfl
  have e2 : ((PySem.W.clsIn K S).isSome && PySem.W.typeIn K (.ref S) == some (.type "type")) = true := by
    have h2' : (PySem.W.clsIn K S).isSome = true := h2
    rw [h2', h3]; rfl
  unfold PySem.W.exmOne
  rw [if_pos e1]
  unfold PySem.W.kitCls
  exact (if_pos e2).trans h4
end Dy
namespace Dy
open PySem PySem.Spec PyProof.Rows L2
end Dy
namespace Dy
open PySem PySem.Spec PyProof.Rows L2
theorem dy_walkX (x : Str) {l : PySem.W.OpenLaw} {k : Nat} {q : Program} {loose : List Str} {XP : (Str → Option Value) → Heap → Prop} {YP : World → Heap → Prop} {d : DefRec} {K : Params → PySem.W.Frag} (hn : l.most = some 63) (hdf : d.params.defaults = []) (hr : Room k PySem.callerA)
    (hY : ∀ (w : World) (h : Heap), YP w h → (K w.params).In h)
    (F : ∀ (w : World) (mg : Str → Option Value) (fa : Addr) (h : Heap), (K w.params).In h → h.Ns mainGlobals mg → mg d.name = some (.ref fa) →
      ∃ fd : FuncData, (∀ (s : Shared) (u : Value), BindsTo s fd ⟨[u], []⟩ [(x, u)]) ∧ ∀ base : Heap, (K w.params).In base → base.Ns mainGlobals mg → FnOk l.prog w (K w.params) mg base (L2.CX l.prog w) k fa fd [x] (liftSp (K w.params) spLaw)) :
    PySem.W.WalkO q loose XP YP l.row.toRowW d [] (fun f vs => PySem.call f vs) :=
  L2.walk_of (n := 63) (x := x) (CX := fun w => L2.CX l.prog w) (sp := fun w => liftSp (K w.params) spLaw) hn (by decide) hdf hr hY F (fun _ _ a ns hl o h => law_starts o h) fun _ _ _ _ _ z => by
    obtain ⟨_, _, _, _, _, _, _, _, _, _, _, _, z⟩ := z
    exact z
end Dy
namespace Dy
open PySem PySem.Spec PyProof.Rows L2
/-- all bits from idx on are off -/
def HM.Low (h : HM) (idx : Nat) : Prop := ∀ i ∈ h.ks, ∀ b, idx ≤ b → (h.at i).testBit b = false
structure Sim (f : Nat → Nat) (h h' : HM) : Prop where
  inj : ∀ a b, f a = f b → a = b
  zero : f 0 = 0
  up : ∀ k, h.forks < k → f (k + 1) = f k + 1
  ks : h'.ks = h.ks.map f
  born : h'.forks + 1 = f (h.forks + 1)
  pen1 : h.pen ∈ h.ks → h'.pen = f h.pen
  pen2 : h.pen ∉ h.ks → h'.pen ∉ h'.ks
  to : ∀ b, ∃ b', ∀ i ∈ h.ks, (h.at i).testBit b = (h'.at (f i)).testBit b'
  fro : ∀ b', ∃ b, ∀ i ∈ h.ks, (h.at i).testBit b = (h'.at (f i)).testBit b'
end Dy
namespace Dy
open PySem PySem.Spec PyProof.Rows L2
theorem HM.Low.mono {h : HM} {i k : Nat} (l : h.Low i) (e : i ≤ k) : h.Low k := fun j hj b hb => l j hj b (by omega)
theorem sub_eq {A B : Nat} : A &&& B = A ↔ ∀ k, A.testBit k = true → B.testBit k = true := by
  constructor
  · intro e k hk
    have h1 : (A &&& B).testBit k = A.testBit k := by rw [e]
    rw [Nat.testBit_and, hk, Bool.true_and] at h1
    exact h1
  · intro h
    refine Nat.eq_of_testBit_eq fun k => ?_
    rw [Nat.testBit_and]
    cases e : A.testBit k
    · rfl
    · rw [h k e]; rfl
theorem Sim.sub {f : Nat → Nat} {h h' : HM} (s : Sim f h h') {a b : Nat} (ha : a ∈ h.ks) (hb : b ∈ h.ks) : h.at a &&& h.at b = h.at a ↔ h'.at (f a) &&& h'.at (f b) = h'.at (f a) := by
  rw [sub_eq, sub_eq]
  constructor
  · intro z k hk
    obtain ⟨k', q⟩ := s.fro k
    rw [← q b hb]
    exact z k' (by rw [q a ha]; exact hk)
  · intro z k hk
    obtain ⟨k', q⟩ := s.to k
    rw [q b hb]
    exact z k' (by rw [← q a ha]; exact hk)
end Dy
namespace Dy
open PySem PySem.Spec PyProof.Rows L2
def Deed.cs : Deed → List Nat
  | .ch c => [c]
  | .fk c => [c]
  | .jn c d => [c, d]
  | .ls c => [c]
end Dy
namespace Dy
open PySem PySem.Spec PyProof.Rows L2
end Dy
namespace Dy
open PySem PySem.Spec PyProof.Rows L2
end Dy
namespace Dy
open PySem PySem.Spec PyProof.Rows L2
section
variable {K : PySem.W.Frag} {φ : Al} {H : Hp} {S : Store}
theorem strs_inv : ∀ {ys : List Str} {vs : List V}, RDs K φ H (ys.map D.str) vs → vs = ys.map V.str
  | [], vs, h => by rw [List.map_nil, RDs] at h; rw [h]; rfl
  | y :: ys, vs, h => by
    rw [List.map_cons, RDs] at h
    obtain ⟨v, r, rfl, h1, h2⟩ := h
    rw [RD] at h1
    rw [h1, strs_inv h2]; rfl
theorem strs_rd : ∀ {ys : List Str}, RDs K φ H (ys.map D.str) (ys.map V.str)
  | [] => RDs.nil
  | y :: ys => .cons rd_str strs_rd
end
section
variable {F : Fam} {W : WX} {o e i a b : Expr} {es : List Expr} {to te ti ta tb : DTE} {t : DTA} {pos apos p : Pos}
def dSM1 (r : DM) (to te : DTE) : DTE := fun ρ S Q E => to ρ S (fun o S1 => (∃ a, o = .str a) ∧ te ρ S1 (fun d S2 => r o [d] S2 Q) E) E
theorem de_sm1 {id : String} {name : Str} {r : V → List V → Hp → VK → Prop} {r' : DM} (slot : Slot "str" name id) (ty : typeOf (.builtin id) = pure (.type "method_descriptor")) (rule : ∀ i, MtR (F.X i) id r) (lk : LkM F.K r' r) (ho : DE F W o to) (he : DE F W e te)
    (hs : ∀ i, starEach [e] (F.X i).env = [(false, eval e (F.X i).env)] := by intro _; rfl) (hbase : ∀ i, attributeBase o name (F.X i).env (eval o (F.X i).env) = eval o (F.X i).env := by intro _; rfl) (hline : (apos.endLine == pos.line) = true := by rfl) :
    DE F W (.Call (.Attribute o name apos) [e] [] pos) (dSM1 r' to te) := by
  obtain ⟨t1, p1, k1⟩ := ho
  obtain ⟨t2, p2, k2⟩ := he
  refine ⟨_, fun i => pe_m1 slot ty (rule i) (p1 i) (p2 i) (hs i) (hbase i) hline, fun σ ρ φ S H E Q' Q o q h => ?_⟩
  refine k1 σ ρ φ S H E _ _ o (fun φ1 H1 S1 d v s1 r1 rd h1 => ?_) h
  obtain ⟨⟨a, rfl⟩, h1⟩ := h1
  have ev : v = .str a := by rw [RD] at rd; exact rd
  subst ev
  refine ⟨⟨a, rfl⟩, k2 σ ρ φ1 S1 H1 E _ _ (o.mono s1 r1) (fun φ2 H2 S2 d2 v2 s2 r2 rd2 h2 => ?_) h1⟩
  exact lk φ2 S2 H2 _ _ _ _ _ _ r2 rd_str (.cons rd2 .nil) (q.mono (s1.trans s2)) h2
def mJoin : DM := fun o ds S Q => ∃ a d ys, o = .str a ∧ ds = [d] ∧ sqOf S d = some (ys.map D.str) ∧ (ys.map (·.length)).sum + ys.length * a.length ≤ 16777216 ∧ Q (.str (Txt.join a ys)) S
def rJoin (K : PySem.W.Frag) : V → List V → Hp → VK → Prop := fun x xs H Q => ∃ a p, ∃ ys : List Str, x = .str a ∧ xs = [.ref p] ∧ (SqL K H p (ys.map V.str) ∨ SqT K H p (ys.map V.str)) ∧
    (ys.map (·.length)).sum + ys.length * a.length ≤ 16777216 ∧ Q (.str (Txt.join a ys)) H
theorem lk_join {K : PySem.W.Frag} : LkM K mJoin (rJoin K) := by
  rintro φ S H Q' Q d v ds vs r rd rds q ⟨a, d1, ys, rfl, rfl, e, hz, h⟩
  have ev : v = .str a := by rw [RD] at rd; exact rd
  subst ev
  obtain ⟨u, rfl, ru⟩ := rds1 rds
  obtain ⟨p, us, rfl, h1, h2⟩ := sq_of r ru e
  have eu := strs_inv h2
  subst eu
  exact ⟨a, p, ys, rfl, rfl, h1, hz, q φ H S _ _ .refl r rd_str h⟩
theorem de_join (ho : DE F W o to) (he : DE F W e te) (hs : ∀ i, starEach [e] (F.X i).env = [(false, eval e (F.X i).env)] := by intro _; rfl) (hbase : ∀ i, attributeBase o "join" (F.X i).env (eval o (F.X i).env) = eval o (F.X i).env := by intro _; rfl) (hline : (apos.endLine == pos.line) = true := by rfl) :
    DE F W (.Call (.Attribute o "join" apos) [e] [] pos) (dSM1 mJoin to te) := de_sm1 PySem.F.slot_str_join PySem.F.type_str_join (fun i => F.hK i ▸ mt_join) lk_join ho he hs hbase hline
def mSplit : DM := fun o ds S Q => ∃ a b, o = .str a ∧ ds = [.str b] ∧ (b.length == 0) = false ∧ a.length + 2 ≤ sizeLine ∧ Q (.lst ((Txt.split a b).map .str)) S
def rSplit : V → List V → Hp → VK → Prop := fun x xs H Q => ∃ a b, x = .str a ∧ xs = [.str b] ∧ (b.length == 0) = false ∧ a.length + 2 ≤ sizeLine ∧ rNewStrs (Txt.split a b) H Q
theorem lk_split {K : PySem.W.Frag} : LkM K mSplit rSplit := by
  rintro φ S H Q' Q d v ds vs r rd rds q ⟨a, b, rfl, rfl, hb, hz, h⟩
  have ev : v = .str a := by rw [RD] at rd; exact rd
  subst ev
  obtain ⟨u, rfl, ru⟩ := rds1 rds
  have eu : u = .str b := by rw [RD] at ru; exact ru
  subst eu
  exact ⟨a, b, rfl, rfl, hb, hz, fun p hp => q.lst r hp strs_rd h⟩
theorem de_split (ho : DE F W o to) (he : DE F W e te) (hs : ∀ i, starEach [e] (F.X i).env = [(false, eval e (F.X i).env)] := by intro _; rfl) (hbase : ∀ i, attributeBase o "split" (F.X i).env (eval o (F.X i).env) = eval o (F.X i).env := by intro _; rfl) (hline : (apos.endLine == pos.line) = true := by rfl) :
    DE F W (.Call (.Attribute o "split" apos) [e] [] pos) (dSM1 mSplit to te) := de_sm1 PySem.F.slot_str_split PySem.F.type_str_split (fun _ => mt_split) lk_split ho he hs hbase hline
def dSlS : D → Option Int → Option Int → Store → QD → Prop := fun x lo hi S Q => ∃ z, x = .str z ∧ z.length ≤ sizeLine ∧ Q (.str (cutS z lo hi)) S
theorem de_slS {l u : Option Expr} {tl th : DTO} {p2 : Pos} (he : DE F W e te) (hl : DO F W l tl) (hu : DO F W u th) : DE F W (.Subscript e (.Slice l u none p2) pos) (dSl dSlS te tl th) := by
  refine de_sl (fun i => sl_str) ?_ he hl hu
  rintro φ S H Q' Q d v lo hi r rd q ⟨z, rfl, hz, h⟩
  have ev : v = .str z := by rw [RD] at rd; exact rd
  subst ev
  exact ⟨z, rfl, hz, q φ H S _ _ .refl r rd_str h⟩
def dAtS : D2 := fun x y S Q => ∃ z i c, x = .str z ∧ y = .int i ∧ 0 ≤ i ∧ i < 2 ^ 63 ∧ i < z.length ∧ z.cps[i.toNat]? = some c ∧ Q (.str ⟨#[c]⟩) S
theorem de_atS (ha : DE F W a ta) (hb : DE F W b tb) (hs : PlainIxT b := by exact fun _ _ => rfl) : DE F W (.Subscript a b pos) (dOp dAtS ta tb) := by
  refine de_two (f := tOp (fun x y H Q => ∃ z i c, x = .str z ∧ y = .int i ∧ 0 ≤ i ∧ i < 2 ^ 63 ∧ i < z.length ∧ z.cps[i.toNat]? = some c ∧ Q (.str ⟨#[c]⟩) H)) (fun _ _ => rfl) ha hb (fun i t1 t2 p1 p2 => pe_item_str p1 p2 hs) ?_
  rintro φ S H Q' Q d1 d2 v1 v2 r rd1 rd2 q ⟨z, i, c, rfl, rfl, h1, h2, h3, h4, h⟩
  have e1 : v1 = .str z := by rw [RD] at rd1; exact rd1
  have e2 : v2 = .int i := by rw [RD] at rd2; exact rd2
  subst e1 e2
  exact ⟨z, i, c, rfl, rfl, h1, h2, h3, h4, q φ H S _ _ .refl r rd_str h⟩
def dInStr (neg : Bool) : D2 := fun x y S Q => ∃ (c : Nat) (z : Str), x = .str ⟨#[c]⟩ ∧ y = .str z ∧ Q (.bl (neg ^^ decide (c ∈ z.cps.toList))) S
theorem lk_inStr {K : PySem.W.Frag} : Lk K (dInStr false) rInS := by
  rintro φ S H Q' Q d1 d2 v1 v2 r rd1 rd2 q ⟨c, z, rfl, rfl, h⟩
  have e1 : v1 = .str ⟨#[c]⟩ := by rw [RD] at rd1; exact rd1
  have e2 : v2 = .str z := by rw [RD] at rd2; exact rd2
  subst e1 e2
  rw [Bool.false_xor] at h
  exact ⟨c, z, rfl, rfl, q φ H S _ _ .refl r rd_bl h⟩
def jStr (te : DTE) : DTI := fun ρ S R E => te ρ S (fun d S1 => ∃ z : Str, d = .str z ∧ R (z.cps.toList.map fun c => D.str ⟨#[c]⟩) (fun _ => True) S1) E
theorem walk_strD {K : PySem.W.Frag} {z : Str} {φ : Al} {H : Hp} : WalkD K (Its z) (z.cps.toList.map fun c => D.str ⟨#[c]⟩) (fun _ => True) φ H := fun φ2 H2 S2 i s r _ =>
  ⟨fun hi => by
    rw [List.length_map, Array.length_toList] at hi
    show z.cps.size ≤ i
    omega, fun hi => by
    rw [List.length_map, Array.length_toList] at hi
    refine ⟨hi, fun v H3 hy => ?_⟩
    obtain ⟨rfl, c, hc, rfl⟩ := hy
    refine ⟨.str ⟨#[c]⟩, ?_, .refl, r, rd_str⟩
    rw [List.getElem?_map, Array.getElem?_toList, hc]; rfl⟩
theorem di_str {tg : Expr} (he : DE F W e te) : DI F W tg e (jStr te) := by
  obtain ⟨t1, p1, k1⟩ := he
  refine ⟨_, fun i => pi_str (p1 i), fun σ ρ φ S H E R' R o q h => ?_⟩
  refine k1 σ ρ φ S H E _ _ o (fun φ1 H1 S1 d v s1 r1 rd h1 => ?_) h
  obtain ⟨z, rfl, h1⟩ := h1
  have ev : v = .str z := by rw [RD] at rd; exact rd
  subst ev
  exact ⟨z, rfl, q φ1 H1 S1 _ _ _ s1 r1 walk_strD h1⟩
def cLenS : DR := fun ds S Q => ∃ z, ds = [.str z] ∧ z.length ≤ sizeLine ∧ Q (.int z.length) S
theorem lk_lenS {K : PySem.W.Frag} : LkC K cLenS (fun xs H Q => ∃ z, xs = [.str z] ∧ z.length ≤ sizeLine ∧ Q (.int z.length) H) := by
  rintro φ S H Q' Q ds vs r rd q ⟨z, rfl, hz, h⟩
  obtain ⟨u, rfl, ru⟩ := rds1 rd
  have eu : u = .str z := by rw [RD] at ru; exact ru
  subst eu
  exact ⟨z, rfl, hz, q φ H S _ _ .refl r rd_int h⟩
def cIntS : DR := fun ds S Q => ∃ a n, ds = [.str a] ∧ PySem.intText? a = some n ∧ a.length ≤ 640 ∧ Q (.int n) S
theorem lk_intS {K : PySem.W.Frag} : LkC K cIntS (fun xs H Q => ∃ a n, xs = [.str a] ∧ PySem.intText? a = some n ∧ a.length ≤ 640 ∧ Q (.int n) H) := by
  rintro φ S H Q' Q ds vs r rd q ⟨z, n, rfl, h1, hz, h⟩
  obtain ⟨u, rfl, ru⟩ := rds1 rd
  have eu : u = .str z := by rw [RD] at ru; exact ru
  subst eu
  exact ⟨z, n, rfl, h1, hz, q φ H S _ _ .refl r rd_int h⟩
/-- str(i), str(s) -/
def cStr : DR := fun ds S Q => (∃ i : Int, ds = [.int i] ∧ i.natAbs.log2 < 1920 ∧ Q (.str (toString i)) S) ∨ ∃ a, ds = [.str a] ∧ Q (.str a) S
theorem lk_str {K : PySem.W.Frag} : LkC K cStr (fun xs H Q => (∃ i : Int, xs = [.int i] ∧ i.natAbs.log2 < 1920 ∧ Q (.str (toString i)) H) ∨ ∃ a, xs = [.str a] ∧ Q (.str a) H) := by
  rintro φ S H Q' Q ds vs r rd q (⟨i, rfl, h1, h⟩ | ⟨a, rfl, h⟩)
  · obtain ⟨u, rfl, ru⟩ := rds1 rd
    have eu : u = .int i := by rw [RD] at ru; exact ru
    subst eu
    exact .inl ⟨i, rfl, h1, q φ H S _ _ .refl r rd_str h⟩
  · obtain ⟨u, rfl, ru⟩ := rds1 rd
    have eu : u = .str a := by rw [RD] at ru; exact ru
    subst eu
    exact .inr ⟨a, rfl, q φ H S _ _ .refl r rd_str h⟩
theorem call_strX {X : Cx} : CallR X (.type "str") (fun xs H Q => (∃ i : Int, xs = [.int i] ∧ i.natAbs.log2 < 1920 ∧ Q (.str (toString i)) H) ∨ ∃ a, xs = [.str a] ∧ Q (.str a) H) := by
  intro pins s σ H xs us Q I r h
  rcases h with h | h
  · exact call_str_int pins s σ H xs us Q I r h
  · obtain ⟨a, rfl, q⟩ := h
    obtain ⟨u, rfl, ⟨t, rfl⟩⟩ := vals1 r
    exact PySem.P.str_of_str ⟨.str a, H, I, ⟨t, rfl⟩, q⟩
def dStar (te : DTE) (t : DTA) : DTA := fun ρ S Q E => te ρ S (fun d S1 => ∃ xs, sqOf S1 d = some xs ∧ t ρ S1 (fun ds S2 => Q (xs ++ ds) S2) E) E
theorem da_star (he : DE F W e te) (hr : DA F W es t) (hs : ∀ i, starEach (.Starred e p :: es) (F.X i).env = (true, eval e (F.X i).env) :: starEach es (F.X i).env := by intro _; rfl) : DA F W (.Starred e p :: es) (dStar te t) := by
  obtain ⟨t1, p1, k1⟩ := he
  obtain ⟨t2, p2, k2⟩ := hr
  refine ⟨_, fun i => F.hK i ▸ StX.pa_star (p1 i) (p2 i) (hs i), fun σ ρ φ S H E Q' Q o q h => ?_⟩
  refine k1 σ ρ φ S H E _ _ o (fun φ1 H1 S1 d v s1 r1 rd h1 => ?_) h
  obtain ⟨xs, e1, h1⟩ := h1
  obtain ⟨a, vs, rfl, hq, rs⟩ := sq_of r1 rd e1
  refine ⟨a, vs, rfl, hq.symm, k2 σ ρ φ1 S1 H1 E _ _ (o.mono s1 r1) (fun φ2 H2 S2 ds us s2 r2 rd2 h2 => ?_) h1⟩
  exact q φ2 H2 S2 _ _ (s1.trans s2) r2 (RDs.append (RDs.mono s2 r1.muts _ _ rs) rd2) h2
def dRevL (te : DTE) : DTE := fun ρ S Q E => te ρ S (fun d S1 => ∃ xs, lsOf S1 d = some xs ∧ Q (.lst xs.reverse) S1) E
theorem RDs.reverse {K : PySem.W.Frag} {φ : Al} {H : Hp} : ∀ {xs : List D} {vs : List V}, RDs K φ H xs vs → RDs K φ H xs.reverse vs.reverse
  | [], vs, h => by rw [RDs] at h; subst h; exact RDs.nil
  | x :: xs, vs, h => by
    rw [RDs] at h
    obtain ⟨v, r, rfl, h1, h2⟩ := h
    rw [List.reverse_cons, List.reverse_cons]
    exact RDs.append (RDs.reverse h2) (.cons h1 .nil)
theorem de_revL {k : Nat} {p1 p2 p3 : Pos} (he : DE F W e te) : DE F W (.Subscript e (.Slice none none (some (.UnaryOp .USub (.Constant (.int 1) k p1) p2)) p3) pos) (dRevL te) := by
  obtain ⟨t1, p1, k1⟩ := he
  refine ⟨_, fun i => F.hK i ▸ pe_revL (p1 i), fun σ ρ φ S H E Q' Q o q h => ?_⟩
  refine k1 σ ρ φ S H E _ _ o (fun φ1 H1 S1 d v s1 r1 rd h1 => ?_) h
  obtain ⟨xs, e1, h1⟩ := h1
  obtain ⟨a, vs, rfl, hq, rs⟩ := ls_of r1 rd e1
  exact ⟨a, vs, rfl, hq, fun p hp => (q.mono s1).lst r1 hp rs.reverse h1⟩
end
section
variable {F : Fam} {W : WX} {e e2 : Expr} {te : DTE} {t : DTA} {p pos pos2 : Pos}
theorem dc_lenS (hm : ∀ i, (F.X i).mg "len" = none) (ha : DA F W [e] t) (hg : ∀ i, Gl (F.X i) "len" := by intro _; rfl) (he : St1 F e [] := by intro _; rfl) (hp : Pl1 F pos [] := by intro _; rfl) : DE F W (.Call (.Name "len" p) [e] [] pos) (dCB cLenS t) := de_callB (fun i => call_len_str) lk_lenS hg hm bt_len ha (he := he) (hpl := hp)
theorem dc_intS (hm : ∀ i, (F.X i).mg "int" = none) (ha : DA F W [e] t) (hg : ∀ i, Gl (F.X i) "int" := by intro _; rfl) (he : St1 F e [] := by intro _; rfl) (hp : Pl1 F pos [] := by intro _; rfl) : DE F W (.Call (.Name "int" p) [e] [] pos) (dCB cIntS t) := de_callTy (fun i => call_int_str) lk_intS hg hm bt_int ha (he := he) (hpl := hp)
theorem dc_str (hm : ∀ i, (F.X i).mg "str" = none) (ha : DA F W [e] t) (hg : ∀ i, Gl (F.X i) "str" := by intro _; rfl) (he : St1 F e [] := by intro _; rfl) (hp : Pl1 F pos [] := by intro _; rfl) : DE F W (.Call (.Name "str" p) [e] [] pos) (dCB cStr t) := de_callTy (fun i => call_strX) lk_str hg hm bt_str ha (he := he) (hpl := hp)
def dIsi2 (A B : String) (te : DTE) : DTE := fun ρ S Q E => te ρ S (fun d S1 => ∃ tag, tagOf S1 d = some tag ∧ Q (.bl (isiT A tag || isiT B tag)) S1) E
theorem de_isi2 {A B : String} {xA xB : Str} {pA pB pT : Pos} {k : Nat} (hA : A ∈ tags) (hB : B ∈ tags) (nA : A ≠ "NoneType") (nB : B ≠ "NoneType") (hm : ∀ i, (F.X i).mg "isinstance" = none) (mA : ∀ i, (F.X i).mg xA = none) (mB : ∀ i, (F.X i).mg xB = none) (bA : bootBuiltins xA = some (.type A)) (bB : bootBuiltins xB = some (.type B)) (h0 : DE F W e te)
    (hg : ∀ i, Gl (F.X i) "isinstance" := by intro _; rfl) (gA : ∀ i, Gl (F.X i) xA := by intro _; rfl) (gB : ∀ i, Gl (F.X i) xB := by intro _; rfl) (qA : xA ≠ "__name__" := by decide) (qB : xB ≠ "__name__" := by decide) (dA : (xA == ("__debug__" : Str)) = false := by decide) (dB : (xB == ("__debug__" : Str)) = false := by decide)
    (he : St1 F e [.Tuple [.Name xA pA, .Name xB pB] k pT] := by intro _; rfl) (hp : Pl1 F pos [.Tuple [.Name xA pA, .Name xB pB] k pT] := by intro _; rfl)
    (h1 : ∀ i, starEach [.Tuple [.Name xA pA, .Name xB pB] k pT] (F.X i).env = (false, eval (.Tuple [.Name xA pA, .Name xB pB] k pT) (F.X i).env) :: starEach [] (F.X i).env := by intro _; rfl)
    (h2 : ∀ i, starEach [.Name xA pA, .Name xB pB] (F.X i).env = (false, eval (.Name xA pA) (F.X i).env) :: starEach [.Name xB pB] (F.X i).env := by intro _; rfl)
    (h3 : ∀ i, starEach [.Name xB pB] (F.X i).env = (false, eval (.Name xB pB) (F.X i).env) :: starEach [] (F.X i).env := by intro _; rfl) :
    DE F W (.Call (.Name "isinstance" p) [e, .Tuple [.Name xA pA, .Name xB pB] k pT] [] pos) (dIsi2 A B te) := by
  obtain ⟨t1, p1, k1⟩ := h0
  refine ⟨_, fun i => F.hK i ▸ pe_callB (call_isiT) (hg i) (hm i) bt_isinstance (pa_cons (p1 i) (pa_cons (pe_tup (pa_cons (pe_bltn (gA i) (mA i) bA (v := .ty A) rfl qA dA) (pa_cons (pe_bltn (gB i) (mB i) bB (v := .ty B) rfl qB dB) pa_nil (h3 i)) (h2 i))) pa_nil (h1 i)) (he i)) (by decide) (by decide) (he i) (hp i), fun σ ρ φ S H E Q' Q o q h => ?_⟩
  refine k1 σ ρ φ S H E _ _ o (fun φ1 H1 S1 d v s1 r1 rd h1 => ?_) h
  obtain ⟨tag, e1, h1⟩ := h1
  refine ⟨by show 2 ≤ sizeLine; decide, fun a ha => ?_⟩
  have st : Step φ1 φ1 H1 (upd H1 a (.tup [.ty A, .ty B])) := step_new ha
  have r2 := r1.new (ho := .tup [.ty A, .ty B]) ha
  obtain ⟨ty, ht⟩ := tag_ty r2 (RD.mono st r1.muts _ _ rd) e1
  have kA := kit_ty (K := F.K) (kit_tags tag ht A hA nA)
  have kB := kit_ty (K := F.K) (kit_tags tag ht B hB nB)
  refine ⟨v, a, [.ty A, .ty B], _, [.type A, .type B], isiT A tag || isiT B tag, rfl, upd_same, .cons (.ty A) (.cons (.ty B) .nil), ty, ?_, q.mono s1 φ1 _ S1 _ _ st r2 rd_bl h1⟩
  refine kitAny_cons kA (fun z => kitAny_cons kB (fun z2 => ?_) fun z2 => ?_) fun z => ?_
  · rw [z, z2]; exact kitAny_nil
  · rw [z2]; simp
  · rw [z]; rfl
end
section
variable {ρ : Rho} {S : Store} {Q : QD} {E : XQ} {to te : DTE} {t : DTA} {d : D} {QA : List D → Store → Prop}
theorem c_sm1 {r : DM} (h : to ρ S (fun o S1 => (∃ a, o = .str a) ∧ te ρ S1 (fun d S2 => r o [d] S2 Q) E) E) : dSM1 r to te ρ S Q E := h
theorem o_strE {a : Str} {B : Prop} (h : B) : (∃ b, D.str a = .str b) ∧ B := ⟨⟨a, rfl⟩, h⟩
theorem o_join {a : Str} {ys : List Str} (e : sqOf S d = some (ys.map D.str)) (hz : (ys.map (·.length)).sum + ys.length * a.length ≤ 16777216) (h : Q (.str (Txt.join a ys)) S) : mJoin (.str a) [d] S Q := ⟨a, d, ys, rfl, rfl, e, hz, h⟩
theorem o_split {a b : Str} (hb : (b.length == 0) = false) (hz : a.length + 2 ≤ sizeLine) (h : Q (.lst ((Txt.split a b).map .str)) S) : mSplit (.str a) [.str b] S Q := ⟨a, b, rfl, rfl, hb, hz, h⟩
theorem o_slS {z : Str} {lo hi : Option Int} (hz : z.length ≤ sizeLine) (h : Q (.str (cutS z lo hi)) S) : dSlS (.str z) lo hi S Q := ⟨z, rfl, hz, h⟩
theorem o_atS {z : Str} {c : Nat} {r : List Nat} (e : z.cps.toList = c :: r) (h : Q (.str ⟨#[c]⟩) S) : dAtS (.str z) (.int 0) S Q := by
  have h0 : 0 < z.cps.size := by rw [← Array.length_toList, e]; simp
  refine ⟨z, 0, c, rfl, rfl, by decide, by decide, by show (0 : Int) < (z.cps.size : Nat); omega, ?_, h⟩
  show z.cps[0]? = some c
  rw [← Array.getElem?_toList, e]; rfl
theorem o_inStr {c : Nat} {z : Str} {neg : Bool} (h : Q (.bl (neg ^^ decide (c ∈ z.cps.toList))) S) : dInStr neg (.str ⟨#[c]⟩) (.str z) S Q := ⟨c, z, rfl, rfl, h⟩
theorem s_str {R : List D → (Store → Prop) → Store → Prop} (h : te ρ S (fun d S1 => ∃ z : Str, d = .str z ∧ R (z.cps.toList.map fun c => D.str ⟨#[c]⟩) (fun _ => True) S1) E) : jStr te ρ S R E := h
theorem o_strI {P : Str → Prop} {a : Str} (h : P a) : ∃ z : Str, D.str a = .str z ∧ P z := ⟨a, rfl, h⟩
theorem o_lenS {z : Str} (hz : z.length ≤ sizeLine) (h : Q (.int z.length) S) : cLenS [.str z] S Q := ⟨z, rfl, hz, h⟩
theorem o_intS {a : Str} {n : Int} (e : PySem.intText? a = some n) (hz : a.length ≤ 640) (h : Q (.int n) S) : cIntS [.str a] S Q := ⟨a, n, rfl, e, hz, h⟩
theorem o_strN {i : Int} (hz : i.natAbs.log2 < 1920) (h : Q (.str (toString i)) S) : cStr [.int i] S Q := .inl ⟨i, rfl, hz, h⟩
theorem o_strS {a : Str} (h : Q (.str a) S) : cStr [.str a] S Q := .inr ⟨a, rfl, h⟩
theorem c_star (h : te ρ S (fun d S1 => ∃ xs, sqOf S1 d = some xs ∧ t ρ S1 (fun ds S2 => QA (xs ++ ds) S2) E) E) : dStar te t ρ S QA E := h
theorem c_revL (h : te ρ S (fun d S1 => ∃ xs, lsOf S1 d = some xs ∧ Q (.lst xs.reverse) S1) E) : dRevL te ρ S Q E := h
theorem c_isi2 {A B : String} (h : te ρ S (fun d S1 => ∃ tag, tagOf S1 d = some tag ∧ Q (.bl (isiT A tag || isiT B tag)) S1) E) : dIsi2 A B te ρ S Q E := h
theorem o_tagP {P : String → Prop} (c : plainD d = true) (h : P (tagD d)) : ∃ tag, tagOf S d = some tag ∧ P tag := ⟨_, tag_plain c, h⟩
end
/-- a list so many times: a new one of the store -/
def dRepLN : D2 := fun x y S Q => ∃ xs k, lsM S x = some xs ∧ y = .int k ∧ 0 ≤ k ∧ k ≤ 1000 ∧ xs.length ≤ 100 ∧ Q (.ref S.length) (S ++ [.lst (List.replicate k.toNat xs).flatten])
theorem lk_repLN {K : PySem.W.Frag} : Lk K dRepLN rRep := by
  rintro φ S H Q' Q d1 d2 v1 v2 r r1 r2 q ⟨xs, k, e1, rfl, c1, c2, c3, h⟩
  obtain ⟨a, vs, rfl, h1, h2⟩ := ls_m r r1 e1
  rw [RD] at r2
  subst r2
  refine ⟨a, k, vs, rfl, rfl, h1, by omega, by omega, ?_, fun p hp => q.newL r hp (h2.rep _) h⟩
  rw [h2.length]
  refine small (Nat.le_trans (Nat.mul_le_mul c3 (show k.toNat ≤ 1000 by omega)) (by decide))
theorem de_repLN {F : Fam} {W : WX} {a b : Expr} {pos : Pos} {ta tb : DTE} (ha : DE F W a ta) (hb : DE F W b tb) : DE F W (.BinOp a .Mult b pos) (dOp dRepLN ta tb) := de_op (fun _ => op_rep) lk_repLN ha hb
theorem o_repLN {S : Store} {Q : QD} {x : D} {k : Int} {xs : List D} (e : lsM S x = some xs) (h0 : 0 ≤ k) (h1 : k ≤ 1000) (hz : xs.length ≤ 100) (h : Q (.ref S.length) (S ++ [.lst (List.replicate k.toNat xs).flatten])) : dRepLN x (.int k) S Q := ⟨xs, k, e, rfl, h0, h1, hz, h⟩
theorem ds_no {F : Fam} {W : WX} {st : Stmt} : DS F W st (fun _ _ _ => False) := ⟨fun _ _ _ => False, fun i => ⟨fun pins s σ H D I h => h.elim⟩, fun _ _ _ _ _ _ _ _ _ _ h => h.elim⟩
end Dy
namespace Dy
open PySem PySem.Spec PyProof.Rows L2 TL
theorem mem_digs {c : Nat} : c ∈ ("0123456789" : Str).cps.toList ↔ 48 ≤ c ∧ c ≤ 57 := by
  have e : ("0123456789" : Str).cps.toList = [48, 49, 50, 51, 52, 53, 54, 55, 56, 57] := tl_ofString "0123456789"
  rw [e]
  simp only [List.mem_cons, List.not_mem_nil, or_false]
  omega
def isNum (z : Str) : Bool := (decide (1 ≤ z.length ∧ z.length ≤ 9) && z.cps.toList.all fun c => decide (48 ≤ c ∧ c ≤ 57)) && !(decide (z.cps.toList.head? = some 48) && decide (1 < z.length))
def figOf (z : Str) : Option Nat := if isNum z = true then some (NumText.digitsVal z.cps.toList) else none
def optD : Option Nat → D
  | none => .non
  | some i => natD i
def strN (n : Nat) : Str := Str.ofString (toString (n : Int))
theorem tl_strN (n : Nat) : (strN n).cps.toList = numL n := tl_num n
theorem isNum_iff {z : Str} : isNum z = true ↔ (1 ≤ z.length ∧ z.length ≤ 9) ∧ NumText.AllDigits z.cps.toList ∧ ¬ (z.cps.toList.head? = some 48 ∧ 1 < z.length) := by
  unfold isNum
  rw [Bool.and_eq_true, Bool.and_eq_true, decide_eq_true_eq, List.all_eq_true, Bool.not_eq_true', and_assoc]
  refine and_congr Iff.rfl (and_congr ?_ ?_)
  · exact ⟨fun h c m => of_decide_eq_true (h c m), fun h c m => decide_eq_true (h c m)⟩
  · rw [← Bool.not_eq_true, Bool.and_eq_true, decide_eq_true_eq, decide_eq_true_eq]
theorem numL_head {n : Nat} : 1 ≤ n → (numL n).head? ≠ some 48 := by
  induction n using Nat.strongRecOn with
  | _ n ih =>
    intro hn
    by_cases h : n < 10
    · rw [numL_lt h]
      simp
      omega
    · rw [numL_step (by omega)]
      have := ih (n / 10) (by omega) (by omega)
      cases e : numL (n / 10) with
      | nil => exact absurd e (numL_ne _)
      | cons c r =>
        rw [e] at this
        simpa using this
theorem figOf_num {n : Nat} (h : n < 10 ^ 9) : figOf (strN n) = some n := by
  unfold figOf
  have hl : (strN n).length = (numL n).length := by
    show (strN n).cps.size = _
    rw [← Array.length_toList, tl_strN]
  have h1 : 0 < (numL n).length := List.length_pos_iff.mpr (numL_ne n)
  have h2 := numL_len (n := n) (k := 9) (by decide) h
  rw [if_pos (isNum_iff.mpr ⟨by omega, by rw [tl_strN]; exact numL_digits n, ?_⟩), tl_strN, numL_val]
  rintro ⟨z1, z2⟩
  rw [tl_strN] at z1
  by_cases h0 : 1 ≤ n
  · exact numL_head h0 z1
  · have : n = 0 := by omega
    subst this
    rw [hl] at z2
    revert z2
    decide
theorem int_of_num {z : Str} {n : Nat} (h : figOf z = some n) : intText? z = some (n : Int) ∧ z.length ≤ 640 := by
  unfold figOf at h
  split at h
  · rename_i e
    obtain ⟨⟨h0, h1⟩, h2, _⟩ := isNum_iff.mp e
    cases h
    refine ⟨intText_digits h2 (fun z0 => ?_) (by omega), by omega⟩
    have : z.length = z.cps.toList.length := (Array.length_toList).symm
    rw [z0] at this
    simp at this
    omega
  · cases h
def sumL (ys : List Str) : Nat := (ys.map (·.length)).sum
theorem joinL_len (S : List Nat) : ∀ ps : List (List Nat), (joinL S ps).length = (ps.map (·.length)).sum + (ps.length - 1) * S.length
  | [] => by simp [joinL]
  | [p] => by simp [joinL]
  | p :: q :: r => by
    have ih := joinL_len S (q :: r)
    show (p ++ (S ++ joinL S (q :: r))).length = _
    rw [List.length_append, List.length_append, ih]
    simp only [List.map_cons, List.sum_cons, List.length_cons, Nat.add_sub_cancel]
    rw [Nat.add_mul]
    omega
theorem str_len (z : Str) : z.length = z.cps.toList.length := (Array.length_toList).symm
theorem join_len (y : Str) (ys : List Str) : (Txt.join y ys).length = sumL ys + (ys.length - 1) * y.length := by
  have e : tl (Txt.join y ys) = joinL (tl y) (ys.map tl) := by rw [join_eq, tl_join]
  rw [len_tl, e, joinL_len, List.length_map, List.map_map]
  have e2 : (ys.map ((fun x => x.length) ∘ tl)) = ys.map (·.length) := List.map_congr_left fun z _ => (len_tl z).symm
  rw [e2, ← len_tl]; rfl
theorem join_le (y : Str) (ys : List Str) : (Txt.join y ys).length ≤ sumL ys + ys.length * y.length := by
  rw [join_len]
  have : (ys.length - 1) * y.length ≤ ys.length * y.length := Nat.mul_le_mul_right _ (by omega)
  omega
theorem split_sum (x y : Str) : sumL (Txt.split x y) + ((Txt.split x y).length - 1) * y.length = x.length := by
  have e : Txt.join y (Txt.split x y) = x := (join_eq _ _).trans (PySem.StrLaws.join_split x y)
  have := join_len y (Txt.split x y)
  rw [e] at this
  exact this.symm
theorem split_ne (x y : Str) : Txt.split x y ≠ [] := fun e => by
  have h : 1 ≤ (Txt.split x y).length := by
    unfold Txt.split
    split
    · show 1 ≤ 1; omega
    · split
      · show 1 ≤ 1; omega
      · rw [len_partsBetween]; omega
  rw [e] at h
  cases h
theorem sum_sub {ys zs : List Str} (h : zs.Sublist ys) : sumL zs ≤ sumL ys := by
  unfold sumL
  induction h with
  | slnil => exact Nat.le_refl _
  | cons a _ ih => simp only [List.map_cons, List.sum_cons]; omega
  | cons_cons a _ ih => simp only [List.map_cons, List.sum_cons]; omega
theorem cut_strs (ys : List Str) (lo hi : Option Int) : ∃ zs : List Str, cutD (ys.map D.str) lo hi = zs.map D.str ∧ sumL zs ≤ sumL ys ∧ zs.length ≤ ys.length := by
  unfold cutD
  refine ⟨(ys.drop (HT.sIx (ys.map D.str).length 0 lo)).take (HT.sIx (ys.map D.str).length (ys.map D.str).length hi - HT.sIx (ys.map D.str).length 0 lo), by rw [List.map_take, List.map_drop], ?_, ?_⟩
  · exact sum_sub ((List.take_sublist _ _).trans (List.drop_sublist _ _))
  · exact ((List.take_sublist _ _).trans (List.drop_sublist _ _)).length_le
theorem sum_app (ys zs : List Str) : sumL (ys ++ zs) = sumL ys + sumL zs := by
  unfold sumL
  rw [List.map_append, List.sum_append]
theorem sum_rev (ys : List Str) : sumL ys.reverse = sumL ys := by
  induction ys with
  | nil => rfl
  | cons y ys ih =>
    rw [List.reverse_cons, sum_app, ih]
    unfold sumL
    simp
    omega
theorem app_len (x y : Str) : (x ++ y).length = x.length + y.length := by
  rw [len_tl, tl_append, List.length_append, ← len_tl, ← len_tl]
theorem strN_free {n s : Nat} (h : s < 48 ∨ 57 < s) : s ∉ tl (strN n) := by
  show s ∉ (strN n).cps.toList
  rw [tl_strN]
  exact numL_free h
theorem joinL_free {s : Nat} {S : List Nat} (hs : s ∉ S) : ∀ ps : List (List Nat), (∀ p ∈ ps, s ∉ p) → s ∉ joinL S ps
  | [], _ => by simp [joinL]
  | [p], h => by simpa [joinL] using h p (by simp)
  | p :: q :: r, h => by
    have ih := joinL_free hs (q :: r) fun x m => h x (List.mem_cons_of_mem _ m)
    show s ∉ p ++ (S ++ joinL S (q :: r))
    simp only [List.mem_append, not_or]
    exact ⟨h p (by simp), hs, ih⟩
end Dy
namespace Dy
open PySem PySem.Spec PyProof.Rows L2 TL
theorem digitsVal_app (l : List Nat) (c : Nat) : NumText.digitsVal (l ++ [c]) = NumText.digitsVal l * 10 + (c - 48) := by
  show (l ++ [c]).foldl _ 0 = _
  rw [List.foldl_append]; rfl
theorem digitsVal_pos : ∀ (l : List Nat), NumText.AllDigits l → l ≠ [] → l.head? ≠ some 48 → 1 ≤ NumText.digitsVal l := by
  intro l
  induction h : l.length generalizing l with
  | zero => intro _ h2 _; exact absurd (List.length_eq_zero_iff.mp h) h2
  | succ n ih =>
    intro h1 h2 h3
    obtain ⟨l', c, rfl⟩ : ∃ l' c, l = l' ++ [c] := ⟨l.dropLast, l.getLast h2, (List.dropLast_concat_getLast h2).symm⟩
    rw [digitsVal_app]
    cases l' with
    | nil =>
      have hc := h1 c (by simp)
      have h3 : c ≠ 48 := fun e => h3 (by simp [e])
      show 1 ≤ 0 * 10 + (c - 48)
      omega
    | cons d r =>
      have := ih (d :: r) (by simpa using h) (fun x m => h1 x (List.mem_append_left _ m)) (by simp) (by simpa using h3)
      omega
theorem numL_back : ∀ (l : List Nat), NumText.AllDigits l → l ≠ [] → ¬ (l.head? = some 48 ∧ 1 < l.length) → numL (NumText.digitsVal l) = l := by
  intro l
  induction h : l.length generalizing l with
  | zero => intro _ h2 _; exact absurd (List.length_eq_zero_iff.mp h) h2
  | succ n ih =>
    intro h1 h2 h3
    obtain ⟨l', c, rfl⟩ : ∃ l' c, l = l' ++ [c] := ⟨l.dropLast, l.getLast h2, (List.dropLast_concat_getLast h2).symm⟩
    have hc := h1 c (by simp)
    rw [digitsVal_app]
    cases l' with
    | nil =>
      show numL (0 * 10 + (c - 48)) = [c]
      rw [numL_lt (by omega)]
      congr 1
      omega
    | cons d r =>
      have h4 : (d :: r).head? ≠ some 48 := fun e => h3 ⟨by simpa using e, by simp at h ⊢; omega⟩
      have hp := digitsVal_pos (d :: r) (fun x m => h1 x (List.mem_append_left _ m)) (by simp) h4
      have := ih (d :: r) (by simpa using h) (fun x m => h1 x (List.mem_append_left _ m)) (by simp) (fun z => h4 z.1)
      rw [numL_step (by omega)]
      have e1 : (NumText.digitsVal (d :: r) * 10 + (c - 48)) / 10 = NumText.digitsVal (d :: r) := by omega
      rw [e1, this]
      congr 2
      omega
theorem str_ext {a b : Str} (h : a.cps.toList = b.cps.toList) : a = b := by
  cases a; cases b
  congr 1
  exact Array.toList_inj.mp h
theorem fig_eq {z : Str} {n : Nat} (h : figOf z = some n) : z = strN n := by
  unfold figOf at h
  split at h
  · rename_i e
    obtain ⟨⟨h0, h1⟩, h2, h3⟩ := isNum_iff.mp e
    cases h
    refine str_ext ?_
    rw [tl_strN, numL_back _ h2 (fun z0 => ?_) (fun z0 => h3 ⟨z0.1, by rw [str_len]; exact z0.2⟩)]
    rw [str_len, z0] at h0
    cases h0
  · cases h
theorem strN_inj {n m : Nat} (hn : n < 10 ^ 9) (hm : m < 10 ^ 9) (h : strN n = strN m) : n = m := by
  have := figOf_num hn
  rw [h, figOf_num hm] at this
  exact (Option.some.inj this).symm
/-- the stamp that a word writes -/
def figN (N : Nat) (z : Str) : Option Nat := match figOf z with
  | some k => if k < N then some k else none
  | none => none
theorem figN_iff {N : Nat} {z : Str} {k : Nat} (hN : N ≤ 10 ^ 9) : figN N z = some k ↔ k < N ∧ z = strN k := by
  unfold figN
  constructor
  · intro h
    split at h
    · rename_i j e
      split at h
      · rename_i hj
        cases h
        exact ⟨hj, fig_eq e⟩
      · cases h
    · cases h
  · rintro ⟨h1, rfl⟩
    rw [figOf_num (by omega)]
    exact if_pos h1
def mapO {β : Type} (f : Str → Option β) : List Str → Option (List β)
  | [] => some []
  | w :: ws => match f w, mapO f ws with
    | some k, some ks => some (k :: ks)
    | _, _ => none
theorem mapO_some {β : Type} {f : Str → Option β} : ∀ {ws : List Str} {ks : List β}, mapO f ws = some ks → ks.length = ws.length ∧ ∀ k ∈ ks, ∃ w ∈ ws, f w = some k
  | [], ks, h => by cases h; exact ⟨rfl, fun k m => by cases m⟩
  | w :: ws, ks, h => by
    rw [mapO] at h
    split at h
    · rename_i k ks' e1 e2
      cases h
      obtain ⟨h1, h2⟩ := mapO_some e2
      refine ⟨by simp [h1], fun j m => ?_⟩
      rcases List.mem_cons.mp m with rfl | m
      · exact ⟨w, by simp, e1⟩
      · obtain ⟨v, mv, ev⟩ := h2 j m
        exact ⟨v, List.mem_cons_of_mem _ mv, ev⟩
    · cases h
theorem mapO_all {β : Type} {f : Str → Option β} : ∀ {ws : List Str}, (mapO f ws).isSome = ws.all fun w => (f w).isSome
  | [] => rfl
  | w :: ws => by
    have ih := mapO_all (f := f) (ws := ws)
    rw [mapO, List.all_cons, ← ih]
    cases f w <;> cases mapO f ws <;> rfl
theorem mapO_map {β γ : Type} {f : Str → Option β} {g : β → γ} : ∀ {ws : List Str}, mapO (fun w => (f w).map g) ws = (mapO f ws).map (·.map g)
  | [] => rfl
  | w :: ws => by
    have ih := mapO_map (f := f) (g := g) (ws := ws)
    rw [mapO, mapO, ih]
    cases f w <;> cases mapO f ws <;> rfl
theorem mapO_back {β : Type} {f : Str → Option β} {h : β → Str} : ∀ {ks : List β}, (∀ k ∈ ks, f (h k) = some k) → mapO f (ks.map h) = some ks
  | [], _ => rfl
  | k :: ks, hk => by
    rw [List.map_cons, mapO, hk k (by simp), mapO_back fun j m => hk j (List.mem_cons_of_mem _ m)]
/-- the row of a line, its word and its stamp before it -/
def rowM {β : Type} (f : Str → Option β) (w : Str) (wide i : Nat) (l : Str) : Option (List β) := match Txt.split l " " with
  | a :: b :: ps => if a = w ∧ figOf b = some i ∧ ps.length = wide then mapO f ps else none
  | _ => none
theorem rowM_map {β γ : Type} {f : Str → Option β} {g : β → γ} {w : Str} {wide i : Nat} {l : Str} : rowM (fun z => (f z).map g) w wide i l = (rowM f w wide i l).map (·.map g) := by
  unfold rowM
  split
  · split
    · exact mapO_map
    · rfl
  · rfl
def collect {β : Type} (g : Nat → Option β) : Nat → Nat → Nat ⊕ List β
  | _, 0 => .inr []
  | i, n + 1 => match g i with
    | none => .inl i
    | some r => match collect g (i + 1) n with
      | .inl k => .inl k
      | .inr rs => .inr (r :: rs)
def goL {β : Type} (acc : List β) : Nat ⊕ List β → Nat ⊕ List β
  | .inl k => .inl k
  | .inr s => .inr (acc ++ s)
theorem goL_nil {β : Type} {x : Nat ⊕ List β} : goL [] x = x := by cases x <;> rfl
theorem goL_step {β : Type} {g : Nat → Option β} {i n : Nat} {r : β} {acc : List β} (h : g i = some r) : goL acc (collect g i (n + 1)) = goL (acc ++ [r]) (collect g (i + 1) n) := by
  rw [collect, h]
  show goL acc (match collect g (i + 1) n with | .inl k => .inl k | .inr rs => .inr (r :: rs)) = _
  cases collect g (i + 1) n with
  | inl k => rfl
  | inr s => show (Sum.inr (acc ++ r :: s) : Nat ⊕ List β) = .inr (acc ++ [r] ++ s); rw [List.append_assoc]; rfl
theorem goL_bad {β : Type} {g : Nat → Option β} {i n : Nat} {acc : List β} (h : g i = none) : goL acc (collect g i (n + 1)) = .inl i := by
  rw [collect, h]; rfl
theorem collect_back {β : Type} {g : Nat → Option β} : ∀ {rs : List β} {i : Nat}, (∀ k (h : k < rs.length), g (i + k) = some rs[k]) → collect g i rs.length = .inr rs
  | [], i, _ => rfl
  | r :: rs, i, h => by
    have h0 := h 0 (by simp)
    rw [Nat.add_zero] at h0
    rw [List.length_cons, collect, h0, collect_back fun k hk => by
      have := h (k + 1) (by simp; omega)
      rw [show i + (k + 1) = i + 1 + k by omega] at this
      exact this]
    rfl
theorem collect_congr {β : Type} {g g' : Nat → Option β} : ∀ {n i : Nat}, (∀ k, i ≤ k → k < i + n → g k = g' k) → collect g i n = collect g' i n
  | 0, _, _ => rfl
  | n + 1, i, h => by
    rw [collect, collect, h i (Nat.le_refl _) (by omega), collect_congr fun k h1 h2 => h k (by omega) (by omega)]
theorem collect_add {β : Type} {g : Nat → Option β} {b : Nat} : ∀ {a i : Nat}, collect g i (a + b) = match collect g i a with
    | .inl k => .inl k
    | .inr r => goL r (collect g (i + a) b)
  | 0, i => by rw [Nat.zero_add, Nat.add_zero]; exact goL_nil.symm
  | a + 1, i => by
    rw [show a + 1 + b = a + b + 1 by omega, collect, collect, collect_add (a := a), show i + (a + 1) = i + 1 + a by omega]
    cases g i with
    | none => rfl
    | some r =>
      cases collect g (i + 1) a with
      | inl k => rfl
      | inr rs =>
        show (match goL rs (collect g (i + 1 + a) b) with | .inl k => (Sum.inl k : Nat ⊕ List β) | .inr rs => .inr (r :: rs)) = goL (r :: rs) (collect g (i + 1 + a) b)
        cases collect g (i + 1 + a) b <;> rfl
theorem collect_len {β : Type} {g : Nat → Option β} : ∀ {n i : Nat} {rs : List β}, collect g i n = .inr rs → rs.length = n ∧ ∀ r ∈ rs, ∃ k, i ≤ k ∧ k < i + n ∧ g k = some r
  | 0, i, rs, h => by cases h; exact ⟨rfl, fun r m => by cases m⟩
  | n + 1, i, rs, h => by
    rw [collect] at h
    cases e : g i with
    | none => rw [e] at h; cases h
    | some r =>
      rw [e] at h
      have h : (match collect g (i + 1) n with | .inl k => (Sum.inl k : Nat ⊕ List β) | .inr rs => .inr (r :: rs)) = .inr rs := h
      cases e2 : collect g (i + 1) n with
      | inl k => rw [e2] at h; cases h
      | inr s =>
        rw [e2] at h
        cases h
        obtain ⟨h1, h2⟩ := collect_len e2
        refine ⟨by simp [h1], fun x m => ?_⟩
        rcases List.mem_cons.mp m with rfl | m
        · exact ⟨i, by omega, by omega, e⟩
        · obtain ⟨k, a, b, c⟩ := h2 x m
          exact ⟨k, by omega, by omega, c⟩
theorem collect_map {β γ : Type} {g : Nat → Option β} {f : β → γ} : ∀ {n i : Nat}, collect (fun k => (g k).map f) i n = match collect g i n with
    | .inl k => .inl k
    | .inr rs => .inr (rs.map f)
  | 0, i => rfl
  | n + 1, i => by
    rw [collect, collect, collect_map (n := n)]
    cases g i with
    | none => rfl
    | some r => cases collect g (i + 1) n <;> rfl
end Dy
namespace Dy
open PySem PySem.Spec PyProof.Rows L2 TL
structure Bk where
  f : Nat
  cs : List Nat
  ks : List (List Nat)
  js : List (List Nat)
  ls : Option (List (List Str))
def bwords : List Str := ["same", "newer", "elder", "apart"]
def natsD (r : List Nat) : D := .tup (r.map natD)
def strsD (r : List Str) : D := .tup (r.map .str)
def rowsD (t : List (List Nat)) : D := .tup (t.map natsD)
def looksD : Option (List (List Str)) → D
  | none => .non
  | some t => .tup (t.map strsD)
def Bk.parts (b : Bk) : List D := [natD b.f, natsD b.cs, rowsD b.ks, rowsD b.js, looksD b.ls]
def Bk.d (b : Bk) : D := .tup b.parts
structure Bk.Ok (b : Bk) (N : Nat) : Prop where
  n1 : 1 ≤ N
  n4 : N ≤ 400
  f : b.f < N
  cl : b.cs.length = N
  c : ∀ x ∈ b.cs, x < N
  kl : b.ks.length = N
  k : ∀ r ∈ b.ks, r.length = 2 ∧ ∀ x ∈ r, x < N
  jl : b.js.length = N
  j : ∀ r ∈ b.js, r.length = N ∧ ∀ x ∈ r, x < N
  l : ∀ t, b.ls = some t → t.length = N ∧ ∀ r ∈ t, r.length = N ∧ ∀ x ∈ r, x ∈ bwords
def Bk.bare (b : Bk) : Bk := ⟨b.f, b.cs, b.ks, b.js, none⟩
theorem Bk.Ok.bare {b : Bk} {N : Nat} (h : b.Ok N) : b.bare.Ok N := ⟨h.n1, h.n4, h.f, h.cl, h.c, h.kl, h.k, h.jl, h.j, fun t e => by cases e⟩
def letW (s : Str) : Str := if s = "same" then "s" else if s = "newer" then "n" else if s = "elder" then "e" else "a"
def fL (z : Str) : Option Str := if z = "s" then some "same" else if z = "n" then some "newer" else if z = "e" then some "elder" else if z = "a" then some "apart" else none
theorem bw {s : Str} (h : s ∈ bwords) : s = "same" ∨ s = "newer" ∨ s = "elder" ∨ s = "apart" := by
  simpa [bwords] using h
theorem fL_let {s : Str} (h : s ∈ bwords) : fL (letW s) = some s := by
  rcases bw h with rfl | rfl | rfl | rfl <;> decide
theorem let_at {s : Str} (h : s ∈ bwords) : ∃ c r, s.cps.toList = c :: r ∧ (⟨#[c]⟩ : Str) = letW s := by
  rcases bw h with rfl | rfl | rfl | rfl
  · exact ⟨115, [97, 109, 101], tl_ofString "same", by decide⟩
  · exact ⟨110, [101, 119, 101, 114], tl_ofString "newer", by decide⟩
  · exact ⟨101, [108, 100, 101, 114], tl_ofString "elder", by decide⟩
  · exact ⟨97, [112, 97, 114, 116], tl_ofString "apart", by decide⟩
theorem let_free {s : Str} : 32 ∉ tl (letW s) ∧ 10 ∉ tl (letW s) := by
  unfold letW
  split
  · rw [tl_ofString]; decide
  · split
    · rw [tl_ofString]; decide
    · split <;> (rw [tl_ofString]; decide)
theorem let_len {s : Str} : (letW s).length = 1 := by
  unfold letW
  split
  · decide
  · split
    · decide
    · split <;> decide
def rowS (w : Str) (i : Nat) (r : List Str) : Str := Txt.join " " (w :: strN i :: r)
def tabS (w : Str) : Nat → List (List Str) → List Str
  | _, [] => []
  | i, r :: rs => rowS w i r :: tabS w (i + 1) rs
def headS (N f : Nat) : Str := Txt.join " " ["stamps", strN N, "first", strN f]
def Bk.tC (b : Bk) : List (List Str) := b.cs.map fun c => [strN c]
def Bk.tK (b : Bk) : List (List Str) := b.ks.map (·.map strN)
def Bk.tJ (b : Bk) : List (List Str) := b.js.map (·.map strN)
def lookT (t : List (List Str)) : List (List Str) := t.map (·.map letW)
def Bk.tL (b : Bk) : List Str := match b.ls with
  | none => []
  | some t => tabS "look" 0 (lookT t)
def Bk.lines (b : Bk) : List Str := headS b.cs.length b.f :: (tabS "change" 0 b.tC ++ tabS "fork" 0 b.tK ++ tabS "join" 0 b.tJ ++ b.tL)
def Bk.text (b : Bk) : Str := Txt.join "\n" b.lines
theorem tabS_len {w : Str} : ∀ {rs : List (List Str)} {i : Nat}, (tabS w i rs).length = rs.length
  | [], _ => rfl
  | r :: rs, i => by rw [tabS, List.length_cons, tabS_len, List.length_cons]
theorem tabS_get {w : Str} : ∀ {rs : List (List Str)} {i k : Nat}, (tabS w i rs)[k]? = rs[k]?.map (rowS w (i + k))
  | [], _, _ => rfl
  | r :: rs, i, 0 => by rw [tabS]; rfl
  | r :: rs, i, k + 1 => by
    rw [tabS, List.getElem?_cons_succ, List.getElem?_cons_succ, tabS_get, show i + 1 + k = i + (k + 1) by omega]
theorem tabS_mem {w : Str} {x : Str} : ∀ {rs : List (List Str)} {i : Nat}, x ∈ tabS w i rs → ∃ r ∈ rs, ∃ k, i ≤ k ∧ k < i + rs.length ∧ x = rowS w k r
  | [], _, h => by cases h
  | r :: rs, i, h => by
    rw [tabS] at h
    rcases List.mem_cons.mp h with rfl | h
    · exact ⟨r, by simp, i, Nat.le_refl _, by simp, rfl⟩
    · obtain ⟨r', m, k, h1, h2, h3⟩ := tabS_mem h
      exact ⟨r', List.mem_cons_of_mem _ m, k, by omega, by simp; omega, h3⟩
theorem strN3 {n : Nat} (h : n < 1000) : (strN n).length ≤ 3 := by
  rw [str_len, tl_strN]
  exact TL.numL_len (by decide) h
theorem strN_fr (n : Nat) : 32 ∉ tl (strN n) ∧ 10 ∉ tl (strN n) := ⟨strN_free (by omega), strN_free (by omega)⟩
theorem sum_le {r : List Str} {m : Nat} (h : ∀ x ∈ r, x.length ≤ m) : sumL r ≤ m * r.length := by
  induction r with
  | nil => simp [sumL]
  | cons x r ih =>
    have h1 := h x (by simp)
    have h2 := ih fun y my => h y (List.mem_cons_of_mem _ my)
    have e : sumL (x :: r) = x.length + sumL r := rfl
    rw [e, List.length_cons, Nat.mul_add]
    omega
theorem sl_len : (" " : Str).length = 1 := by decide
theorem nl_len1 : ("\n" : Str).length = 1 := by decide
theorem rowS_len {w : Str} {i : Nat} {r : List Str} (hw : w.length ≤ 6) (hi : i < 1000) (h : ∀ x ∈ r, x.length ≤ 3) : (rowS w i r).length ≤ 10 + 4 * r.length := by
  have h1 := join_len " " (w :: strN i :: r)
  rw [sl_len] at h1
  have h2 := sum_le h
  have h3 := strN3 hi
  have e : sumL (w :: strN i :: r) = w.length + ((strN i).length + sumL r) := rfl
  rw [e] at h1
  simp only [List.length_cons] at h1
  unfold rowS
  omega
theorem tab_sum {w : Str} {rs : List (List Str)} {m : Nat} (hw : w.length ≤ 6) (hl : rs.length ≤ 400) (hr : ∀ r ∈ rs, r.length ≤ m ∧ ∀ x ∈ r, x.length ≤ 3) : sumL (tabS w 0 rs) ≤ (10 + 4 * m) * rs.length := by
  have := sum_le (r := tabS w 0 rs) (m := 10 + 4 * m) fun x mx => by
    obtain ⟨r, mr, k, _, h2, rfl⟩ := tabS_mem mx
    have := rowS_len (w := w) (i := k) hw (by omega) (hr r mr).2
    have := (hr r mr).1
    omega
  rw [tabS_len] at this
  exact this
theorem head_len {N f : Nat} (hN : N < 1000) (hf : f < 1000) : (headS N f).length ≤ 20 := by
  have h1 := join_len " " ["stamps", strN N, "first", strN f]
  rw [sl_len] at h1
  have h2 := strN3 hN
  have h3 := strN3 hf
  have e : sumL ["stamps", strN N, "first", strN f] = 6 + ((strN N).length + (5 + ((strN f).length + 0))) := rfl
  rw [e] at h1
  simp only [List.length_cons, List.length_nil] at h1
  unfold headS
  omega
section
variable {b : Bk} {N : Nat}
theorem Bk.Ok.rc (h : b.Ok N) : ∀ r ∈ b.tC, r.length ≤ 1 ∧ ∀ x ∈ r, x.length ≤ 3 := fun r m => by
  obtain ⟨c, mc, rfl⟩ := List.mem_map.mp m
  have := h.c c mc
  have := h.n4
  exact ⟨by simp, fun x mx => by rw [List.mem_singleton.mp mx]; exact strN3 (by omega)⟩
theorem Bk.Ok.rk (h : b.Ok N) : ∀ r ∈ b.tK, r.length ≤ 2 ∧ ∀ x ∈ r, x.length ≤ 3 := fun r m => by
  obtain ⟨s, ms, rfl⟩ := List.mem_map.mp m
  have := h.n4
  refine ⟨by simp [(h.k s ms).1], fun x mx => ?_⟩
  obtain ⟨c, mc, rfl⟩ := List.mem_map.mp mx
  have := (h.k s ms).2 c mc
  exact strN3 (by omega)
theorem Bk.Ok.rj (h : b.Ok N) : ∀ r ∈ b.tJ, r.length ≤ N ∧ ∀ x ∈ r, x.length ≤ 3 := fun r m => by
  obtain ⟨s, ms, rfl⟩ := List.mem_map.mp m
  have := h.n4
  refine ⟨by simp [(h.j s ms).1], fun x mx => ?_⟩
  obtain ⟨c, mc, rfl⟩ := List.mem_map.mp mx
  have := (h.j s ms).2 c mc
  exact strN3 (by omega)
theorem Bk.Ok.rl (h : b.Ok N) {t : List (List Str)} (e : b.ls = some t) : ∀ r ∈ lookT t, r.length ≤ N ∧ ∀ x ∈ r, x.length ≤ 3 := fun r m => by
  obtain ⟨s, ms, rfl⟩ := List.mem_map.mp m
  refine ⟨by simp [((h.l t e).2 s ms).1], fun x mx => ?_⟩
  obtain ⟨c, mc, rfl⟩ := List.mem_map.mp mx
  rw [let_len]; decide
theorem Bk.Ok.len (h : b.Ok N) : b.lines.length = 1 + 3 * N + b.tL.length ∧ (b.tL.length = 0 ∨ b.tL.length = N) := by
  have e1 : b.tC.length = N := by unfold Bk.tC; rw [List.length_map]; exact h.cl
  have e2 : b.tK.length = N := by unfold Bk.tK; rw [List.length_map]; exact h.kl
  have e3 : b.tJ.length = N := by unfold Bk.tJ; rw [List.length_map]; exact h.jl
  refine ⟨?_, ?_⟩
  · unfold Bk.lines
    simp only [List.length_cons, List.length_append, tabS_len, e1, e2, e3]
    omega
  · unfold Bk.tL
    cases e : b.ls with
    | none => exact .inl rfl
    | some t => right; show (tabS "look" 0 (lookT t)).length = N; rw [tabS_len]; unfold lookT; rw [List.length_map]; exact (h.l t e).1
theorem Bk.Ok.sum (h : b.Ok N) : sumL b.lines ≤ 20 + 14 * N + 18 * N + 2 * ((10 + 4 * N) * N) := by
  have n4 := h.n4
  have e1 : b.tC.length = N := by unfold Bk.tC; rw [List.length_map]; exact h.cl
  have e2 : b.tK.length = N := by unfold Bk.tK; rw [List.length_map]; exact h.kl
  have e3 : b.tJ.length = N := by unfold Bk.tJ; rw [List.length_map]; exact h.jl
  have s1 := tab_sum (w := "change") (by decide) (by omega) h.rc
  have s2 := tab_sum (w := "fork") (by decide) (by omega) h.rk
  have s3 := tab_sum (w := "join") (by decide) (by omega) h.rj
  rw [e1] at s1
  rw [e2] at s2
  rw [e3] at s3
  have hf := h.f
  have s0 := head_len (N := b.cs.length) (f := b.f) (by rw [h.cl]; omega) (by omega)
  have s4 : sumL b.tL ≤ (10 + 4 * N) * N := by
    unfold Bk.tL
    cases e : b.ls with
    | none => show 0 ≤ _; exact Nat.zero_le _
    | some t =>
      have e4 : (lookT t).length = N := by unfold lookT; rw [List.length_map]; exact (h.l t e).1
      have := tab_sum (w := "look") (by decide) (by omega) (h.rl e)
      rw [e4] at this
      exact this
  have e : sumL b.lines = (headS b.cs.length b.f).length + sumL (tabS "change" 0 b.tC ++ tabS "fork" 0 b.tK ++ tabS "join" 0 b.tJ ++ b.tL) := rfl
  rw [e, sum_app, sum_app, sum_app]
  have q1 : (10 + 4 * 1) * N = 14 * N := by omega
  have q2 : (10 + 4 * 2) * N = 18 * N := by omega
  rw [q1] at s1
  rw [q2] at s2
  omega
theorem Bk.Ok.big (h : b.Ok N) : sumL b.lines + b.lines.length ≤ 1400000 := by
  have h1 := h.sum
  have h2 := h.len
  have n4 := h.n4
  have : (10 + 4 * N) * N ≤ 1610 * 400 := Nat.mul_le_mul (by omega) n4
  omega
theorem Bk.Ok.text_len (h : b.Ok N) : b.text.length ≤ 1400000 := by
  have h1 := join_le "\n" b.lines
  have h2 := h.big
  rw [nl_len1] at h1
  unfold Bk.text
  omega
theorem Bk.Ok.text_11 (h : b.Ok N) (h11 : N ≤ 11) : b.text.length ≤ 1700 := by
  have h1 := join_le "\n" b.lines
  have h2 := h.sum
  have h3 := h.len
  rw [nl_len1] at h1
  have : (10 + 4 * N) * N ≤ 54 * 11 := Nat.mul_le_mul (by omega) h11
  unfold Bk.text
  omega
theorem row_free {w : Str} {i : Nat} {r : List Str} (hw : 10 ∉ tl w) (h : ∀ x ∈ r, 10 ∉ tl x) : 10 ∉ tl (rowS w i r) := by
  unfold rowS
  rw [join_eq, tl_join]
  refine joinL_free (by rw [tl_ofString]; decide) _ fun p m => ?_
  obtain ⟨z, mz, rfl⟩ := List.mem_map.mp m
  rcases List.mem_cons.mp mz with rfl | mz
  · exact hw
  · rcases List.mem_cons.mp mz with rfl | mz
    · exact (strN_fr i).2
    · exact h z mz
theorem row_split {w : Str} {i : Nat} {r : List Str} (hw : 32 ∉ tl w) (h : ∀ x ∈ r, 32 ∉ tl x) : Txt.split (rowS w i r) " " = w :: strN i :: r := by
  unfold rowS
  refine split_join (y := " ") (s := 32) (S := []) (tl_ofString " ") (by decide +kernel) (by simp) fun z m => ?_
  rcases List.mem_cons.mp m with rfl | m
  · exact hw
  · rcases List.mem_cons.mp m with rfl | m
    · exact (strN_fr i).1
    · exact h z m
theorem row_back {β : Type} {f : Str → Option β} {h : β → Str} {w : Str} {i : Nat} {r : List β} (hw : 32 ∉ tl w) (hi : i < 10 ^ 9) (hf : ∀ x ∈ r, 32 ∉ tl (h x) ∧ f (h x) = some x) : rowM f w r.length i (rowS w i (r.map h)) = some r := by
  unfold rowM
  rw [row_split hw fun x m => by
    obtain ⟨y, my, rfl⟩ := List.mem_map.mp m
    exact (hf y my).1]
  show (if w = w ∧ figOf (strN i) = some i ∧ (r.map h).length = r.length then mapO f (r.map h) else none) = some r
  rw [if_pos ⟨rfl, figOf_num hi, List.length_map _⟩]
  exact mapO_back fun k m => (hf k m).2
theorem kw_free {w : Str} (h : w = "change" ∨ w = "fork" ∨ w = "join" ∨ w = "look") : 32 ∉ tl w ∧ 10 ∉ tl w := by
  rcases h with rfl | rfl | rfl | rfl <;> (rw [tl_ofString]; decide)
theorem tab_free {w : Str} {rs : List (List Str)} (hw : 10 ∉ tl w) (h : ∀ r ∈ rs, ∀ x ∈ r, 10 ∉ tl x) : ∀ z ∈ tabS w 0 rs, 10 ∉ tl z := fun z m => by
  obtain ⟨r, mr, k, _, _, rfl⟩ := tabS_mem m
  exact row_free hw (h r mr)
theorem nums_free {t : List (List Nat)} : ∀ r ∈ t.map (·.map strN), ∀ x ∈ r, 10 ∉ tl x := fun r m x mx => by
  obtain ⟨s, _, rfl⟩ := List.mem_map.mp m
  obtain ⟨c, _, rfl⟩ := List.mem_map.mp mx
  exact (strN_fr c).2
theorem lines_free (b : Bk) : ∀ z ∈ b.lines, 10 ∉ tl z := fun z m => by
  unfold Bk.lines at m
  rcases List.mem_cons.mp m with rfl | m
  · unfold headS
    rw [join_eq, tl_join]
    refine joinL_free (by rw [tl_ofString]; decide) _ fun p mp => ?_
    obtain ⟨y, my, rfl⟩ := List.mem_map.mp mp
    simp only [List.mem_cons, List.not_mem_nil, or_false] at my
    rcases my with rfl | rfl | rfl | rfl
    · rw [tl_ofString]; decide
    · exact (strN_fr _).2
    · rw [tl_ofString]; decide
    · exact (strN_fr _).2
  · rcases List.mem_append.mp m with m | m
    · rcases List.mem_append.mp m with m | m
      · rcases List.mem_append.mp m with m | m
        · exact tab_free (kw_free (by simp)).2 (fun r mr x mx => by
            obtain ⟨c, _, rfl⟩ := List.mem_map.mp mr
            rw [List.mem_singleton.mp mx]; exact (strN_fr c).2) z m
        · exact tab_free (kw_free (by simp)).2 nums_free z m
      · exact tab_free (kw_free (by simp)).2 nums_free z m
    · unfold Bk.tL at m
      cases e : b.ls with
      | none => rw [e] at m; cases m
      | some t =>
        rw [e] at m
        exact tab_free (kw_free (by simp)).2 (fun r mr x mx => by
          obtain ⟨s, _, rfl⟩ := List.mem_map.mp mr
          obtain ⟨c, _, rfl⟩ := List.mem_map.mp mx
          exact let_free.2) z m
theorem text_lines (b : Bk) : Txt.split b.text "\n" = b.lines := by
  unfold Bk.text
  exact split_join (y := "\n") (s := 10) (S := []) (tl_ofString "\n") (by decide +kernel) (by unfold Bk.lines; simp) (lines_free b)
end
def headOf (l : Str) : Option (Nat × Nat) := match Txt.split l " " with
  | [a, b, c, d] => if a = "stamps" ∧ c = "first" then (match figOf b, figOf d with
    | some m, some f => if f < m ∧ m ≤ 400 then some (m, f) else none
    | _, _ => none) else none
  | _ => none
def gRow {β : Type} (f : Str → Option β) (w : Str) (wide : Nat) (ls : List Str) (begin at_ : Nat) : Option (List β) := (ls[at_]?).bind (rowM f w wide (at_ - begin))
def readLs (ls : List Str) : Nat ⊕ Bk :=
  match headOf (ls.headD "") with
  | none => .inl 1
  | some (N, f) =>
    match collect (gRow (figN N) "change" 1 ls 1) 1 N with
    | .inl k => .inl (k + 1)
    | .inr cs =>
      match collect (gRow (figN N) "fork" 2 ls (1 + N)) (1 + N) N with
      | .inl k => .inl (k + 1)
      | .inr ks =>
        match collect (gRow (figN N) "join" N ls (1 + 2 * N)) (1 + 2 * N) N with
        | .inl k => .inl (k + 1)
        | .inr js =>
          if 1 + 3 * N < ls.length then
            match collect (gRow fL "look" N ls (1 + 3 * N)) (1 + 3 * N) N with
            | .inl k => .inl (k + 1)
            | .inr lo => if 1 + 4 * N < ls.length then .inl (2 + 4 * N) else .inr ⟨f, cs.map (·.headD 0), ks, js, some lo⟩
          else .inr ⟨f, cs.map (·.headD 0), ks, js, none⟩
def readB (z : Str) : Nat ⊕ Bk := readLs (Txt.split z "\n")
theorem head_back {N f : Nat} (hN : N ≤ 400) (hf : f < N) : headOf (headS N f) = some (N, f) := by
  unfold headOf headS
  rw [split_join (y := " ") (s := 32) (S := []) (tl_ofString " ") (by decide +kernel) (by simp) fun z m => by
    simp only [List.mem_cons, List.not_mem_nil, or_false] at m
    rcases m with rfl | rfl | rfl | rfl
    · rw [tl_ofString]; decide
    · exact (strN_fr _).1
    · rw [tl_ofString]; decide
    · exact (strN_fr _).1]
  show (if ("stamps" : Str) = "stamps" ∧ ("first" : Str) = "first" then (match figOf (strN N), figOf (strN f) with
    | some m, some f => if f < m ∧ m ≤ 400 then some (m, f) else none
    | _, _ => none) else none) = some (N, f)
  rw [if_pos ⟨rfl, rfl⟩, figOf_num (by omega), figOf_num (by omega)]
  exact if_pos ⟨hf, hN⟩
theorem tab_back {β : Type} {f : Str → Option β} {h : β → Str} {w : Str} {wide begin : Nat} {ls : List Str} {rs : List (List β)} (hw : 32 ∉ tl w) (hl : rs.length ≤ 400) (hr : ∀ r ∈ rs, r.length = wide ∧ ∀ x ∈ r, 32 ∉ tl (h x) ∧ f (h x) = some x)
    (hls : ∀ k, k < rs.length → ls[begin + k]? = (tabS w 0 (rs.map (·.map h)))[k]?) : collect (gRow f w wide ls begin) begin rs.length = .inr rs := by
  refine collect_back fun k hk => ?_
  unfold gRow
  rw [hls k hk, tabS_get, List.getElem?_map, List.getElem?_eq_getElem hk]
  have h1 := hr rs[k] (List.getElem_mem hk)
  show rowM f w wide (begin + k - begin) (rowS w (0 + k) (rs[k].map h)) = some rs[k]
  rw [show begin + k - begin = 0 + k by omega, ← h1.1]
  exact row_back hw (by omega) h1.2
theorem read_lines {b : Bk} {N : Nat} (h : b.Ok N) : readLs b.lines = .inr b := by
  have n1 := h.n1
  have n4 := h.n4
  have e1 : (tabS "change" 0 b.tC).length = N := by rw [tabS_len]; unfold Bk.tC; rw [List.length_map]; exact h.cl
  have e2 : (tabS "fork" 0 b.tK).length = N := by rw [tabS_len]; unfold Bk.tK; rw [List.length_map]; exact h.kl
  have e3 : (tabS "join" 0 b.tJ).length = N := by rw [tabS_len]; unfold Bk.tJ; rw [List.length_map]; exact h.jl
  have hn : ∀ x : Nat, x < N → 32 ∉ tl (strN x) ∧ figN N (strN x) = some x := fun x hx => ⟨(strN_fr x).1, (figN_iff (by omega)).mpr ⟨hx, rfl⟩⟩
  have hlen := h.len
  have g1 : ∀ k, k < N → b.lines[1 + k]? = (tabS "change" 0 b.tC)[k]? := fun k hk => by
    unfold Bk.lines
    rw [show 1 + k = k + 1 by omega, List.getElem?_cons_succ, List.append_assoc, List.append_assoc, List.getElem?_append_left (by omega)]
  have g2 : ∀ k, k < N → b.lines[1 + N + k]? = (tabS "fork" 0 b.tK)[k]? := fun k hk => by
    unfold Bk.lines
    rw [show 1 + N + k = N + k + 1 by omega, List.getElem?_cons_succ, List.append_assoc, List.append_assoc, List.getElem?_append_right (by omega), List.getElem?_append_left (by omega), e1, show N + k - N = k by omega]
  have g3 : ∀ k, k < N → b.lines[1 + 2 * N + k]? = (tabS "join" 0 b.tJ)[k]? := fun k hk => by
    unfold Bk.lines
    rw [show 1 + 2 * N + k = 2 * N + k + 1 by omega, List.getElem?_cons_succ, List.append_assoc, List.getElem?_append_right (by rw [List.length_append]; omega), List.getElem?_append_left (by rw [List.length_append]; omega), List.length_append, e1, e2, show 2 * N + k - (N + N) = k by omega]
  have g4 : ∀ k, b.lines[1 + 3 * N + k]? = b.tL[k]? := fun k => by
    unfold Bk.lines
    rw [show 1 + 3 * N + k = 3 * N + k + 1 by omega, List.getElem?_cons_succ, List.getElem?_append_right (by simp only [List.length_append]; omega)]
    simp only [List.length_append, e1, e2, e3]
    rw [show 3 * N + k - (N + N + N) = k by omega]
  have r0 : headOf (b.lines.headD "") = some (N, b.f) := by
    show headOf (headS b.cs.length b.f) = _
    rw [h.cl]
    exact head_back n4 h.f
  have r1 : collect (gRow (figN N) "change" 1 b.lines 1) 1 N = .inr (b.cs.map fun c => [c]) := by
    have := tab_back (f := figN N) (h := strN) (w := "change") (wide := 1) (begin := 1) (ls := b.lines) (rs := b.cs.map fun c => [c]) (kw_free (by simp)).1 (by rw [List.length_map, h.cl]; exact n4) (fun r m => by
      obtain ⟨c, mc, rfl⟩ := List.mem_map.mp m
      exact ⟨rfl, fun x mx => by rw [List.mem_singleton.mp mx]; exact hn c (h.c c mc)⟩) (fun k hk => by
      rw [List.length_map, h.cl] at hk
      rw [g1 k hk, List.map_map]; rfl)
    rw [List.length_map, h.cl] at this
    exact this
  have r2 : collect (gRow (figN N) "fork" 2 b.lines (1 + N)) (1 + N) N = .inr b.ks := by
    have := tab_back (f := figN N) (h := strN) (w := "fork") (wide := 2) (begin := 1 + N) (ls := b.lines) (rs := b.ks) (kw_free (by simp)).1 (by rw [h.kl]; exact n4) (fun r m => ⟨(h.k r m).1, fun x mx => hn x ((h.k r m).2 x mx)⟩) (fun k hk => g2 k (by rw [h.kl] at hk; exact hk))
    rw [h.kl] at this
    exact this
  have r3 : collect (gRow (figN N) "join" N b.lines (1 + 2 * N)) (1 + 2 * N) N = .inr b.js := by
    have := tab_back (f := figN N) (h := strN) (w := "join") (wide := N) (begin := 1 + 2 * N) (ls := b.lines) (rs := b.js) (kw_free (by simp)).1 (by rw [h.jl]; exact n4) (fun r m => ⟨(h.j r m).1, fun x mx => hn x ((h.j r m).2 x mx)⟩) (fun k hk => g3 k (by rw [h.jl] at hk; exact hk))
    rw [h.jl] at this
    exact this
  have ec : (b.cs.map fun c => [c]).map (·.headD 0) = b.cs := by rw [List.map_map]; simp [Function.comp_def]
  unfold readLs
  rw [r0]
  simp only [r1, r2, r3, ec]
  cases e : b.ls with
  | none =>
    have : b.tL.length = 0 := by unfold Bk.tL; rw [e]; rfl
    rw [if_neg (by omega)]
    cases b
    cases e
    rfl
  | some t =>
    have ht := h.l t e
    have et : b.tL = tabS "look" 0 (t.map (·.map letW)) := by unfold Bk.tL; rw [e]; rfl
    have : b.tL.length = N := by rw [et, tabS_len, List.length_map]; exact ht.1
    rw [if_pos (by omega)]
    have r4 : collect (gRow fL "look" N b.lines (1 + 3 * N)) (1 + 3 * N) N = .inr t := by
      have := tab_back (f := fL) (h := letW) (w := "look") (wide := N) (begin := 1 + 3 * N) (ls := b.lines) (rs := t) (kw_free (by simp)).1 (by rw [ht.1]; exact n4) (fun r m => ⟨(ht.2 r m).1, fun x mx => ⟨let_free.1, fL_let ((ht.2 r m).2 x mx)⟩⟩) (fun k hk => by rw [g4 k, et])
      rw [ht.1] at this
      exact this
    simp only [r4]
    rw [if_neg (by omega)]
    cases b
    cases e
    rfl
theorem read_text {b : Bk} {N : Nat} (h : b.Ok N) : readB b.text = .inr b := by
  unfold readB
  rw [text_lines]
  exact read_lines h
theorem bare_lines {b : Bk} {N : Nat} (h : b.Ok N) : b.lines.take (3 * N + 1) = b.bare.lines := by
  have e1 : (tabS "change" 0 b.tC).length = N := by rw [tabS_len]; unfold Bk.tC; rw [List.length_map]; exact h.cl
  have e2 : (tabS "fork" 0 b.tK).length = N := by rw [tabS_len]; unfold Bk.tK; rw [List.length_map]; exact h.kl
  have e3 : (tabS "join" 0 b.tJ).length = N := by rw [tabS_len]; unfold Bk.tJ; rw [List.length_map]; exact h.jl
  unfold Bk.lines
  rw [List.take_succ_cons, List.take_append_of_le_length (by simp only [List.length_append]; omega), List.take_of_length_le (by simp only [List.length_append]; omega)]
  show _ = headS b.cs.length b.f :: (tabS "change" 0 b.tC ++ tabS "fork" 0 b.tK ++ tabS "join" 0 b.tJ ++ [])
  rw [List.append_nil]
end Dy
namespace Dy
open PySem PySem.Spec PyProof.Rows L2
def dDcK (g : D → Rho → (Rho → Prop) → Prop) (tt : DTT) (tk tv : DTE) (ρ : Rho) (Q : QD) (xs : List D) (live : Store → Prop) (S1 : Store) : Prop :=
  ∃ Pv : Nat → KVD → Store → Prop, Pv 0 [] S1 ∧ (∀ k acc S, k ≤ xs.length → Pv k acc S → live S) ∧
  (∀ k x acc S, xs[k]? = some x → Pv k acc S → g x ρ fun ρ2 => tt ρ2 S (fun b S2 => if b = true then tk ρ2 S2 (fun y S3 => tv ρ2 S3 (fun z S4 => ∃ ky, kyOf y = some ky ∧ acc.length < sizeLine ∧ Pv (k + 1) (dputK acc ky z) S4) noX) noX else Pv (k + 1) acc S2) noX) ∧
  ∀ acc S, Pv xs.length acc S → Q (.dic (acc.map (·.1)) (acc.map (·.2))) S
def dDc (ti : DTI) (g : D → Rho → (Rho → Prop) → Prop) (tt : DTT) (tk tv : DTE) : DTE := fun ρ S Q E => ti ρ S (fun xs live S1 => dDcK g tt tk tv ρ Q xs live S1) E
theorem dc_link {K : PySem.W.Frag} {W : WX} {ti : DTI} {tt : DTT} {tk tv : DTE} {wi : TI} {g : TG} {g' : D → Rho → (Rho → Prop) → Prop} {tt0 : TT} {tk0 tv0 : TE} {vs : List Nat} (hg : TgL K g g' vs)
    (k1 : ∀ σ ρ φ S H E R' R, Ok K W σ ρ φ S H E → (∀ φ1 H1 S1 xs live J, Step φ φ1 H H1 → SR K φ1 S1 H1 → WalkD K J xs live φ1 H1 → R' xs live S1 → R J H1) → ti ρ S R' E → wi σ H R)
    (k2 : ∀ σ ρ φ S H E Q' Q, Ok K W0 σ ρ φ S H E → EndT K φ H Q' Q → tt ρ S Q' E → tt0 σ H Q)
    (k3 : ∀ σ ρ φ S H E Q' Q, Ok K W0 σ ρ φ S H E → EndV K φ H Q' Q → tk ρ S Q' E → tk0 σ H Q)
    (k4 : ∀ σ ρ φ S H E Q' Q, Ok K W0 σ ρ φ S H E → EndV K φ H Q' Q → tv ρ S Q' E → tv0 σ H Q)
    (σ : L2.St) (ρ : Rho) (φ : Al) (S : Store) (H : Hp) (E : XQ) (Q' : QD) (Q : VK) (o : Ok K W σ ρ φ S H E) (q : EndV K φ H Q' Q) (h : dDc ti g' tt tk tv ρ S Q' E) : tDc wi g tt0 tk0 tv0 vs σ H Q := by
  refine k1 σ ρ φ S H E _ _ o (fun φ1 H1 S1 xs live J s1 r1 wk h1 => ?_) h
  obtain ⟨Pv, h0, hl, hs, hd⟩ := h1
  intro D hD
  let ψ : Al := ⟨φ1.l, D :: φ1.b⟩
  have st0 : Step φ1 ψ H1 (upd H1 D (.dK [])) := ⟨⟨[], by simp [ψ]⟩, fun a m n _ => by
    rcases List.mem_cons.mp m with m | m
    · rw [m]; exact hD
    · exact absurd m n, fun a m => List.mem_cons_of_mem _ m, fun a o e _ => by
    have : a ≠ D := fun z => by rw [z, hD] at e; cases e
    rw [upd_ne this]; exact e, fun a m n => absurd m n⟩
  have rb : SR K ψ S1 (upd H1 D (.dK [])) := ⟨r1.nd, r1.len, fun n a o ha ho => (r1.at_ n a o ha ho).moved st0.w r1.muts (upd_ne fun z => by
      have m := r1.mutl a (List.mem_of_getElem? ha)
      rw [z, hD] at m; exact m), fun a m => by
      rcases List.mem_cons.mp m with m | m
      · rw [m]; exact .inr ⟨[], upd_same⟩
      · rcases r1.mb a m with ⟨ys, e⟩ | ⟨ys, e⟩
        · have : a ≠ D := fun z => by rw [z, hD] at e; cases e
          exact .inl ⟨ys, by rw [upd_ne this]; exact e⟩
        · have : a ≠ D := fun z => by rw [z, hD] at e; cases e
          exact .inr ⟨ys, by rw [upd_ne this]; exact e⟩, fun a m => by
      rcases List.mem_cons.mp m with m | m
      · rw [m]; exact r1.out hD
      · exact r1.db a m⟩
  refine ⟨fun k m H' => ∃ φ' S' acc ws, Step φ1 φ' H1 H' ∧ D ∈ φ'.b ∧ SR K φ' S' H' ∧ Sl K φ' H' ρ σ ∧ H' D = some (.dK ws) ∧ RK K φ' H' acc ws ∧ Pv k acc S' ∧ k ≤ xs.length ∧ m = xs.length - k,
    ⟨_, ψ, S1, [], [], st0, List.mem_cons_self, rb, (o.sl.mono s1 o.sr.muts).mono st0 r1.muts, upd_same, rk_mk_nil, h0, Nat.zero_le _, rfl⟩, ?_⟩
  rintro k m H' ⟨φ', S', acc, ws, s', mD, r', sl', hDl, hacc, hP, hk, rfl⟩
  obtain ⟨w1, w2⟩ := wk φ' H' S' k s' r' (hl k acc S' hk hP)
  have nD : D ∉ φ'.l := r'.db D mD
  by_cases hlt : k < xs.length
  · obtain ⟨go, hy⟩ := w2 hlt
    refine .inr ⟨go, fun H2 => ∃ φ2 S2 acc2 ws2, Step φ1 φ2 H1 H2 ∧ D ∈ φ2.b ∧ SR K φ2 S2 H2 ∧ Sl K φ2 H2 ρ σ ∧ H2 D = some (.dK ws2) ∧ RK K φ2 H2 acc2 ws2 ∧ Pv (k + 1) acc2 S2, ?_, ?_⟩
    · rintro H2 ⟨φ2, S2, acc2, ws2, a1, a2, a3, a4, a5, a6, a7⟩
      exact ⟨xs.length - (k + 1), by omega, φ2, S2, acc2, ws2, a1, a2, a3, a4, a5, a6, a7, hlt, rfl⟩
    · intro v H3 yv
      obtain ⟨d, ed, s3, r3, rd⟩ := hy v H3 yv
      refine hg φ' S' H3 σ ρ d v _ _ r3 (sl'.mono s3 r'.muts) rd (hs k d acc S' ed hP) (fun ρ2 σ2 sl2 h2 => ?_)
      have o3 : Ok K W0 σ2 ρ2 φ' S' H3 noX := ⟨r3, sl2, fun _ _ _ _ _ _ _ _ _ z => z.elim⟩
      refine k2 σ2 ρ2 φ' S' H3 noX _ _ o3 (fun φ4 H4 S4 b s4 r4 h4 => ?_) h2
      have s34 : Step φ' φ4 H' H4 := s3.trans s4
      cases b with
      | false =>
        rw [if_neg Bool.false_ne_true] at h4 ⊢
        exact ⟨φ4, S4, acc, ws, s'.trans s34, s34.sub D mD, r4, sl'.mono s34 r'.muts, s34.keep D _ hDl nD, hacc.mono s34 r'.muts, h4⟩
      | true =>
        rw [if_pos rfl] at h4 ⊢
        refine k3 σ2 ρ2 φ4 S4 H4 noX _ _ (o3.mono s4 r4) (fun φ5 H5 S5 y u s5 r5 ry h5 => ?_) h4
        refine k4 σ2 ρ2 φ5 S5 H5 noX _ _ ((o3.mono s4 r4).mono s5 r5) (fun φ6 H6 S6 z u2 s6 r6 rz h6 => ?_) h5
        obtain ⟨ky, eky, hz, h7⟩ := h6
        have s36 : Step φ' φ6 H' H6 := (s34.trans s5).trans s6
        have m6 : D ∈ φ6.b := s36.sub D mD
        have n6 : D ∉ φ6.l := r6.db D m6
        have e6 : H6 D = some (.dK ws) := s36.keep D _ hDl nD
        have acc6 := hacc.mono s36 r'.muts
        refine ⟨ws, ky, ky_rd ry eky, e6, by rw [rk_len hacc]; exact hz, φ6, S6, dputK acc ky z, putK ws ky u2, ?_, m6, ?_, ?_, upd_same, ?_, h7⟩
        · have t := s'.trans s36
          exact ⟨t.pre, t.bs, t.sub, fun a o e n => by
            have : a ≠ D := fun z => by rw [z, hD] at e; cases e
            rw [upd_ne this]; exact t.keep a o e n, t.new⟩
        all_goals have sw : StepW φ6 φ6 H6 (upd H6 D (.dK (putK ws ky u2))) := ⟨⟨[], by simp⟩, fun a m n => absurd m n, fun a o e _ nb => by
            have : a ≠ D := fun z => nb (z ▸ m6)
            rw [upd_ne this]; exact e, fun a m n => absurd m n⟩
        · exact ⟨r6.nd, r6.len, fun n a o ha ho => (r6.at_ n a o ha ho).moved sw r6.muts (upd_ne fun z => n6 (z ▸ List.mem_of_getElem? ha)), fun a m => by
            by_cases z : a = D
            · exact .inr ⟨_, by rw [z]; exact upd_same⟩
            · rw [upd_ne z]; exact r6.mb a m, r6.db⟩
        · have sl6 := sl'.mono s36 r'.muts
          exact ⟨sl6.len, fun i d e => by
            obtain ⟨v, e1, e2⟩ := sl6.at_ i d e
            exact ⟨v, e1, RD.monoW sw r6.mutl r6.mb d v e2⟩⟩
        · exact rk_put (acc6.monoW sw r6.muts) (RD.monoW sw r6.mutl r6.mb _ _ rz)
  · have e : k = xs.length := by omega
    subst e
    refine .inl ⟨w1 rfl, ?_⟩
    have sw : StepW φ' ⟨φ'.l, φ1.b⟩ H' H' := ⟨⟨[], by simp⟩, fun a m n _ => absurd (s'.sub a m) n, fun _ _ e _ _ => e, fun a m n _ => absurd m n⟩
    refine q ⟨φ'.l, φ1.b⟩ H' S' (.dic (acc.map (·.1)) (acc.map (·.2))) (.ref D) (s1.trans ⟨s'.pre, fun a m n _ => absurd m n, fun a m => m, s'.keep, s'.new⟩) ?_ ?_ (hd acc S' hP)
    · exact ⟨r'.nd, r'.len, fun n a o ha ho => (r'.at_ n a o ha ho).moved sw r'.muts rfl, fun a m => r'.mb a (s'.sub a m), fun a m => r'.db a (s'.sub a m)⟩
    · have h2 := hacc.monoW sw r'.muts
      rw [RD]
      refine ⟨D, ws.map (·.2), rfl, ⟨?_, nD, r1.outb hD⟩, ?_, h2.2⟩
      · rw [zip_kv hacc.1]; exact hDl
      · rw [List.length_map, List.length_map, rk_len hacc]
theorem c_dc {ti : DTI} {g : D → Rho → (Rho → Prop) → Prop} {tt : DTT} {tk tv : DTE} {ρ : Rho} {S : Store} {Q : QD} {E : XQ} (h : ti ρ S (fun xs live S1 => dDcK g tt tk tv ρ Q xs live S1) E) : dDc ti g tt tk tv ρ S Q E := h
/-- keys and values told by functions, the keys unlike -/
theorem o_dcM {ρ : Rho} {S : Store} {Q : QD} {tk tv : DTE} {i : Nat} {xs : List D} {live : Store → Prop} (fk : D → Key) (fv : D → D) (hl : live S) (hz : xs.length < sizeLine) (nd : (xs.map fk).Nodup)
    (hk : ∀ x ∈ xs, ∀ P : QD, P (kyD (fk x)) S → tk (ρ.set i (some x)) S P noX) (hv : ∀ x ∈ xs, ∀ P : QD, P (fv x) S → tv (ρ.set i (some x)) S P noX)
    (h : Q (.dic (xs.map fk) (xs.map fv)) S) : dDcK (c1 i) dYes tk tv ρ Q xs live S := by
  have put : ∀ (acc : KVD) (k : Key) (d : D), (∀ kv ∈ acc, kv.1 ≠ k) → dputK acc k d = acc ++ [(k, d)] := fun acc k d hn => by
    unfold dputK
    rw [if_neg]
    rw [Bool.not_eq_true, List.any_eq_false]
    intro kv m
    simpa using hn kv m
  refine ⟨fun k acc S' => S' = S ∧ acc = (xs.take k).map fun x => (fk x, fv x), ⟨rfl, rfl⟩, fun k acc S' _ hP => hP.1 ▸ hl, ?_, ?_⟩
  · rintro k x acc S' hx ⟨rfl, rfl⟩
    have m := List.mem_of_getElem? hx
    dsimp only [c1]
    refine c_yes ?_
    rw [if_pos rfl]
    refine hk x m _ (hv x m _ ⟨fk x, by cases fk x <;> rfl, ?_, rfl, ?_⟩)
    · have := (List.getElem?_eq_some_iff.mp hx).1
      simp; omega
    · rw [put, List.take_add_one, hx, List.map_append]
      · rfl
      · intro kv mk e
        obtain ⟨y, my, rfl⟩ := List.mem_map.mp mk
        have hlt := (List.getElem?_eq_some_iff.mp hx).1
        have h1 : (xs.map fk) = (xs.take k).map fk ++ (fk x :: (xs.drop (k + 1)).map fk) := by
          have : xs = xs.take k ++ (x :: xs.drop (k + 1)) := by
            have h2 := List.take_append_drop k xs
            rw [List.drop_eq_getElem_cons hlt] at h2
            have e2 : xs[k] = x := by
              have := List.getElem?_eq_getElem hlt
              rw [hx] at this
              exact (Option.some.inj this).symm
            rw [e2] at h2
            exact h2.symm
          conv => lhs; rw [this]
          rw [List.map_append, List.map_cons]
        rw [h1] at nd
        exact (List.nodup_append.mp nd).2.2 _ (List.mem_map_of_mem my) _ List.mem_cons_self e
  · rintro acc S' ⟨rfl, rfl⟩
    rw [List.take_length, List.map_map, List.map_map]
    exact h
def dFmt (te : DTE) : DTE := fun ρ S Q E => te ρ S (fun d S1 => (∃ y : Str, d = .str y ∧ y.length ≤ sizeLine ∧ Q (.str y) S1) ∨ ∃ i : Int, d = .int i ∧ i.natAbs.log2 < 1920 ∧ Q (.str (toString i)) S1) E
theorem de_fmt {F : Fam} {W : WX} {e : Expr} {te : DTE} {pos : Pos} (he : DE F W e te) : DE F W (.FormattedValue e (-1) none pos) (dFmt te) := by
  obtain ⟨t1, p1, k1⟩ := he
  refine ⟨_, fun i => pe_fmt (p1 i), fun σ ρ φ S H E Q' Q o q h => ?_⟩
  refine k1 σ ρ φ S H E _ _ o (fun φ1 H1 S1 d v s1 r1 rd h1 => ?_) h
  rcases h1 with ⟨y, rfl, hz, h1⟩ | ⟨i, rfl, hz, h1⟩
  · have ev : v = .str y := by rw [RD] at rd; exact rd
    subst ev
    exact .inl ⟨y, rfl, hz, q φ1 H1 S1 _ _ s1 r1 rd_str h1⟩
  · have ev : v = .int i := by rw [RD] at rd; exact rd
    subst ev
    exact .inr ⟨i, rfl, hz, q φ1 H1 S1 _ _ s1 r1 rd_str h1⟩
def dJs : List DTE → Str → Rho → Store → (Str → Store → Prop) → XQ → Prop
  | [], acc, _, S, Q, _ => Q acc S
  | t :: ts, acc, ρ, S, Q, E => t ρ S (fun d S1 => ∃ y : Str, d = .str y ∧ (acc ++ y).length ≤ sizeLine ∧ dJs ts (acc ++ y) ρ S1 Q E) E
def DJ (F : Fam) (W : WX) (es : List Expr) (ts' : List DTE) : Prop := ∃ ts, (∀ i, PJ (F.X i) es ts) ∧ ∀ acc σ ρ φ S H E (Q' : Str → Store → Prop) (Q : Str → Hp → Prop), Ok F.K W σ ρ φ S H E → (∀ φ1 H1 S1 z, Step φ φ1 H H1 → SR F.K φ1 S1 H1 → Q' z S1 → Q z H1) → dJs ts' acc ρ S Q' E → tJs ts acc σ H Q
section
variable {F : Fam} {W : WX} {e v1 v2 : Expr} {es rest : List Expr} {te : DTE} {ts : List DTE} {pos : Pos}
theorem dj_nil : DJ F W [] [] := ⟨[], fun _ => .nil, fun acc σ ρ φ S H E Q' Q o q h => q φ H S _ .refl o.sr h⟩
theorem dj_cons (he : DE F W e te) (hr : DJ F W es ts) : DJ F W (e :: es) (te :: ts) := by
  obtain ⟨t1, p1, k1⟩ := he
  obtain ⟨t2, p2, k2⟩ := hr
  refine ⟨t1 :: t2, fun i => .cons (p1 i) (p2 i), fun acc σ ρ φ S H E Q' Q o q h => ?_⟩
  refine k1 σ ρ φ S H E _ _ o (fun φ1 H1 S1 d v s1 r1 rd h1 => ?_) h
  obtain ⟨y, rfl, hz, h1⟩ := h1
  have ev : v = .str y := by rw [RD] at rd; exact rd
  subst ev
  exact ⟨y, rfl, hz, k2 _ σ ρ φ1 S1 H1 E _ _ (o.mono s1 r1) (fun φ2 H2 S2 z s2 r2 h2 => q φ2 H2 S2 z (s1.trans s2) r2 h2) h1⟩
def dJoined (ts : List DTE) : DTE := fun ρ S Q E => dJs ts Str.empty ρ S (fun z S1 => Q (.str z) S1) E
theorem de_joined (h : DJ F W (v1 :: v2 :: rest) ts) : DE F W (.JoinedStr (v1 :: v2 :: rest) pos) (dJoined ts) := by
  obtain ⟨t1, p1, k1⟩ := h
  refine ⟨_, fun i => pe_joined (p1 i), fun σ ρ φ S H E Q' Q o q h => ?_⟩
  exact k1 Str.empty σ ρ φ S H E _ _ o (fun φ1 H1 S1 z s1 r1 h1 => q φ1 H1 S1 _ _ s1 r1 rd_str h1) h
end
theorem c_joined {ts : List DTE} {ρ : Rho} {S : Store} {Q : QD} {E : XQ} (h : dJs ts Str.empty ρ S (fun z S1 => Q (.str z) S1) E) : dJoined ts ρ S Q E := h
theorem c_jcons {t : DTE} {ts : List DTE} {acc : Str} {ρ : Rho} {S : Store} {Q : Str → Store → Prop} {E : XQ} (h : t ρ S (fun d S1 => ∃ y : Str, d = .str y ∧ (acc ++ y).length ≤ sizeLine ∧ dJs ts (acc ++ y) ρ S1 Q E) E) : dJs (t :: ts) acc ρ S Q E := h
theorem c_jnil {acc : Str} {ρ : Rho} {S : Store} {Q : Str → Store → Prop} {E : XQ} (h : Q acc S) : dJs [] acc ρ S Q E := h
theorem c_fmt {te : DTE} {ρ : Rho} {S : Store} {Q : QD} {E : XQ} (h : te ρ S (fun d S1 => (∃ y : Str, d = .str y ∧ y.length ≤ sizeLine ∧ Q (.str y) S1) ∨ ∃ i : Int, d = .int i ∧ i.natAbs.log2 < 1920 ∧ Q (.str (toString i)) S1) E) : dFmt te ρ S Q E := h
end Dy
namespace Dy
open PySem PySem.Spec PyProof.Rows L2
theorem ps_setDc {X : Cx} {i : Nat} {y : Str} {py : Pos} {kx vx tg iter : Expr} {ifs : List Expr} {scope : Scope} {own : List (Str × Nat)} {pos spos : Pos} {wi : TI} {g : TG} {tt : TT} {tk tv : TE} (hc : X.calm = true) (hN : X.N.Nodup) (hy : X.N[i]? = some y) (hyl : X.env.scope.names.lookup y = some .local)
    (hsw : swapsWith (.DictComp kx vx [⟨tg, iter, ifs, 0⟩] scope pos) (some (.Name y py)) spos.line X.env = pure true) (hi : PI X tg iter wi) (ok : BlkOk X.N X.env.scope scope own)
    (hg : ∀ (s : Shared) (H : Hp) (C : Addr) (cl : List (Str × Addr)) (fp : List Addr), PG (X.blk s H scope (compEnvC scope cl C X.env) fp) tg g) (ht : ∀ (s : Shared) (H : Hp) (C : Addr) (cl : List (Str × Addr)) (fp : List Addr), PTs (X.blk s H scope (compEnvC scope cl C X.env) fp) ifs tt)
    (hk : ∀ (s : Shared) (H : Hp) (C : Addr) (cl : List (Str × Addr)) (fp : List Addr), PE (X.blk s H scope (compEnvC scope cl C X.env) fp) kx tk)
    (he : ∀ (s : Shared) (H : Hp) (C : Addr) (cl : List (Str × Addr)) (fp : List Addr), PE (X.blk s H scope (compEnvC scope cl C X.env) fp) vx tv) (hs : ∀ x, foldedSetIterable iter X.env x = pure x := by intro _; rfl) :
    PS X (.Assign [.Name y py] (.DictComp kx vx [⟨tg, iter, ifs, 0⟩] scope pos) spos) (tAsg (tDc wi g tt tk tv (own.map (·.2))) (gName i)) := by
  refine ⟨fun pins s σ H D I h => ?_⟩
  rw [exec_Assign_Name_used _ _ _ _ hsw]
  refine wpAny_bind (wpAny_standAt (wpAny_bind ?_))
  show wpAny _ X.A (do let _ ← comprehension (.DictComp kx vx [⟨tg, iter, ifs, 0⟩] scope pos) scope X.env (firstIterPos [⟨tg, iter, ifs, 0⟩] pos) newDict false (eval iter X.env) (some (assign (.Name y py) X.env))) _ _ s
  have h : tDc wi g tt tk tv (own.map (·.2)) σ H (fun x H1 => gName i x σ H1 D.nx) := h
  refine wpAny_bind (thn (dc_core (Qf := fun _ s' => SP X pins D .next s') hc hN I hi ok hg ht hk he hs h fun L C s' m H' I' q hn f => ?_) fun _ s' hq => wpAny_pure (wpAny_pure hq))
  show wpAny _ _ (assign (.Name y py) X.env (.ref L)) _ _ _
  refine wpAny_assign_Name (store_ok2 (v := V.ref L) I' hN hy (.inl hyl) rfl (fun s2 I2 ⟨a, sb, ha⟩ => ?_) (.inr hyl))
  obtain ⟨f0, f1, f2, f3, f4, f5⟩ := f
  have haC : C ≠ a := by
    rcases ha with z | z
    · rw [z]; exact f1
    · exact fun e => f4 y a z e.symm
  refine ⟨m, hn.sameBut sb haC, fun h3 sb3 => ?_⟩
  exact ⟨_, H', I2.turned (t' := s2.toks) (fun b o hb e => (sb3.2 b hb).trans e) f0 f1 f3 f4 f5, q⟩
theorem sw_trueD {kx vx : Expr} {gs : List Comprehension} {scope : Scope} {pos py : Pos} {y : Str} {l : Nat} {env : Env} (hk : env.scope.kind = .function) (hy : env.scope.names.lookup y = some .local) (hl : (py.line == pos.line) = true)
    (ha : (scope.names.any fun (n, k) => n == y && (k == .local || k == .cell)) = false) : swapsWith (.DictComp kx vx gs scope pos) (some (.Name y py)) l env = pure true := by
  have ky : env.kindOf y = some .local := hy
  have hb : env.blockKind = .function := by unfold Env.blockKind; rw [hk]; rfl
  unfold swapsWith
  simp only [hb, ky, ha, Expr.pos, hl]
  rfl
theorem ds_setDc {F : Fam} {W : WX} {iter kx vx : Expr} {ifs : List Expr} {scope : Scope} {x : Str} {px pos : Pos} {ti : DTI} {tt : DTT} {tk tv : DTE} (n i : Nat) {y : Str} {py spos : Pos} (hc : ∀ j, (F.X j).calm = true) (hN : ∀ j, (F.X j).N.Nodup) (hi : DI F W (.Name x px) iter ti) (ok : ∀ j, BlkOk (F.X j).N (F.X j).env.scope scope [(x, i)]) (ht : DTs (F.blk scope) W0 ifs tt) (hk : DE (F.blk scope) W0 kx tk) (hv : DE (F.blk scope) W0 vx tv)
    (hg : ∀ j, PG ((F.blk scope).X j) (.Name x px) (gName i)) (hsw : ∀ j, swapsWith (.DictComp kx vx [⟨.Name x px, iter, ifs, 0⟩] scope pos) (some (.Name y py)) spos.line (F.X j).env = pure true)
    (hy : ∀ j, (F.X j).N[n]? = some y := by intro _; rfl) (hyl : ∀ j, (F.X j).env.scope.names.lookup y = some .local := by intro _; rfl) (hs : ∀ j v, foldedSetIterable iter (F.X j).env v = pure v := by intro _ _; rfl) :
    DS F W (.Assign [.Name y py] (.DictComp kx vx [⟨.Name x px, iter, ifs, 0⟩] scope pos) spos) (dAsg (dDc ti (c1 i) tt tk tv) (eName n)) := by
  obtain ⟨wi, p1, k1⟩ := hi
  obtain ⟨t2, p2, k2⟩ := ht
  obtain ⟨t3, p3, k3⟩ := hk
  obtain ⟨t4, p4, k4⟩ := hv
  exact ⟨_, fun j => ps_setDc (i := n) (own := [(x, i)]) (hc j) (hN j) (hy j) (hyl j) (hsw j) (p1 j) (ok j) (fun s H C cl fp => hg (j, s, H, C, cl, fp)) (fun s H C cl fp => p2 (j, s, H, C, cl, fp)) (fun s H C cl fp => p3 (j, s, H, C, cl, fp)) (fun s H C cl fp => p4 (j, s, H, C, cl, fp)) (hs j),
    fun σ ρ φ S H D' D r sl l h => dc_link (tgl_1 i) k1 k2 k3 k4 σ ρ φ S H _ _ _ (l.ok r sl) (fun φ1 H1 S1 d v s r1 rd q => l.nx _ _ _ _ _ s r1 ((sl.mono s r.muts).set rd) q) h⟩
end Dy
namespace Dy
open PySem PySem.Spec PyProof.Rows L2 TL
theorem rowM_some {β : Type} {f : Str → Option β} {w : Str} {wide i : Nat} {l : Str} {r : List β} (h : rowM f w wide i l = some r) : r.length = wide ∧ ∀ x ∈ r, ∃ z, f z = some x := by
  unfold rowM at h
  split at h
  · split at h
    · rename_i c
      obtain ⟨h1, h2⟩ := mapO_some h
      exact ⟨h1.trans c.2.2, fun x m => by obtain ⟨z, _, e⟩ := h2 x m; exact ⟨z, e⟩⟩
    · cases h
  · cases h
theorem gRow_some {β : Type} {f : Str → Option β} {w : Str} {wide b k : Nat} {ls : List Str} {r : List β} (h : gRow f w wide ls b k = some r) : r.length = wide ∧ ∀ x ∈ r, ∃ z, f z = some x := by
  unfold gRow at h
  obtain ⟨l, _, e⟩ := Option.bind_eq_some_iff.mp h
  exact rowM_some e
theorem table_ok {β : Type} {f : Str → Option β} {w : Str} {wide b n i : Nat} {ls : List Str} {rs : List (List β)} (h : collect (gRow f w wide ls b) i n = .inr rs) : rs.length = n ∧ ∀ r ∈ rs, r.length = wide ∧ ∀ x ∈ r, ∃ z, f z = some x := by
  obtain ⟨h1, h2⟩ := collect_len h
  refine ⟨h1, fun r m => ?_⟩
  obtain ⟨k, _, _, e⟩ := h2 r m
  exact gRow_some e
theorem figN_lt {N : Nat} {z : Str} {k : Nat} (h : figN N z = some k) : k < N := by
  unfold figN at h
  split at h
  · split at h
    · rename_i hk; cases h; exact hk
    · cases h
  · cases h
theorem fL_word {z s : Str} (h : fL z = some s) : s ∈ bwords := by
  unfold fL at h
  split at h
  · cases h; simp [bwords]
  · split at h
    · cases h; simp [bwords]
    · split at h
      · cases h; simp [bwords]
      · split at h
        · cases h; simp [bwords]
        · cases h
theorem head_ok {l : Str} {N f : Nat} (h : headOf l = some (N, f)) : f < N ∧ N ≤ 400 := by
  unfold headOf at h
  split at h
  · split at h
    · split at h
      · split at h
        · rename_i c; cases h; exact c
        · cases h
      · cases h
    · cases h
  · cases h
theorem readLs_ok {ls : List Str} {b : Bk} (h : readLs ls = .inr b) : ∃ N, b.Ok N := by
  unfold readLs at h
  cases h0 : headOf (ls.headD "") with
  | none => rw [h0] at h; cases h
  | some p =>
    obtain ⟨N, f⟩ := p
    rw [h0] at h
    obtain ⟨h1, h2⟩ := head_ok h0
    cases hC : collect (gRow (figN N) "change" 1 ls 1) 1 N with
    | inl k => simp only [hC] at h; cases h
    | inr cs =>
      cases hK : collect (gRow (figN N) "fork" 2 ls (1 + N)) (1 + N) N with
      | inl k => simp only [hC, hK] at h; cases h
      | inr ks =>
        cases hJ : collect (gRow (figN N) "join" N ls (1 + 2 * N)) (1 + 2 * N) N with
        | inl k => simp only [hC, hK, hJ] at h; cases h
        | inr js =>
          simp only [hC, hK, hJ] at h
          obtain ⟨c1, c2⟩ := table_ok hC
          obtain ⟨k1, k2⟩ := table_ok hK
          obtain ⟨j1, j2⟩ := table_ok hJ
          have num : ∀ {wd : Nat} {r : List Nat}, (r.length = wd ∧ ∀ x ∈ r, ∃ z, figN N z = some x) → r.length = wd ∧ ∀ x ∈ r, x < N := fun hr => ⟨hr.1, fun x m => by obtain ⟨z, e⟩ := hr.2 x m; exact figN_lt e⟩
          have fin : ∀ lo : Option (List (List Str)), (∀ t, lo = some t → t.length = N ∧ ∀ r ∈ t, r.length = N ∧ ∀ x ∈ r, x ∈ bwords) → (⟨f, cs.map (·.headD 0), ks, js, lo⟩ : Bk).Ok N := fun lo hl =>
            ⟨by omega, h2, h1, by show (cs.map _).length = N; rw [List.length_map]; exact c1, fun x m => by
              obtain ⟨r, mr, rfl⟩ := List.mem_map.mp (show x ∈ cs.map (·.headD 0) from m)
              obtain ⟨q1, q2⟩ := num (c2 r mr)
              match r, q1 with
              | [a], _ => exact q2 a (by simp), k1, fun r m => num (k2 r m), j1, fun r m => num (j2 r m), hl⟩
          split at h
          · cases hL : collect (gRow fL "look" N ls (1 + 3 * N)) (1 + 3 * N) N with
            | inl k => simp only [hL] at h; cases h
            | inr lo =>
              simp only [hL] at h
              split at h
              · cases h
              · cases h
                obtain ⟨l1, l2⟩ := table_ok hL
                exact ⟨N, fin (some lo) fun t e => by
                  cases e
                  exact ⟨l1, fun r m => ⟨(l2 r m).1, fun x mx => by obtain ⟨z, e⟩ := (l2 r m).2 x mx; exact fL_word e⟩⟩⟩
          · cases h
            exact ⟨N, fin none fun t e => by cases e⟩
theorem gRow_map {β γ : Type} {f : Str → Option β} {g : β → γ} {w : Str} {wide b : Nat} {ls : List Str} : gRow (fun z => (f z).map g) w wide ls b = fun k => (gRow f w wide ls b k).map (·.map g) := by
  funext k
  unfold gRow
  cases ls[k]? with
  | none => rfl
  | some l => exact rowM_map
theorem table_map {β γ : Type} {f : Str → Option β} {g : β → γ} {w : Str} {wide b i n : Nat} {ls : List Str} : collect (gRow (fun z => (f z).map g) w wide ls b) i n = match collect (gRow f w wide ls b) i n with
    | .inl k => .inl k
    | .inr rs => .inr (rs.map (·.map g)) := by
  rw [gRow_map, collect_map (g := gRow f w wide ls b) (f := fun x => x.map g)]
  cases collect (gRow f w wide ls b) i n <;> rfl
theorem val_map {α : Type} {key : α → Key} {v : α → D} : ∀ {l : List α} {a : α}, a ∈ l → (∀ b ∈ l, key b = key a → b = a) → valD (l.map fun x => (key x, v x)) (key a) = some (v a)
  | [], a, h, _ => by cases h
  | b :: l, a, h, inj => by
    unfold valD
    rw [List.map_cons, List.find?_cons]
    by_cases e : key b = key a
    · have eb := inj b (by simp) e
      subst eb
      rw [decide_eq_true rfl]; rfl
    · rw [decide_eq_false e]
      have ha : a ∈ l := by
        rcases List.mem_cons.mp h with rfl | h
        · exact absurd rfl e
        · exact h
      exact val_map ha fun c m => inj c (List.mem_cons_of_mem _ m)
theorem val_none {α : Type} {key : α → Key} {v : α → D} {k : Key} : ∀ {l : List α}, (∀ b ∈ l, key b ≠ k) → valD (l.map fun x => (key x, v x)) k = none
  | [], _ => rfl
  | b :: l, h => by
    unfold valD
    rw [List.map_cons, List.find?_cons, decide_eq_false (h b (by simp))]
    exact val_none fun c m => h c (List.mem_cons_of_mem _ m)
def numKV (N : Nat) : KVD := (List.range N).map fun k => (.inr (strN k), natD k)
theorem num_val {N : Nat} (hN : N ≤ 400) (z : Str) : valD (numKV N) (.inr z) = (figN N z).map natD := by
  cases e : figN N z with
  | some k =>
    obtain ⟨h1, rfl⟩ := (figN_iff (by omega)).mp e
    exact val_map (key := fun k => .inr (strN k)) (v := natD) (List.mem_range.mpr h1) fun b m eb => strN_inj (by have := List.mem_range.mp m; omega) (by omega) (Sum.inr.inj eb)
  | none =>
    refine val_none (key := fun k => .inr (strN k)) (v := natD) fun b m eb => ?_
    have eb := Sum.inr.inj eb
    have : figN N z = some b := (figN_iff (by omega)).mpr ⟨List.mem_range.mp m, eb.symm⟩
    rw [e] at this
    cases this
def letKV : KVD := bwords.map fun s => (.inr (letW s), .str s)
theorem let_val (z : Str) : valD letKV (.inr z) = (fL z).map .str := by
  have q : letKV = [(.inr "s", .str "same"), (.inr "n", .str "newer"), (.inr "e", .str "elder"), (.inr "a", .str "apart")] := rfl
  rw [q]
  have iff : ∀ (y : Str), (decide ((Sum.inr y : Key) = .inr z)) = decide (z = y) := fun y => decide_eq_decide.mpr ⟨fun e => (Sum.inr.inj e).symm, fun e => by rw [e]⟩
  unfold valD fL
  simp only [List.find?_cons, List.find?_nil, iff]
  by_cases h1 : z = "s"
  · subst h1; rfl
  · by_cases h2 : z = "n"
    · subst h2; rfl
    · by_cases h3 : z = "e"
      · subst h3; rfl
      · by_cases h4 : z = "a"
        · subst h4; rfl
        · simp [h1, h2, h3, h4]
end Dy
namespace Dy
open PySem PySem.Spec PyProof.Rows L2 TL
def wT (t : Nat) : Str := if t = 0 then "change" else if t = 1 then "fork" else "join"
def wdT (N t : Nat) : Nat := if t = 0 then 1 else if t = 1 then 2 else N
def gAll (ls : List Str) (N a : Nat) : Option (List Nat) := (ls[a]?).bind (rowM (figN N) (wT ((a - 1) / N)) (wdT N ((a - 1) / N)) ((a - 1) % N))
theorem gAll_eq {ls : List Str} {N t a : Nat} (hN : 1 ≤ N) (h1 : 1 + t * N ≤ a) (h2 : a < 1 + t * N + N) : gAll ls N a = gRow (figN N) (wT t) (wdT N t) ls (1 + t * N) a := by
  have e1 : a - 1 = N * t + (a - (1 + t * N)) := by rw [Nat.mul_comm]; omega
  have e2 : (a - 1) / N = t := by rw [e1, Nat.mul_add_div (by omega), Nat.div_eq_of_lt (by omega), Nat.add_zero]
  have e3 : (a - 1) % N = a - (1 + t * N) := by rw [e1, Nat.mul_add_mod, Nat.mod_eq_of_lt (by omega)]
  unfold gAll gRow
  rw [e2, e3]
theorem rows3 {ls : List Str} {N : Nat} (hN : 1 ≤ N) : collect (gAll ls N) 1 (3 * N) = match collect (gRow (figN N) "change" 1 ls 1) 1 N with
    | .inl k => .inl k
    | .inr cs => match collect (gRow (figN N) "fork" 2 ls (1 + N)) (1 + N) N with
      | .inl k => .inl k
      | .inr ks => match collect (gRow (figN N) "join" N ls (1 + 2 * N)) (1 + 2 * N) N with
        | .inl k => .inl k
        | .inr js => .inr (cs ++ (ks ++ js)) := by
  have c0 : collect (gAll ls N) 1 N = collect (gRow (figN N) "change" 1 ls 1) 1 N := collect_congr fun a h1 h2 => by
    have := gAll_eq (ls := ls) (t := 0) hN (a := a) (by omega) (by omega)
    rw [Nat.zero_mul] at this
    exact this
  have c1 : collect (gAll ls N) (1 + N) N = collect (gRow (figN N) "fork" 2 ls (1 + N)) (1 + N) N := collect_congr fun a h1 h2 => by
    have := gAll_eq (ls := ls) (t := 1) hN (a := a) (by omega) (by omega)
    rw [Nat.one_mul] at this
    exact this
  have c2 : collect (gAll ls N) (1 + N + N) N = collect (gRow (figN N) "join" N ls (1 + 2 * N)) (1 + 2 * N) N := by
    rw [show 1 + N + N = 1 + 2 * N by omega]
    exact collect_congr fun a h1 h2 => gAll_eq (ls := ls) (t := 2) hN (a := a) (by omega) (by omega)
  rw [show 3 * N = N + (N + N) by omega, collect_add, collect_add, c0, c1, c2]
  cases collect (gRow (figN N) "change" 1 ls 1) 1 N with
  | inl k => rfl
  | inr cs =>
    cases collect (gRow (figN N) "fork" 2 ls (1 + N)) (1 + N) N with
    | inl k => rfl
    | inr ks =>
      cases collect (gRow (figN N) "join" N ls (1 + 2 * N)) (1 + 2 * N) N with
      | inl k => rfl
      | inr js => rfl
theorem rowM_law {N i wide : Nat} {w l : Str} (hi : i < N) : rowM (figN N) w wide i l = match Txt.split l " " with
    | [] => none
    | a :: ws => if a = w then (match mapO (figN N) ws with
      | some (k :: kr) => if kr.length = wide ∧ k = i then some kr else none
      | _ => none) else none := by
  unfold rowM
  match Txt.split l " " with
  | [] => rfl
  | [a] =>
    show none = if a = w then none else none
    split <;> rfl
  | a :: b :: ps =>
    show (if a = w ∧ figOf b = some i ∧ ps.length = wide then mapO (figN N) ps else none) = _
    by_cases h1 : a = w
    · have r1 : (if a = w then (match mapO (figN N) (b :: ps) with
        | some (k :: kr) => if kr.length = wide ∧ k = i then some kr else none
        | _ => none) else none) = (match mapO (figN N) (b :: ps) with
        | some (k :: kr) => if kr.length = wide ∧ k = i then some kr else none
        | _ => none) := if_pos h1
      show _ = (if a = w then (match mapO (figN N) (b :: ps) with
        | some (k :: kr) => if kr.length = wide ∧ k = i then some kr else none
        | _ => none) else none)
      rw [r1, mapO]
      cases e1 : figOf b with
      | none =>
        have e2 : figN N b = none := by unfold figN; rw [e1]
        rw [e2, if_neg (fun z => by cases z.2.1)]
      | some k =>
        have e2 : figN N b = if k < N then some k else none := by unfold figN; rw [e1]
        cases e3 : mapO (figN N) ps with
        | none =>
          cases figN N b with
          | none => show _ = none; split <;> rfl
          | some q => show _ = none; split <;> rfl
        | some ks =>
          have hl := (mapO_some e3).1
          rw [e2]
          by_cases h2 : k < N
          · rw [if_pos h2]
            show _ = if ks.length = wide ∧ k = i then some ks else none
            by_cases h3 : k = i
            · by_cases h4 : ps.length = wide
              · rw [if_pos ⟨h1, by rw [h3], h4⟩, if_pos ⟨hl.trans h4, h3⟩]
              · rw [if_neg (fun z => h4 z.2.2), if_neg (fun z => h4 (hl.symm.trans z.1))]
            · rw [if_neg (fun z => h3 (Option.some.inj z.2.1)), if_neg (fun z => h3 z.2)]
          · rw [if_neg h2, if_neg (fun z => h2 (by have := Option.some.inj z.2.1; omega))]
    · rw [if_neg (fun z => h1 z.1)]
      show none = (if a = w then (match mapO (figN N) (b :: ps) with
        | some (k :: kr) => if kr.length = wide ∧ k = i then some kr else none
        | _ => none) else none)
      rw [if_neg h1]
theorem inS_fL {z : Str} : inS ["s", "n", "e", "a"] (.str z) = (fL z).isSome := by
  show (["s", "n", "e", "a"] : List Str).any (fun x => decide (x = z)) = _
  unfold fL
  by_cases h1 : z = "s"
  · subst h1; rfl
  · by_cases h2 : z = "n"
    · subst h2; rfl
    · by_cases h3 : z = "e"
      · subst h3; rfl
      · by_cases h4 : z = "a"
        · subst h4; rfl
        · rw [if_neg h1, if_neg h2, if_neg h3, if_neg h4]
          simp only [List.any_cons, List.any_nil, Bool.or_false]
          rw [decide_eq_false (fun e => h1 e.symm), decide_eq_false (fun e => h2 e.symm), decide_eq_false (fun e => h3 e.symm), decide_eq_false (fun e => h4 e.symm)]; rfl
theorem merge_let : dmergeK letKV = letKV := rfl
end Dy
namespace Dy
open PySem PySem.Spec PyProof.Rows L2
section
variable {prog : Program} {w : World} {A : Around} {E : Value → Shared → Prop} {s : Shared} {K : PySem.W.Frag} {x C f L : Addr} {h₀ : Heap} {m : Str → Option Value} {ox : Obj} {od : Option Obj} {b tb : Value}
theorem ne_plain : plainId "object.__ne__" = true := PySem.F.cmp_object.ne.plain
theorem ne_bind (self : Value) : bindSpecial (.builtin "object.__ne__") self = pure (.builtin "object.__ne__", [self]) := PySem.F.cmp_object.ne.bind _
/-- object.__ne__ of an object with an own __eq__ -/
theorem call_ne {Q : Value → Shared → Prop} (hu : A.in1.units < cLine) (X : K.In s.heap) (I : PySem.W.InstAt s.heap x ox C od) (hm : PySem.W.mroIn K C (.type "object") = some true)
    (hs : PySem.W.findIn K (.ref C) "__eq__" = some (some (.ref f))) (hf : PySem.W.isFn K (.ref f) = true)
    (h : wpAny (model prog w) A.in1 (call (.ref f) [.ref x, b]) (fun v s' => ∃ k, v = .bool k ∧ Q (.bool (!k)) s') E s) : wpAny (model prog w) A (call (.builtin "object.__ne__") [.ref x, b]) Q E s := by
  have iv : PySem.W.Looks (model prog w) s.heap (isInstance (.ref x) (.type "object")) true := I.type.andThen (PySem.W.looks_mroIn X hm)
  refine wpAny_call (codeAny_call_builtin ne_plain PySem.F.cmpEntry_ne (PySem.W.check_slot PySem.F.cmpKind_ne PySem.F.cmpSplit_ne iv (PySem.F.cmpArgs_ne _ _) ?_))
  unfold Builtin.«object.__ne__»
  refine wpAny_bind (wpAny_pure ?_)
  refine wpAny_bind (wpAny_cRoomFor hu ?_)
  refine wpAny_bind (PySem.W.ifBound_K X I hs hf (wpAny_mono h (fun v s' hv => ?_) fun _ _ e => e))
  obtain ⟨k, rfl, q⟩ := hv
  refine wpAny_bind (wpAny_pure ?_)
  exact wpAny_pure q
end
/-- two instances, the first of the class at C, which has an own __eq__ -/
def rIns (K : PySem.W.Frag) (C : Addr) (P2 : Addr → Prop) (sp : Sp) (neg : Bool) : R2 := fun x y H Q => ∃ a b dx fs C2 dy gs, x = .ref a ∧ y = .ref b ∧ H a = some (.ins C dx fs) ∧ H b = some (.ins C2 dy gs) ∧ P2 C2 ∧
  sp [x, y] H (fun v H' => ∃ k, v = .bl k ∧ Q (.bl (neg ^^ k)) H') (fun _ _ _ => False)
section
variable {X : Cx} {n : Nat} {C f : Addr} {fd : FuncData} {ps : List Str} {sp : Sp} {P2 : Addr → Prop}
theorem pass_no : Passes (L2.CX X.prog X.w) X (fun _ _ _ => False) := fun pins σ H s e s' I hc => by
  obtain ⟨_, _, _, _, _, _, _, _, _, _, _, _, z⟩ := hc
  exact z.elim
theorem run_eq {A : Around} {pins : List (Addr × Obj)} {s : Shared} {σ : L2.St} {H : Hp} {a b : Addr} {R : VK} (F : FnOk X.prog X.w X.K X.mg X.base (L2.CX X.prog X.w) n f fd ps sp) (hb : Binds X.K fd ps []) (room : Room n A) (fr : A.frames = X.A.frames) (I : Inv X pins σ H s)
    (hsp : sp [.ref a, .ref b] H R (fun _ _ _ => False)) : wpAny (model X.prog X.w) A (call (.ref f) [.ref a, .ref b]) (fun v s' => EP X pins σ R v s') X.xe s := by
  have e0 : Env0 X.prog X.w X.K X.mg X.base A X.stack s H := by
    have e := I.env0
    exact ⟨by rw [fr]; exact e.frames, e.mod, e.bs, e.bsz, e.funs, e.frf, e.hok, e.bare⟩
  have hl := F.len _ _ _ _ hsp
  have r2 : Vals [V.ref a, V.ref b] [Value.ref a, Value.ref b] := .cons rfl (.cons rfl .nil)
  refine wpAny_call (codeAny_mono (F.run A X.stack s H ⟨[.ref a, .ref b], []⟩ [.ref a, .ref b] [.ref a, .ref b] R _ room e0 (by
    have := hb s [.ref a, .ref b] I.kIn (by simpa using hl)
    simpa using this) r2 hsp) fun r s' hq => ?_)
  cases r with
  | error e => exact pass_no pins σ H s e s' I hq
  | ok fl =>
    cases fl with
    | ret w => exact I.after hq
    | next => exact False.elim hq
    | brk => exact False.elim hq
    | cont => exact False.elim hq
theorem op_neIns (F : FnOk X.prog X.w X.K X.mg X.base (L2.CX X.prog X.w) n f fd ps sp) (hs : PySem.W.findIn X.K (.ref C) "__eq__" = some (some (.ref f))) (hf : PySem.W.isFn X.K (.ref f) = true) (hb : Binds X.K fd ps []) (room : Room (n + 1) X.A)
    (hm : PySem.W.mroIn X.K C (.type "object") = some true) (hn : PySem.W.findIn X.K (.ref C) "__ne__" = some (some (.builtin "object.__ne__")))
    (hP : ∀ C2, P2 C2 → PySem.W.notFirst X.K C (.ref C2) = true) : OpR X (compareOp .NotEq) (rIns X.K C P2 sp true) := by
  intro pins s σ H x y u v Q I rx ry h
  obtain ⟨a, b, dx, fs, C2, dy, gs, rfl, rfl, ha, hb', hp, hsp⟩ := h
  cases rx
  cases ry
  obtain ⟨mA, J, _⟩ := ins_get I.hok ha
  obtain ⟨mB, J', _⟩ := ins_get I.hok hb'
  obtain ⟨od, J, _⟩ := J.look
  obtain ⟨od', J', _⟩ := J'.look
  have Kin := I.kIn
  have one : wpAny (model X.prog X.w) X.A (tryCompare (.ref a) "__ne__" (.ref b)) (fun r s' => ∃ v, r = some v ∧ EP X pins σ Q v s') X.xe s := by
    unfold tryCompare
    have sp0 : PySem.W.Looks (model X.prog X.w) s.heap (specialOf (.ref a) "__ne__") (some (.builtin "object.__ne__")) := J.type.andThen (PySem.W.looks_findIn Kin hn)
    refine wpAny_bind (NtL.csib sp0 (ne_bind _) ?_)
    refine call_ne room.in1.units0 Kin J hm hs hf ?_
    refine wpAny_mono (run_eq F hb room.in1 rfl I hsp) (fun w s' hq => ?_) fun _ _ z => z
    obtain ⟨v, H', I', rv, k, rfl, q⟩ := hq
    cases rv
    refine ⟨k, rfl, wpAny_pure ⟨_, rfl, .bl (!k), H', I', rfl, ?_⟩⟩
    rw [Bool.true_xor] at q
    exact q
  show wpAny _ _ (richCompare .NotEq (.ref a) (.ref b)) _ _ _
  unfold richCompare
  simp only [oneThing_ref]
  refine wpAny_holding (wpAny_bind (wpAny_cRoomFor room.units0 ?_))
  refine wpAny_bind (J.type.here (wpAny_bind (J'.type.here ?_)))
  have hnf := hP C2 hp
  split
  · rename_i q
    have e : PySem.W.subIn X.K (.ref C2) (.ref C) = some false := by
      rcases Bool.or_eq_true_iff.mp hnf with e | e
      · rw [beq_iff_eq.mp e] at q; simp at q
      · exact beq_iff_eq.mp e
    refine wpAny_bind ((PySem.W.looks_subIn Kin e).here ?_)
    simp only [Bool.false_eq_true, if_false]
    refine wpAny_bind (wpAny_mono one (fun r s' z => ?_) fun _ _ e => e)
    obtain ⟨v, rfl, hq⟩ := z
    exact wpAny_pure hq
  · refine wpAny_bind (wpAny_pure ?_)
    simp only [Bool.false_eq_true, if_false]
    refine wpAny_bind (wpAny_mono one (fun r s' z => ?_) fun _ _ e => e)
    obtain ⟨v, rfl, hq⟩ := z
    exact wpAny_pure hq
end
/-- .. as their callers know it -/
def CalEq (P : Program) (w : World) (K : PySem.W.Frag) (mg : Str → Option Value) (base : Heap) (C : Addr) (k : Nat) (sp : DSp) : Prop :=
  ∃ f fd ps, FnOk P w K mg base (L2.CX P w) k f fd ps (liftSp K sp) ∧ PySem.W.findIn K (.ref C) "__eq__" = some (some (.ref f)) ∧ PySem.W.isFn K (.ref f) = true ∧ Binds K fd ps [] ∧ PySem.W.mroIn K C (.type "object") = some true ∧
    PySem.W.findIn K (.ref C) "__ne__" = some (some (.builtin "object.__ne__"))
def dInsEq (C : Addr) (P2 : Addr → Prop) (sp : DSp) (neg : Bool) : D2 := fun x y S Q => ∃ n m fs C2 gs, x = .ref n ∧ y = .ref m ∧ S[n]? = some (.ins C fs) ∧ S[m]? = some (.ins C2 gs) ∧ P2 C2 ∧
  sp [x, y] S (fun d S' => ∃ k, d = .bl k ∧ Q (.bl (neg ^^ k)) S') (fun _ _ => False)
theorem lk_insEq {K : PySem.W.Frag} {C : Addr} {P2 : Addr → Prop} {sp : DSp} {neg : Bool} : Lk K (dInsEq C P2 sp neg) (rIns K C P2 (liftSp K sp) neg) := by
  rintro φ S H Q' Q d1 d2 v1 v2 r r1 r2 q ⟨n, m, fs, C2, gs, rfl, rfl, e1, e2, hp, h⟩
  obtain ⟨a, rfl, ha⟩ := rd_ref r1
  obtain ⟨b, rfl, hb⟩ := rd_ref r2
  obtain ⟨dx, ws, g1, _⟩ := r.at_ n a _ ha e1
  obtain ⟨dy, us, g2, _⟩ := r.at_ m b _ hb e2
  refine ⟨a, b, dx, ws, C2, dy, us, rfl, rfl, g1, g2, hp, φ, S, [.ref n, .ref m], _, _, r, .cons r1 (.cons r2 .nil), h, fun φ' H' S' d v s r' rd hk => ?_, fun φ' H' S' x cls d s r' rd z => z⟩
  obtain ⟨k, rfl, hq⟩ := hk
  have ev : v = .bl k := by rw [RD] at rd; exact rd
  subst ev
  exact ⟨k, rfl, q φ' H' S' _ _ s r' rd_bl hq⟩
section
variable {F : Fam} {C : Addr} {P2 : Addr → Prop} {sp : DSp} {k k2 : Nat}
abbrev CalEqF (F : Fam) (C : Addr) (k : Nat) (sp : DSp) : Prop := ∀ i, CalEq (F.X i).prog (F.X i).w (F.X i).K (F.X i).mg (F.X i).base C k sp
theorem oq_neIns (c : CalEqF F C k sp) (hr : ∀ i, Room k2 (F.X i).A) (hk : k + 1 ≤ k2) (hP : ∀ C2, P2 C2 → PySem.W.notFirst F.K C (.ref C2) = true) (i : F.ι) : OpR (F.X i) (compareOp .NotEq) (rIns F.K C P2 (liftSp F.K sp) true) := by
  obtain ⟨f, fd, ps, G, h1, h2, hb, h3, h4⟩ := c i
  have := op_neIns (P2 := P2) G h1 h2 hb ((hr i).mono hk) h3 h4 (by rw [F.hK i]; exact hP)
  rw [F.hK i] at this
  exact this
end
end Dy
namespace Dy
open PySem PySem.Spec PyProof.Rows L2
/-- an instance of an own class under a built-in type -/
structure InsT (K : PySem.W.Frag) (C : Addr) (T : String) : Prop where
  cl : Cls K C
  ha : PySem.W.findIn K (.ref C) "__class__" = some (some (.builtin "object.__class__"))
  hn : PySem.W.specialIn K (.builtin "object.__class__") "__get__" = some (some (.builtin "getset_descriptor.__get__"))
  htk : PySem.W.takesIn K (.builtin "object.__class__") = some true
  hm : PySem.W.mroIn K C (.type "object") = some true
  no : PySem.W.kitOne K (.ref C) (.type T) = some false
def cIsiU (C : Addr) (T : String) : DR := fun ds S Q => cIsi T ds S Q ∨ ∃ n fs, ds = [.ref n, .ty T] ∧ S[n]? = some (.ins C fs) ∧ Q (.bl false) S
theorem lk_isiU {K : PySem.W.Frag} {C : Addr} {T : String} (c : InsT K C T) (hT : T ∈ tags) (hN : T ≠ "NoneType") : LkC K (cIsiU C T) (rIsi K) := by
  rintro φ S H Q' Q ds vs r rd q (h | ⟨n, fs, rfl, e, h⟩)
  · exact lk_isi hT hN φ S H Q' Q ds vs r rd q h
  · obtain ⟨v, w, rfl, h1, h2⟩ := rds2 rd
    rw [RD] at h2
    subst h2
    obtain ⟨a, rfl, ha⟩ := rd_ref h1
    obtain ⟨dx, ws, g1, _⟩ := r.at_ n a _ ha e
    exact ⟨.ref a, .ty T, _, _, _, rfl, .ty T, .base (TyOf.ins g1 c.cl c.ha c.hn c.htk c.hm), c.no, q φ H S _ _ .refl r rd_bl h⟩
/-- .. under its own class -/
structure InsO (K : PySem.W.Frag) (C : Addr) : Prop where
  cl : Cls K C
  ha : PySem.W.findIn K (.ref C) "__class__" = some (some (.builtin "object.__class__"))
  hn : PySem.W.specialIn K (.builtin "object.__class__") "__get__" = some (some (.builtin "getset_descriptor.__get__"))
  htk : PySem.W.takesIn K (.builtin "object.__class__") = some true
  hm : PySem.W.mroIn K C (.type "object") = some true
  me : PySem.W.kitOne K (.ref C) (.ref C) = some true
def cIsCls (C : Addr) : DR := fun ds S Q => ∃ n fs, ds = [.ref n, .cls C] ∧ S[n]? = some (.ins C fs) ∧ Q (.bl true) S
theorem lk_isCls {K : PySem.W.Frag} {C : Addr} (c : InsO K C) : LkC K (cIsCls C) (rIsi K) := by
  rintro φ S H Q' Q ds vs r rd q ⟨n, fs, rfl, e, h⟩
  obtain ⟨v, w, rfl, h1, h2⟩ := rds2 rd
  rw [RD] at h2
  subst h2
  obtain ⟨a, rfl, ha⟩ := rd_ref h1
  obtain ⟨dx, ws, g1, _⟩ := r.at_ n a _ ha e
  exact ⟨.ref a, .ref C, _, _, _, rfl, .own C, .base (TyOf.ins g1 c.cl c.ha c.hn c.htk c.hm), c.me, q φ H S _ _ .refl r rd_bl h⟩
section
variable {F : Fam} {W : WX} {e e2 : Expr} {t : DTA} {p pos : Pos} {C : Addr}
theorem dc_isiU {T : String} (c : InsT F.K C T) (hT : T ∈ tags) (hN : T ≠ "NoneType") (hm : ∀ i, (F.X i).mg "isinstance" = none) (ha : DA F W [e, e2] t) (hg : ∀ i, Gl (F.X i) "isinstance" := by intro _; rfl) (he : St1 F e [e2] := by intro _; rfl) (hp : Pl1 F pos [e2] := by intro _; rfl) :
    DE F W (.Call (.Name "isinstance" p) [e, e2] [] pos) (dCB (cIsiU C T) t) := de_callB (fun i => F.hK i ▸ call_isi) (lk_isiU c hT hN) hg hm bt_isinstance ha (he := he) (hpl := hp)
theorem dc_isCls (c : InsO F.K C) (hm : ∀ i, (F.X i).mg "isinstance" = none) (ha : DA F W [e, e2] t) (hg : ∀ i, Gl (F.X i) "isinstance" := by intro _; rfl) (he : St1 F e [e2] := by intro _; rfl) (hp : Pl1 F pos [e2] := by intro _; rfl) :
    DE F W (.Call (.Name "isinstance" p) [e, e2] [] pos) (dCB (cIsCls C) t) := de_callB (fun i => F.hK i ▸ call_isi) (lk_isCls c) hg hm bt_isinstance ha (he := he) (hpl := hp)
end
theorem o_isiU0 {C : Addr} {T : String} {d : D} {S : Store} {Q : QD} (c : plainD d = true) (h : Q (.bl (isiT T (tagD d))) S) : cIsiU C T [d, .ty T] S Q := .inl (o_isiP c h)
theorem o_isiU1 {C : Addr} {T : String} {n : Nat} {fs : List (Str × D)} {S : Store} {Q : QD} (e : S[n]? = some (.ins C fs)) (h : Q (.bl false) S) : cIsiU C T [.ref n, .ty T] S Q := .inr ⟨n, fs, rfl, e, h⟩
theorem o_isCls {C : Addr} {n : Nat} {fs : List (Str × D)} {S : Store} {Q : QD} (e : S[n]? = some (.ins C fs)) (h : Q (.bl true) S) : cIsCls C [.ref n, .cls C] S Q := ⟨n, fs, rfl, e, h⟩
end Dy
namespace K54
open PySem PySem.Spec PyProof.Rows L2 Dy
local macro_rules | `(tactic| walk_at "e") => `(tactic| first | exact rfl | assumption | (apply sq_ref; assumption) | (apply ls_ref; assumption) | (apply lm_ref; assumption) | (apply tg_ref; assumption))
local macro_rules | `(tactic| walk_at "dv") => `(tactic| first | exact rfl | assumption | (apply dv_ref; assumption))
local macro_rules | `(tactic| walk_at "side") => `(tactic| first | omega | assumption | ((refine And.intro ?_ ?_); omega; assumption) | ((refine And.intro ?_ ?_) <;> decide) | ((refine Or.inl (Or.inr (And.intro ?_ ?_))) <;> omega) | ((refine Or.inl (Or.inl (And.intro ?_ ?_))) <;> omega))
local macro_rules | `(tactic| walk_at "go1") => `(tactic| first
  | with_reducible refine s_seq ?_
  | with_reducible refine s_next ?_
  | with_reducible refine s_asg ?_
  | with_reducible refine s_asgG ?_
  | with_reducible refine s_drop ?_
  | with_reducible refine s_ret ?_
  | with_reducible refine s_retN ?_
  | with_reducible refine s_ifs ?_
  | with_reducible refine s_par ?_
  | with_reducible apply s_two
  | with_reducible refine s_setL ?_
  | with_reducible refine g_name ?_
  | with_reducible refine g_nil ?_
  | with_reducible refine g_cons ?_
  | ((with_reducible refine g_tup ?_ ?_); rfl)
  | ((with_reducible apply s_aug); (exact rfl))
  | with_reducible refine c_op ?_
  | ((with_reducible apply ifYes); (first | assumption | exact rfl | (simp only [tagD]; decide +kernel)))
  | ((with_reducible apply ifNo); (first | assumption | exact rfl | (simp only [tagD]; decide +kernel)))
  | with_reducible refine c_un ?_
  | ((with_reducible apply c_var); (exact rfl))
  | with_reducible refine c_c ?_
  | with_reducible refine c_nil ?_
  | with_reducible refine c_cons ?_
  | ((with_reducible apply sz_and); (exact Nat.le_of_ble_eq_true rfl))
  | with_reducible refine c_tup ?_
  | with_reducible refine c_lst ?_
  | with_reducible refine c_new ?_
  | with_reducible refine c_cb ?_
  | with_reducible refine c_call ?_
  | with_reducible refine c_if ?_
  | with_reducible refine c_andV ?_
  | with_reducible refine c_orV ?_
  | with_reducible refine c_notV ?_
  | with_reducible refine c_test ?_
  | with_reducible refine c_and ?_
  | with_reducible refine c_or ?_
  | with_reducible refine c_not ?_
  | with_reducible refine c_yes ?_
  | with_reducible refine c_bl ?_
  | with_reducible refine c_chain ?_
  | with_reducible refine c_sl ?_
  | with_reducible refine c_nopart ?_
  | with_reducible refine c_part ?_
  | with_reducible refine c_intE ?_
  | with_reducible refine c_lc ?_
  | with_reducible refine c_lcN ?_
  | with_reducible refine s_for ?_
  | with_reducible refine s_setF ?_
  | with_reducible refine s_raiseF ?_
  | with_reducible refine s_tryAs ?_
  | with_reducible refine c_dnil ?_
  | with_reducible refine c_make ?_
  | with_reducible refine c_fld ?_
  | with_reducible refine s_raise0 ?_
  | with_reducible refine s_setD ?_
  | with_reducible refine s_augD ?_
  | with_reducible refine s_delD ?_
  | with_reducible refine c_dpop ?_
  | with_reducible refine c_disp ?_
  | with_reducible refine c_dispN ?_
  | with_reducible refine c_pcons ?_
  | with_reducible refine c_pnil ?_
  | with_reducible refine c_tru ?_
  | with_reducible refine c_sortSet ?_
  | with_reducible refine c_sortSetB ?_
  | with_reducible refine s_enT ?_
  | with_reducible refine s_enL ?_
  | with_reducible apply o_enT
  | ((with_reducible apply o_tru); (exact rfl))
  | ((with_reducible apply o_lenD); (walk_at "dv"))
  | ((with_reducible apply o_listD); (walk_at "dv"))
  | ((with_reducible apply o_dictD); (walk_at "dv"))
  | ((with_reducible apply o_dvAnd); (walk_at "dv"))
  | ((with_reducible apply o_dIn); (walk_at "dv"); (exact rfl))
  | ((with_reducible apply o_dget); (walk_at "dv"); (exact rfl); (first | assumption | exact rfl))
  | with_reducible refine s_only ?_
  | with_reducible refine c_xe ?_
  | ((with_reducible apply o_xe); (exact rfl))
  | ((with_reducible apply o_isE); (first | exact rfl | exact if_pos rfl))
  | ((with_reducible apply o_fld); (assumption); (exact rfl); (exact rfl))
  | with_reducible refine s_bm ?_
  | with_reducible refine s_bm0 ?_
  | with_reducible refine s_rng1 ?_
  | with_reducible refine c_bits ?_
  | with_reducible refine c_sm1 ?_
  | with_reducible refine o_strE ?_
  | with_reducible refine s_str ?_
  | with_reducible apply o_strI
  | with_reducible refine c_star ?_
  | with_reducible refine c_revL ?_
  | with_reducible refine c_isi2 ?_
  | with_reducible refine c_dc ?_
  | with_reducible refine c_joined ?_
  | with_reducible refine c_jcons ?_
  | with_reducible refine c_jnil ?_
  | with_reducible refine c_fmt ?_
  | ((with_reducible apply o_isCls); (assumption))
  | with_reducible apply o_strS
  | with_reducible apply o_inStr
  | ((with_reducible apply o_tagP); (first | assumption | exact rfl))
  | ((with_reducible apply o_lenS); (assumption))
  | ((with_reducible apply o_slS); (assumption))
  | with_reducible apply o_lstE
  | ((with_reducible apply o_sqAnd); (walk_at "e"))
  | with_reducible refine s_sq ?_
  | with_reducible apply o_I0
  | with_reducible apply o_addI
  | ((with_reducible apply o_lsAnd); (walk_at "e"))
  | ((with_reducible apply o_I); (walk_at "side"))
  | with_reducible apply o_isN
  | with_reducible apply o_notN
  | with_reducible apply o_eqI
  | with_reducible apply o_eqS
  | with_reducible apply o_eqB
  | with_reducible apply o_neg
  | with_reducible apply o_int
  | with_reducible apply o_intB
  | with_reducible apply o_abs
  | with_reducible apply o_slT
  | ((with_reducible apply o_len); (walk_at "e"))
  | ((with_reducible apply o_list); (walk_at "e"))
  | ((with_reducible apply o_listN); (walk_at "e"))
  | ((with_reducible apply o_tuple); (walk_at "e"))
  | ((with_reducible apply o_isi); (walk_at "e"))
  | ((with_reducible apply o_isiP); (first | assumption | exact Dat.plain (by assumption)))
  | ((with_reducible apply o_slL); (walk_at "e"))
  | ((with_reducible apply o_ix); (walk_at "e"); (first | (apply (at0 _).trans; first | exact rfl | assumption) | (apply (at1 _).trans; exact rfl) | (apply (at2 _).trans; exact rfl) | (apply (at3 _).trans; exact rfl) | (apply (at4 _).trans; exact rfl) | exact rfl))
  | ((with_reducible apply o_put); (assumption); (first | exact rfl | (apply ixN_0; simp))))
local macro_rules | `(tactic| walk_at "go") => `(tactic| repeat walk_at "go1")
local macro_rules | `(tactic| walk_at "len") => `(tactic| (intro ds S Q E h; first | (obtain ⟨_, rfl, _⟩ := h; rfl) | (obtain ⟨_, _, rfl, _⟩ := h; rfl) | (obtain ⟨_, _, _, rfl, _⟩ := h; rfl) | (obtain ⟨_, _, _, _, rfl, _⟩ := h; rfl) | (obtain ⟨_, _, _, _, _, rfl, _⟩ := h; rfl) | (obtain ⟨_, _, _, _, _, _, rfl, _⟩ := h; rfl) | (obtain ⟨rfl, _⟩ := h; rfl)))
def top (i : Nat) : Stmt := PySem.Challenge.pw_threecopies_k54_whole_texts_of_books.main.body.getD i (.Pass ⟨0, 0, 0, 0⟩)
def mth (i j : Nat) : Stmt := match top i with
  | .ClassDef _ _ _ b _ _ _ _ _ _ _ => b.getD j (.Pass ⟨0, 0, 0, 0⟩)
  | s => s
abbrev s_is_integer : Stmt := top 6
abbrev N_is_integer : List Str := ["thing"]
theorem sc_is_integer : FnScope N_is_integer ["thing"] (defScope s_is_integer) := ⟨rfl, rfl, rfl, by decide +kernel, rfl, by decide +kernel, by decide +kernel⟩
abbrev s_is_between : Stmt := top 7
abbrev N_is_between : List Str := ["thing", "least", "most"]
theorem sc_is_between : FnScope N_is_between ["thing", "least", "most"] (defScope s_is_between) := ⟨rfl, rfl, rfl, by decide +kernel, rfl, by decide +kernel, by decide +kernel⟩
abbrev s_is_tuple_of : Stmt := top 8
abbrev N_is_tuple_of : List Str := ["thing", "length"]
theorem sc_is_tuple_of : FnScope N_is_tuple_of ["thing", "length"] (defScope s_is_tuple_of) := ⟨rfl, rfl, rfl, by decide +kernel, rfl, by decide +kernel, by decide +kernel⟩
abbrev s_are_stamps : Stmt := top 12
abbrev N_are_stamps : List Str := ["thing", "length", "many", "stamp"]
theorem sc_are_stamps : FnScope N_are_stamps ["thing", "length", "many"] (defScope s_are_stamps) := ⟨rfl, rfl, rfl, by decide +kernel, rfl, by decide +kernel, by decide +kernel⟩
abbrev s_are_rows : Stmt := top 13
abbrev N_are_rows : List Str := ["thing", "length", "many", "row"]
theorem sc_are_rows : FnScope N_are_rows ["thing", "length", "many"] (defScope s_are_rows) := ⟨rfl, rfl, rfl, by decide +kernel, rfl, by decide +kernel, by decide +kernel⟩
abbrev s_are_words : Stmt := top 14
abbrev N_are_words : List Str := ["thing", "length", "word"]
theorem sc_are_words : FnScope N_are_words ["thing", "length"] (defScope s_are_words) := ⟨rfl, rfl, rfl, by decide +kernel, rfl, by decide +kernel, by decide +kernel⟩
abbrev s_are_looks : Stmt := top 15
abbrev N_are_looks : List Str := ["thing", "many", "row"]
theorem sc_are_looks : FnScope N_are_looks ["thing", "many"] (defScope s_are_looks) := ⟨rfl, rfl, rfl, by decide +kernel, rfl, by decide +kernel, by decide +kernel⟩
abbrev s_wrong_part : Stmt := top 16
abbrev N_wrong_part : List Str := ["first", "changes", "forks", "joins", "looks", "many"]
theorem sc_wrong_part : FnScope N_wrong_part ["first", "changes", "forks", "joins", "looks"] (defScope s_wrong_part) := ⟨rfl, rfl, rfl, by decide +kernel, rfl, by decide +kernel, by decide +kernel⟩
abbrev s_line_of : Stmt := top 20
abbrev N_line_of : List Str := ["words", "word"]
theorem sc_line_of : FnScope N_line_of ["words"] (defScope s_line_of) := ⟨rfl, rfl, rfl, by decide +kernel, rfl, by decide +kernel, by decide +kernel⟩
abbrev s_table_lines : Stmt := top 21
abbrev N_table_lines : List Str := ["word", "rows", "stamp", "row"]
theorem sc_table_lines : FnScope N_table_lines ["word", "rows"] (defScope s_table_lines) := ⟨rfl, rfl, rfl, by decide +kernel, rfl, by decide +kernel, by decide +kernel⟩
abbrev s_book_text : Stmt := top 22
abbrev N_book_text : List Str := ["book", "lines", "stamp", "row", "word"]
theorem sc_book_text : FnScope N_book_text ["book"] (defScope s_book_text) := ⟨rfl, rfl, rfl, by decide +kernel, rfl, by decide +kernel, by decide +kernel⟩
abbrev s_check_text : Stmt := top 23
abbrev N_check_text : List Str := ["thing"]
theorem sc_check_text : FnScope N_check_text ["thing"] (defScope s_check_text) := ⟨rfl, rfl, rfl, by decide +kernel, rfl, by decide +kernel, by decide +kernel⟩
abbrev s_number_in : Stmt := top 24
abbrev N_number_in : List Str := ["word", "sign"]
theorem sc_number_in : FnScope N_number_in ["word"] (defScope s_number_in) := ⟨rfl, rfl, rfl, by decide +kernel, rfl, by decide +kernel, by decide +kernel⟩
abbrev s_read_head : Stmt := top 25
abbrev N_read_head : List Str := ["line", "words", "many", "first"]
theorem sc_read_head : FnScope N_read_head ["line"] (defScope s_read_head) := ⟨rfl, rfl, rfl, by decide +kernel, rfl, by decide +kernel, by decide +kernel⟩
abbrev s_read_table : Stmt := top 26
abbrev N_read_table : List Str := ["lines", "begin", "word", "length", "meanings", "many", "rows", "stamp", "at", "words", "part"]
theorem sc_read_table : FnScope N_read_table ["lines", "begin", "word", "length", "meanings", "many"] (defScope s_read_table) := ⟨rfl, rfl, rfl, by decide +kernel, rfl, by decide +kernel, by decide +kernel⟩
abbrev s_read_book : Stmt := top 27
abbrev N_read_book : List Str := ["text", "lines", "many", "first", "stamps", "changes", "forks", "joins", "looks", "letters", "stamp", "word", "row"]
theorem sc_read_book : FnScope N_read_book ["text"] (defScope s_read_book) := ⟨rfl, rfl, rfl, by decide +kernel, rfl, by decide +kernel, by decide +kernel⟩
abbrev s__law_hand : Stmt := top 29
abbrev N__law_hand : List Str := ["_law_script", "_law_cells", "_law_cell"]
theorem sc__law_hand : FnScope N__law_hand ["_law_script"] (defScope s__law_hand) := ⟨rfl, rfl, rfl, by decide +kernel, rfl, by decide +kernel, by decide +kernel⟩
abbrev s__law_draw : Stmt := top 30
abbrev N__law_draw : List Str := ["_law_hand_here", "_law_many", "_law_cell", "_law_digit", "_law_number_here"]
theorem sc__law_draw : FnScope N__law_draw ["_law_hand_here", "_law_many"] (defScope s__law_draw) := ⟨rfl, rfl, rfl, by decide +kernel, rfl, by decide +kernel, by decide +kernel⟩
abbrev s__law_some : Stmt := top 31
abbrev N__law_some : List Str := ["_law_hand_here", "_law_things"]
theorem sc__law_some : FnScope N__law_some ["_law_hand_here", "_law_things"] (defScope s__law_some) := ⟨rfl, rfl, rfl, by decide +kernel, rfl, by decide +kernel, by decide +kernel⟩
abbrev s__law_is : Stmt := top 32
abbrev N__law_is : List Str := ["_law_told_here", "_law_due", "_law_k", "_law_key"]
theorem sc__law_is : FnScope N__law_is ["_law_told_here", "_law_due"] (defScope s__law_is) := ⟨rfl, rfl, rfl, by decide +kernel, rfl, by decide +kernel, by decide +kernel⟩
abbrev s__law_deep : Stmt := top 33
abbrev N__law_deep : List Str := ["_law_kind", "_law_found", "_law_turn"]
theorem sc__law_deep : FnScope N__law_deep ["_law_kind"] (defScope s__law_deep) := ⟨rfl, rfl, rfl, by decide +kernel, rfl, by decide +kernel, by decide +kernel⟩
abbrev s__law_words : Stmt := top 34
abbrev N__law_words : List Str := []
theorem sc__law_words : FnScope N__law_words [] (defScope s__law_words) := ⟨rfl, rfl, rfl, by decide +kernel, rfl, by decide +kernel, by decide +kernel⟩
abbrev s__law_parts : Stmt := top 35
abbrev N__law_parts : List Str := ["_law_hand_here", "_law_many", "_law_changes", "_law_forks", "_law_joins", "_law_looks", "_law_stamp", "_law_other"]
theorem sc__law_parts : FnScope N__law_parts ["_law_hand_here", "_law_many"] (defScope s__law_parts) := ⟨rfl, rfl, rfl, by decide +kernel, rfl, by decide +kernel, by decide +kernel⟩
abbrev s__law_book : Stmt := top 36
abbrev N__law_book : List Str := ["_law_parts_here"]
theorem sc__law_book : FnScope N__law_book ["_law_parts_here"] (defScope s__law_book) := ⟨rfl, rfl, rfl, by decide +kernel, rfl, by decide +kernel, by decide +kernel⟩
abbrev s__law_number : Stmt := top 37
abbrev N__law_number : List Str := ["_law_word", "_law_sign"]
theorem sc__law_number : FnScope N__law_number ["_law_word"] (defScope s__law_number) := ⟨rfl, rfl, rfl, by decide +kernel, rfl, by decide +kernel, by decide +kernel⟩
abbrev s__law_numbers : Stmt := top 38
abbrev N__law_numbers : List Str := ["_law_words_here", "_law_many", "_law_found", "_law_word", "_law_number_here"]
theorem sc__law_numbers : FnScope N__law_numbers ["_law_words_here", "_law_many"] (defScope s__law_numbers) := ⟨rfl, rfl, rfl, by decide +kernel, rfl, by decide +kernel, by decide +kernel⟩
abbrev s__law_book_text : Stmt := top 39
abbrev N__law_book_text : List Str := ["_law_parts_here", "_law_many", "_law_lines", "_law_stamp", "_law_one", "_law_word"]
theorem sc__law_book_text : FnScope N__law_book_text ["_law_parts_here"] (defScope s__law_book_text) := ⟨rfl, rfl, rfl, by decide +kernel, rfl, by decide +kernel, by decide +kernel⟩
abbrev s__law_first_line : Stmt := top 40
abbrev N__law_first_line : List Str := ["_law_line", "_law_words_here", "_law_many", "_law_first"]
theorem sc__law_first_line : FnScope N__law_first_line ["_law_line"] (defScope s__law_first_line) := ⟨rfl, rfl, rfl, by decide +kernel, rfl, by decide +kernel, by decide +kernel⟩
abbrev s__law_row_of : Stmt := top 41
abbrev N__law_row_of : List Str := ["_law_line", "_law_word", "_law_stamp", "_law_many", "_law_wide", "_law_words_here", "_law_found"]
theorem sc__law_row_of : FnScope N__law_row_of ["_law_line", "_law_word", "_law_stamp", "_law_many", "_law_wide"] (defScope s__law_row_of) := ⟨rfl, rfl, rfl, by decide +kernel, rfl, by decide +kernel, by decide +kernel⟩
abbrev s__law_looks_of : Stmt := top 42
abbrev N__law_looks_of : List Str := ["_law_line", "_law_stamp", "_law_many", "_law_words_here", "_law_word"]
theorem sc__law_looks_of : FnScope N__law_looks_of ["_law_line", "_law_stamp", "_law_many"] (defScope s__law_looks_of) := ⟨rfl, rfl, rfl, by decide +kernel, rfl, by decide +kernel, by decide +kernel⟩
abbrev s__law_read_rows : Stmt := top 43
abbrev N__law_read_rows : List Str := ["_law_lines", "_law_many", "_law_found", "_law_at", "_law_word", "_law_wide", "_law_row"]
theorem sc__law_read_rows : FnScope N__law_read_rows ["_law_lines", "_law_many"] (defScope s__law_read_rows) := ⟨rfl, rfl, rfl, by decide +kernel, rfl, by decide +kernel, by decide +kernel⟩
abbrev s__law_read_book : Stmt := top 44
abbrev N__law_read_book : List Str := ["_law_text", "_law_lines", "_law_begin", "_law_many", "_law_word", "_law_rows", "_law_looks", "_law_stamp", "_law_at", "_law_row", "_law_changes", "_law_joins"]
theorem sc__law_read_book : FnScope N__law_read_book ["_law_text"] (defScope s__law_read_book) := ⟨rfl, rfl, rfl, by decide +kernel, rfl, by decide +kernel, by decide +kernel⟩
abbrev s__law_told : Stmt := top 45
abbrev N__law_told : List Str := ["_law_text", "_law_found", "_law_book_here", "e"]
theorem sc__law_told : FnScope N__law_told ["_law_text"] (defScope s__law_told) := ⟨rfl, rfl, rfl, by decide +kernel, rfl, by decide +kernel, by decide +kernel⟩
abbrev s__law_bent : Stmt := top 46
abbrev N__law_bent : List Str := ["_law_hand_here", "_law_text", "_law_at", "_law_sign", "_law_lines", "_law_line", "_law_things", "_law_first"]
theorem sc__law_bent : FnScope N__law_bent ["_law_hand_here", "_law_text"] (defScope s__law_bent) := ⟨rfl, rfl, rfl, by decide +kernel, rfl, by decide +kernel, by decide +kernel⟩
abbrev s__law_great_right : Stmt := top 47
abbrev N__law_great_right : List Str := ["_law_hand_here", "_law_nexts", "_law_rows", "_law_looks", "_law_parts_here", "_law_text", "_law_stamp"]
theorem sc__law_great_right : FnScope N__law_great_right ["_law_hand_here"] (defScope s__law_great_right) := ⟨rfl, rfl, rfl, by decide +kernel, rfl, by decide +kernel, by decide +kernel⟩
abbrev s_law : Stmt := top 48
abbrev N_law : List Str := ["_law_script", "_law_hand_here", "_law_turn", "_law_many", "_law_parts_here", "_law_text", "_law_book_here", "_law_short", "_law_again", "_law_bent_here", "_law_change", "_law_odd"]
theorem sc_law : FnScope N_law ["_law_script"] (defScope s_law) := ⟨rfl, rfl, rfl, by decide +kernel, rfl, by decide +kernel, by decide +kernel⟩
abbrev s_BadText___init__ : Stmt := mth 3 0
abbrev N_BadText___init__ : List Str := ["self", "line"]
theorem sc_BadText___init__ : FnScope N_BadText___init__ ["self", "line"] (defScope s_BadText___init__) := ⟨rfl, rfl, rfl, by decide +kernel, rfl, by decide +kernel, by decide +kernel⟩
abbrev s_Book___init__ : Stmt := mth 11 0
abbrev N_Book___init__ : List Str := ["self", "first", "changes", "forks", "joins", "looks", "part"]
theorem sc_Book___init__ : FnScope N_Book___init__ ["self", "first", "changes", "forks", "joins", "looks"] (defScope s_Book___init__) := ⟨rfl, rfl, rfl, by decide +kernel, rfl, by decide +kernel, by decide +kernel⟩
abbrev s_Book___eq__ : Stmt := mth 11 1
abbrev N_Book___eq__ : List Str := ["self", "other"]
theorem sc_Book___eq__ : FnScope N_Book___eq__ ["self", "other"] (defScope s_Book___eq__) := ⟨rfl, rfl, rfl, by decide +kernel, rfl, by decide +kernel, by decide +kernel⟩
abbrev words : List Str := ["same", "newer", "elder", "apart"]
structure Txt (K : PySem.W.Frag) (mg : Str → Option Value) (cCopyError cBadText cBook : Addr) : Prop where
  b_ValueError : mg "ValueError" = none
  b_abs : mg "abs" = none
  b_all : mg "all" = none
  b_any : mg "any" = none
  b_bool : mg "bool" = none
  b_dict : mg "dict" = none
  b_enumerate : mg "enumerate" = none
  b_int : mg "int" = none
  b_isinstance : mg "isinstance" = none
  b_len : mg "len" = none
  b_list : mg "list" = none
  b_max : mg "max" = none
  b_min : mg "min" = none
  b_range : mg "range" = none
  b_set : mg "set" = none
  b_sorted : mg "sorted" = none
  b_str : mg "str" = none
  b_sum : mg "sum" = none
  b_tuple : mg "tuple" = none
  b_type : mg "type" = none
  d_is_integer : ∃ f fd, Fun K "is_integer" "is_integer" s_is_integer f fd ∧ mg "is_integer" = some (.ref f) ∧ PySem.W.keepIn K (.ref f) = true ∧ Binds K fd ["thing"] []
  d_is_between : ∃ f fd, Fun K "is_between" "is_between" s_is_between f fd ∧ mg "is_between" = some (.ref f) ∧ PySem.W.keepIn K (.ref f) = true ∧ Binds K fd ["thing", "least", "most"] []
  d_is_tuple_of : ∃ f fd, Fun K "is_tuple_of" "is_tuple_of" s_is_tuple_of f fd ∧ mg "is_tuple_of" = some (.ref f) ∧ PySem.W.keepIn K (.ref f) = true ∧ Binds K fd ["thing", "length"] []
  d_are_stamps : ∃ f fd, Fun K "are_stamps" "are_stamps" s_are_stamps f fd ∧ mg "are_stamps" = some (.ref f) ∧ PySem.W.keepIn K (.ref f) = true ∧ Binds K fd ["thing", "length", "many"] []
  d_are_rows : ∃ f fd, Fun K "are_rows" "are_rows" s_are_rows f fd ∧ mg "are_rows" = some (.ref f) ∧ PySem.W.keepIn K (.ref f) = true ∧ Binds K fd ["thing", "length", "many"] []
  d_are_words : ∃ f fd, Fun K "are_words" "are_words" s_are_words f fd ∧ mg "are_words" = some (.ref f) ∧ PySem.W.keepIn K (.ref f) = true ∧ Binds K fd ["thing", "length"] []
  d_are_looks : ∃ f fd, Fun K "are_looks" "are_looks" s_are_looks f fd ∧ mg "are_looks" = some (.ref f) ∧ PySem.W.keepIn K (.ref f) = true ∧ Binds K fd ["thing", "many"] []
  d_wrong_part : ∃ f fd, Fun K "wrong_part" "wrong_part" s_wrong_part f fd ∧ mg "wrong_part" = some (.ref f) ∧ PySem.W.keepIn K (.ref f) = true ∧ Binds K fd ["first", "changes", "forks", "joins", "looks"] []
  d_line_of : ∃ f fd, Fun K "line_of" "line_of" s_line_of f fd ∧ mg "line_of" = some (.ref f) ∧ PySem.W.keepIn K (.ref f) = true ∧ Binds K fd ["words"] []
  d_table_lines : ∃ f fd, Fun K "table_lines" "table_lines" s_table_lines f fd ∧ mg "table_lines" = some (.ref f) ∧ PySem.W.keepIn K (.ref f) = true ∧ Binds K fd ["word", "rows"] []
  d_book_text : ∃ f fd, Fun K "book_text" "book_text" s_book_text f fd ∧ mg "book_text" = some (.ref f) ∧ PySem.W.keepIn K (.ref f) = true ∧ Binds K fd ["book"] []
  d_check_text : ∃ f fd, Fun K "check_text" "check_text" s_check_text f fd ∧ mg "check_text" = some (.ref f) ∧ PySem.W.keepIn K (.ref f) = true ∧ Binds K fd ["thing"] []
  d_number_in : ∃ f fd, Fun K "number_in" "number_in" s_number_in f fd ∧ mg "number_in" = some (.ref f) ∧ PySem.W.keepIn K (.ref f) = true ∧ Binds K fd ["word"] []
  d_read_head : ∃ f fd, Fun K "read_head" "read_head" s_read_head f fd ∧ mg "read_head" = some (.ref f) ∧ PySem.W.keepIn K (.ref f) = true ∧ Binds K fd ["line"] []
  d_read_table : ∃ f fd, Fun K "read_table" "read_table" s_read_table f fd ∧ mg "read_table" = some (.ref f) ∧ PySem.W.keepIn K (.ref f) = true ∧ Binds K fd ["lines", "begin", "word", "length", "meanings", "many"] []
  d_read_book : ∃ f fd, Fun K "read_book" "read_book" s_read_book f fd ∧ mg "read_book" = some (.ref f) ∧ PySem.W.keepIn K (.ref f) = true ∧ Binds K fd ["text"] []
  d__law_hand : ∃ f fd, Fun K "_law_hand" "_law_hand" s__law_hand f fd ∧ mg "_law_hand" = some (.ref f) ∧ PySem.W.keepIn K (.ref f) = true ∧ Binds K fd ["_law_script"] []
  d__law_draw : ∃ f fd, Fun K "_law_draw" "_law_draw" s__law_draw f fd ∧ mg "_law_draw" = some (.ref f) ∧ PySem.W.keepIn K (.ref f) = true ∧ Binds K fd ["_law_hand_here", "_law_many"] []
  d__law_some : ∃ f fd, Fun K "_law_some" "_law_some" s__law_some f fd ∧ mg "_law_some" = some (.ref f) ∧ PySem.W.keepIn K (.ref f) = true ∧ Binds K fd ["_law_hand_here", "_law_things"] []
  d__law_is : ∃ f fd, Fun K "_law_is" "_law_is" s__law_is f fd ∧ mg "_law_is" = some (.ref f) ∧ PySem.W.keepIn K (.ref f) = true ∧ Binds K fd ["_law_told_here", "_law_due"] []
  d__law_deep : ∃ f fd, Fun K "_law_deep" "_law_deep" s__law_deep f fd ∧ mg "_law_deep" = some (.ref f) ∧ PySem.W.keepIn K (.ref f) = true ∧ Binds K fd ["_law_kind"] []
  d__law_words : ∃ f fd, Fun K "_law_words" "_law_words" s__law_words f fd ∧ mg "_law_words" = some (.ref f) ∧ PySem.W.keepIn K (.ref f) = true ∧ Binds K fd [] []
  d__law_parts : ∃ f fd, Fun K "_law_parts" "_law_parts" s__law_parts f fd ∧ mg "_law_parts" = some (.ref f) ∧ PySem.W.keepIn K (.ref f) = true ∧ Binds K fd ["_law_hand_here", "_law_many"] []
  d__law_book : ∃ f fd, Fun K "_law_book" "_law_book" s__law_book f fd ∧ mg "_law_book" = some (.ref f) ∧ PySem.W.keepIn K (.ref f) = true ∧ Binds K fd ["_law_parts_here"] []
  d__law_number : ∃ f fd, Fun K "_law_number" "_law_number" s__law_number f fd ∧ mg "_law_number" = some (.ref f) ∧ PySem.W.keepIn K (.ref f) = true ∧ Binds K fd ["_law_word"] []
  d__law_numbers : ∃ f fd, Fun K "_law_numbers" "_law_numbers" s__law_numbers f fd ∧ mg "_law_numbers" = some (.ref f) ∧ PySem.W.keepIn K (.ref f) = true ∧ Binds K fd ["_law_words_here", "_law_many"] []
  d__law_book_text : ∃ f fd, Fun K "_law_book_text" "_law_book_text" s__law_book_text f fd ∧ mg "_law_book_text" = some (.ref f) ∧ PySem.W.keepIn K (.ref f) = true ∧ Binds K fd ["_law_parts_here"] []
  d__law_first_line : ∃ f fd, Fun K "_law_first_line" "_law_first_line" s__law_first_line f fd ∧ mg "_law_first_line" = some (.ref f) ∧ PySem.W.keepIn K (.ref f) = true ∧ Binds K fd ["_law_line"] []
  d__law_row_of : ∃ f fd, Fun K "_law_row_of" "_law_row_of" s__law_row_of f fd ∧ mg "_law_row_of" = some (.ref f) ∧ PySem.W.keepIn K (.ref f) = true ∧ Binds K fd ["_law_line", "_law_word", "_law_stamp", "_law_many", "_law_wide"] []
  d__law_looks_of : ∃ f fd, Fun K "_law_looks_of" "_law_looks_of" s__law_looks_of f fd ∧ mg "_law_looks_of" = some (.ref f) ∧ PySem.W.keepIn K (.ref f) = true ∧ Binds K fd ["_law_line", "_law_stamp", "_law_many"] []
  d__law_read_rows : ∃ f fd, Fun K "_law_read_rows" "_law_read_rows" s__law_read_rows f fd ∧ mg "_law_read_rows" = some (.ref f) ∧ PySem.W.keepIn K (.ref f) = true ∧ Binds K fd ["_law_lines", "_law_many"] []
  d__law_read_book : ∃ f fd, Fun K "_law_read_book" "_law_read_book" s__law_read_book f fd ∧ mg "_law_read_book" = some (.ref f) ∧ PySem.W.keepIn K (.ref f) = true ∧ Binds K fd ["_law_text"] []
  d__law_told : ∃ f fd, Fun K "_law_told" "_law_told" s__law_told f fd ∧ mg "_law_told" = some (.ref f) ∧ PySem.W.keepIn K (.ref f) = true ∧ Binds K fd ["_law_text"] []
  d__law_bent : ∃ f fd, Fun K "_law_bent" "_law_bent" s__law_bent f fd ∧ mg "_law_bent" = some (.ref f) ∧ PySem.W.keepIn K (.ref f) = true ∧ Binds K fd ["_law_hand_here", "_law_text"] []
  d__law_great_right : ∃ f fd, Fun K "_law_great_right" "_law_great_right" s__law_great_right f fd ∧ mg "_law_great_right" = some (.ref f) ∧ PySem.W.keepIn K (.ref f) = true ∧ Binds K fd ["_law_hand_here"] []
  d_law : ∃ f fd, Fun K "law" "law" s_law f fd ∧ mg "law" = some (.ref f) ∧ PySem.W.keepIn K (.ref f) = true ∧ Binds K fd ["_law_script"] []
  d_Book___init__ : ∃ f fd, Fun K "__init__" "Book.__init__" s_Book___init__ f fd ∧ L2.Mk K cBook f ∧ mg "Book" = some (.ref cBook) ∧ Binds K fd ["self", "first", "changes", "forks", "joins", "looks"] []
  d_Book___eq__ : ∃ f fd, Fun K "__eq__" "Book.__eq__" s_Book___eq__ f fd ∧ PySem.W.findIn K (.ref cBook) "__eq__" = some (some (.ref f)) ∧ PySem.W.isFn K (.ref f) = true ∧ Binds K fd ["self", "other"] [] ∧ PySem.W.mroIn K cBook (.type "object") = some true ∧ PySem.W.findIn K (.ref cBook) "__ne__" = some (some (.builtin "object.__ne__"))
  d_BadText___init__ : ∃ f fd, Fun K "__init__" "BadText.__init__" s_BadText___init__ f fd ∧ ErrF K cBadText "line" f ∧ Binds K fd ["self", "line"] []
  k_WORDS : Kst K mg "WORDS" (.tup (words.map .str))
  k_MOST_STAMPS : Kst K mg "MOST_STAMPS" (.int 400)
  k_DIGITS : Kst K mg "DIGITS" (.str "0123456789")
  k_MOST_FIGURES : Kst K mg "MOST_FIGURES" (.int 9)
  f_first : ∀ C, C = cBook → Cls K C ∧ NoAttr K C "first"
  f_changes : ∀ C, C = cBook → Cls K C ∧ NoAttr K C "changes"
  f_forks : ∀ C, C = cBook → Cls K C ∧ NoAttr K C "forks"
  f_joins : ∀ C, C = cBook → Cls K C ∧ NoAttr K C "joins"
  f_looks : ∀ C, C = cBook → Cls K C ∧ NoAttr K C "looks"
  c_Book : mg "Book" = some (.ref cBook)
  o_Book : InsO K cBook
  s_Book : InsT K cBook "str"
  n_Book : PySem.W.notFirst K cBook (.ref cBook) = true
  c_BadText : mg "BadText" = some (.ref cBadText)
  c_CopyError : mg "CopyError" = some (.ref cCopyError)
  em_Copy : ∀ C ∈ [cBadText], PySem.W.exmOne K (.ref C) (.ref cCopyError) = some true
  xiT : ExcI K cBadText
  kitT : KitOf K cBadText (ktTab [(.ty "ValueError", true), (.cls cBadText, true)])
  xf : XfC K cBadText
  nof : PySem.W.findIn K (.ref cBadText) "line" = some none
section
variable {cCopyError cBadText cBook : Addr} {P : Program} {w : World} {K : PySem.W.Frag} {mg : Str → Option Value} {base : Heap}
theorem with_nx {tb : DTS} {nx bk ct : Rho → Store → Prop} {rt : D → Store → Prop} {ex : Exc → Rho → Store → Prop} {ρ : Rho} {S : Store} (P : (Rho → Store → Prop) → Prop) (h1 : ∀ NX, P NX → tb ⟨NX, rt, bk, ct, ex⟩ ρ S) (h2 : P nx) : tb ⟨nx, rt, bk, ct, ex⟩ ρ S := h1 _ h2
def Kept (N : List Nat) (S S' : Store) : Prop := S'.length = S.length ∧ ∀ (m : Nat), m ∉ N → S'[m]? = S[m]?
theorem Kept.refl {N : List Nat} {S : Store} : Kept N S S := ⟨rfl, fun _ _ => rfl⟩
theorem Kept.trans {N : List Nat} {S S1 S2 : Store} (h : Kept N S S1) (k : Kept N S1 S2) : Kept N S S2 := ⟨k.1.trans h.1, fun m hm => (k.2 m hm).trans (h.2 m hm)⟩
def absD : D → D
  | .int i => .int (if i < 0 then -i else i)
  | d => d
def handL (cs : List Int) (i : Nat) (big st k : Int) : SO := .lst [.lst (cs.map .int), .int (i : Int), .int big, .int st, .int k]
def HandAt (S : Store) (n : Nat) : Prop := ∃ (cs : List Int) (i : Nat) (big st k : Int), S[n]? = some (handL cs i big st k)
def spDraw : DSp := fun ds S Q E => ∃ n many, ds = [.ref n, .int many] ∧ HandAt S n ∧ 0 < many ∧ many.natAbs.log2 < 9000 ∧ ∀ r S', 0 ≤ r → r < many → HandAt S' n → Kept [n] S S' → Q (.int r) S'
theorem ok__law_draw (T : Txt K mg cCopyError cBadText cBook) : Cal P w K mg base "_law_draw" 1 ["_law_hand_here", "_law_many"] spDraw := by
  obtain ⟨f, fd, A, hm, hk, hb⟩ := T.d__law_draw
  refine ⟨f, fd, dfn A sc__law_draw (by intro ds S Q E h; obtain ⟨_, _, rfl, _⟩ := h; rfl) (fun cdv A outer s H E hr => ⟨_, (ds_cons (ds_if (DW.dt (dw_and (dt_cmp (oq_eq fun _ => hr) lk_eq (de_at (de_var 0) de_int) de_int (nomark _)) (dw_and1 (dt_cmp (fun _ => op_lt) lk_lt (de_at (de_var 0) de_int) (dc_len (fun _ => T.b_len) (da_cons (de_at (de_var 0) de_int) da_nil)) (nomark _)))))
    (ds_cons (ds_set 2 (fun _ => sc__law_draw.nd) (de_at (de_at (de_var 0) de_int) (de_at (de_var 0) de_int)))
    (ds_cons (ds_setL (de_add (de_at (de_var 0) de_int) de_int) (de_var 0) de_int)
    (ds_cons (ds_setL (de_mod (dc_int (fun _ => T.b_int) (da_cons (de_add (de_add (de_mul (de_at (de_var 0) de_int) de_int) (de_var 2)) de_int) da_nil)) de_int) (de_var 0) de_int)
    (ds_one (ds_if (dt_cmp (fun _ => op_ge) lk_ge (de_var 2) (de_pow de_int de_int) (nomark _))
    (ds_one (ds_setL (de_var 2) (de_var 0) de_int))
    ds_nil)))))
    ds_nil)
    (ds_cons (ds_if (dt_cmp (fun _ => op_gt) lk_gt (de_at (de_var 0) de_int) de_int (nomark _))
    (ds_cons (ds_set 3 (fun _ => sc__law_draw.nd) (de_mod (dc_int (fun _ => T.b_int) (da_cons (de_at (de_var 0) de_int) da_nil)) (de_var 1)))
    (ds_cons (ds_setL (de_fdiv (de_at (de_var 0) de_int) (de_var 1)) (de_var 0) de_int)
    (ds_one (ds_ret (de_var 3)))))
    ds_nil)
    (ds_cons (ds_setL (de_add (de_at (de_var 0) de_int) de_int) (de_var 0) de_int)
    (ds_cons (ds_set 4 (fun _ => sc__law_draw.nd) (de_mod (dc_int (fun _ => T.b_int) (da_cons (de_mul (dc_int (fun _ => T.b_int) (da_cons (de_add (de_at (de_var 0) de_int) (de_mul de_int (de_at (de_var 0) de_int))) da_nil)) de_int) da_nil)) de_int))
    (ds_cons (ds_set 4 (fun _ => sc__law_draw.nd) (de_mod (dc_int (fun _ => T.b_int) (da_cons (de_mul (de_var 4) (de_add (de_fdiv (de_var 4) de_int) de_int)) da_nil)) de_int))
    (ds_cons (ds_set 4 (fun _ => sc__law_draw.nd) (de_mod (dc_int (fun _ => T.b_int) (da_cons (de_mul (de_var 4) (de_add (de_fdiv (de_var 4) de_int) de_int)) da_nil)) de_int))
    (ds_one (ds_ret (de_mod (dc_int (fun _ => T.b_int) (da_cons (de_fdiv (de_var 4) de_int) da_nil)) (de_var 1)))))))))), fun ds S Q E h => ?_⟩), hm, hk, hb⟩
  obtain ⟨n, many, rfl, ⟨cs, i, big, st, kk, h1⟩, hm, hl, k⟩ := h
  unfold handL at h1
  have q1 : ∀ x : Int, 0 ≤ x % many := fun x => Int.emod_nonneg x (by omega : many ≠ 0)
  have q2 : ∀ x : Int, x % many < many := fun x => Int.emod_lt_of_pos x hm
  walk_at "go1"
  refine with_nx (fun NX => ∀ o3 S1, HandAt S1 n → Kept [n] S S1 → NX [some (.ref n), some (.int many), o3, none, none] S1) (fun NX hN => ?_) ?_
  · walk_at "go"
    rw [Bool.false_xor]
    refine ifD (fun c1 => ?_) (fun c1 => ?_)
    · walk_at "go"
      refine ifD (fun c2 => ?_) (fun c2 => ?_)
      · rw [List.length_map] at c2
        have hi : i < cs.length := by omega
        have ei : atI (cs.map D.int) (i : Int) = some (.int cs[i]) := by rw [atN, List.getElem?_map, List.getElem?_eq_getElem hi]; rfl
        walk_at "go"
        refine o_ix rfl ei ?_
        walk_at "go"
        intro S1 l1 e1 m1
        have e1 : S1[n]? = some (handL cs (i + 1) big st kk) := e1
        unfold handL at e1
        walk_at "go"
        intro S2 l2 e2 m2
        have k2 : Kept [n] S S2 := ⟨by omega, fun m hm => (m2 m fun e => hm (by simp [e])).trans (m1 m fun e => hm (by simp [e]))⟩
        have e2 : S2[n]? = some (handL cs (i + 1) big ((st * 69621 + cs[i] + 11) % 2147483629) kk) := e2
        walk_at "go"
        refine ifD (fun c3 => ?_) (fun c3 => ?_)
        · unfold handL at e2
          walk_at "go"
          intro S3 l3 e3 m3
          have e3 : S3[n]? = some (handL cs (i + 1) cs[i] ((st * 69621 + cs[i] + 11) % 2147483629) kk) := e3
          walk_at "go"
          exact hN _ _ ⟨_, _, _, _, _, e3⟩ ⟨by omega, fun m hm => (m3 m fun e => hm (by simp [e])).trans (k2.2 m hm)⟩
        · walk_at "go"
          exact hN _ _ ⟨_, _, _, _, _, e2⟩ k2
      · walk_at "go"
        exact hN _ _ ⟨_, _, _, _, _, h1⟩ .refl
    · walk_at "go"
      exact hN _ _ ⟨_, _, _, _, _, h1⟩ .refl
  · rintro o3 S1 ⟨cs, i, big, st, kk, h1⟩ k1
    unfold handL at h1
    walk_at "go"
    refine ifD (fun c1 => ?_) (fun c1 => ?_)
    · walk_at "go"
      intro S2 l2 e2 m2
      have e2 : S2[n]? = some (handL cs i (big / many) st kk) := e2
      walk_at "go"
      exact k _ _ (q1 _) (q2 _) ⟨_, _, _, _, _, e2⟩ (k1.trans ⟨l2, fun m hm => m2 m fun e => hm (by simp [e])⟩)
    · walk_at "go"
      intro S2 l2 e2 m2
      have e2' : S2[n]? = some (handL cs i big st (kk + 1)) := e2
      have e2 : S2[n]? = some (.lst [.lst (cs.map .int), .int (i : Int), .int big, .int st, .int (kk + 1)]) := e2
      walk_at "go"
      exact k _ _ (q1 _) (q2 _) ⟨_, _, _, _, _, e2'⟩ (k1.trans ⟨l2, fun m hm => m2 m fun e => hm (by simp [e])⟩)
/-- the state of the draws, made of the script -/
def spHand : DSp := fun ds S Q E => ∃ ns : List Int, ds = [.frz (ns.map .int)] ∧ ∀ S' n, HandAt S' n → S'.length = S.length + 1 → n = S.length → (∀ m : Nat, m < S.length → S'[m]? = S[m]?) → Q (.ref n) S'
theorem ok__law_hand (T : Txt K mg cCopyError cBadText cBook) : Cal P w K mg base "_law_hand" 1 ["_law_script"] spHand := by
  obtain ⟨f, fd, A, hm, hk, hb⟩ := T.d__law_hand
  refine ⟨f, fd, dfn A sc__law_hand (by intro ds S Q E h; obtain ⟨_, rfl, _⟩ := h; rfl) (fun cdv A outer s H E hr => ⟨_, (ds_cons (ds_setLc 1 (own := [("_law_cell", 2)]) (tgl_1 2) (fun _ => rfl) (fun _ => sc__law_hand.nd) (di_sq (de_slL (de_var 0) do_none (do_some de_int))) (fun _ => blkOk_by (N := N__law_hand) (sc := defScope s__law_hand) (by decide +kernel)) dts_nil (dc_abs (fun _ => T.b_abs) (da_cons (dc_int (fun _ => T.b_int) (da_cons (de_var 2) da_nil)) da_nil)) (fun _ => pg_name (i := 2) sc__law_hand.nd rfl (Or.inl rfl)) (fun _ => sw_true rfl rfl rfl (by decide +kernel)))
    (ds_one (ds_ret (de_new (da_cons (de_var 1) (da_cons de_int (da_cons de_int (da_cons (de_add de_int (dc_len (fun _ => T.b_len) (da_cons (de_var 1) da_nil))) (da_cons de_int da_nil))))))))), fun ds S Q E h => ?_⟩), hm, hk, hb⟩
  obtain ⟨ns, rfl, k⟩ := h
  walk_at "go"
  have cut : Dy.cutD (ns.map D.int) none (some 63) = (ns.take 63).map D.int := by rw [cut_take (by decide), ← List.map_take]; rfl
  rw [cut]
  generalize hms : ns.take 63 = ms
  have h63 : (ms.map D.int).length ≤ 63 := by rw [← hms]; simp; omega
  have asI : ∀ x ∈ ms.map D.int, ∃ i, x = D.int i := fun x m => by
    obtain ⟨i, _, rfl⟩ := List.mem_map.mp m
    exact ⟨i, rfl⟩
  refine o_lcM absD rfl (small (by omega)) (fun x m P hP => ?_) ?_
  · obtain ⟨i, rfl⟩ := asI x m
    walk_at "go"
    exact hP
  walk_at "go"
  obtain ⟨gs, hgs⟩ : ∃ gs : List Int, List.map absD (ms.map D.int) = gs.map .int := all_int fun x m => by
    obtain ⟨y, my, rfl⟩ := List.mem_map.mp m
    obtain ⟨i, rfl⟩ := asI y my
    exact ⟨_, rfl⟩
  rw [hgs]
  refine k _ _ ⟨gs, 0, 0, 1 + (gs.map D.int).length, 0, ?_⟩ (by simp) rfl fun m hm => ?_
  · rw [List.getElem?_append_right (Nat.le_refl _)]; simp; rfl
  · rw [List.getElem?_append_left hm]
def spAny : DSp := fun ds S Q E => ∃ n d xs, ds = [.ref n, d] ∧ HandAt S n ∧ (∀ S', Kept [n] S S' → sqOf S' d = some xs) ∧ xs ≠ [] ∧ xs.length ≤ sizeLine ∧ ∀ x S', x ∈ xs → HandAt S' n → Kept [n] S S' → Q x S'
theorem log_len {n : Nat} (h : n ≤ sizeLine) : ((n : Int)).natAbs.log2 < 9000 := by
  have e : ((n : Int)).natAbs = n := rfl
  rw [e]
  have : n < 2 ^ 64 := Nat.lt_of_le_of_lt h (by decide)
  exact Nat.lt_trans (PySem.Flt.log2_lt_of (by decide) this) (by decide)
theorem log_int {k : Int} (h0 : 0 ≤ k) (h : k ≤ 1000000000) : k.natAbs.log2 < 9000 := by
  obtain ⟨n, rfl⟩ := Int.eq_ofNat_of_zero_le h0
  have e : ((n : Int)).natAbs = n := rfl
  rw [e]
  have : n < 2 ^ 64 := Nat.lt_of_le_of_lt (show n ≤ 1000000000 by omega) (by decide)
  exact Nat.lt_trans (PySem.Flt.log2_lt_of (by decide) this) (by decide)
theorem at_in {α : Type} {xs : List α} {r : Int} (h0 : 0 ≤ r) (h : r < xs.length) : ∃ x, atI xs r = some x ∧ x ∈ xs := by
  obtain ⟨k, rfl⟩ := Int.eq_ofNat_of_zero_le h0
  have hk : k < xs.length := by omega
  exact ⟨xs[k], by rw [atN, List.getElem?_eq_getElem hk], List.getElem_mem hk⟩
theorem ok__law_some (T : Txt K mg cCopyError cBadText cBook) (c__law_draw : Cal P w K mg base "_law_draw" 1 ["_law_hand_here", "_law_many"] spDraw) : Cal P w K mg base "_law_some" 2 ["_law_hand_here", "_law_things"] spAny := by
  obtain ⟨f, fd, A, hm, hk, hb⟩ := T.d__law_some
  refine ⟨f, fd, dfn A sc__law_some (by intro ds S Q E h; obtain ⟨_, _, _, rfl, _⟩ := h; rfl) (fun cdv A outer s H E hr => ⟨_, (ds_one (ds_ret (de_at (de_var 1) (de_callC (fun _ => c__law_draw) (fun _ => hr) (by omega) (fun _ => bodyTk) (da_cons (de_var 0) (da_cons (dc_len (fun _ => T.b_len) (da_cons (de_var 1) da_nil)) da_nil)))))), fun ds S Q E h => ?_⟩), hm, hk, hb⟩
  obtain ⟨n, d, xs, rfl, hp, hd, hn, hz, k⟩ := h
  walk_at "go"
  refine o_len (hd S .refl) ?_
  walk_at "go"
  have : 0 < xs.length := List.length_pos_iff.mpr hn
  refine ⟨n, _, rfl, hp, by omega, log_len hz, fun r S' h0 h1 hp' kp => ?_⟩
  obtain ⟨x, hx, mx⟩ := at_in h0 h1
  exact o_ix (hd S' kp) hx (k x S' mx hp' kp)
theorem any_ok {n : Nat} {xs : List D} {S : Store} {Q : QD} {E : XQ} (hp : HandAt S n) (hne : xs ≠ []) (hz : xs.length ≤ 100000) (h : ∀ x S', x ∈ xs → HandAt S' n → Kept [n] S S' → Q x S') : spAny [.ref n, .lst xs] S Q E := ⟨n, .lst xs, xs, rfl, hp, fun _ _ => rfl, hne, small hz, h⟩
end
open PySem PySem.Spec PyProof.Rows L2 Dy
section
variable {cCopyError cBadText cBook : Addr} {P : Program} {w : World} {K : PySem.W.Frag} {mg : Str → Option Value} {base : Heap}
def isI : D → Bool
  | .int _ => true
  | _ => false
def btw (a b : Int) : D → Bool
  | .int i => decide (a ≤ i) && decide (i ≤ b)
  | _ => false
def tupN (n : Int) : D → Bool
  | .tup xs => decide ((xs.length : Int) = n)
  | _ => false
def allT (f : D → Bool) : D → Bool
  | .tup xs => xs.all f
  | _ => false
def stampsOk (n m : Int) (d : D) : Bool := tupN n d && allT (btw 0 (m - 1)) d
def rowsOk (n m : Int) (d : D) : Bool := tupN m d && allT (stampsOk n m) d
def wordsOk (n : Int) (d : D) : Bool := tupN n d && allT (inS words) d
def looksOk (m : Int) (d : D) : Bool := tupN m d && allT (wordsOk m) d
def spIsInt : DSp := fun ds S Q E => ∃ d, ds = [d] ∧ plainD d = true ∧ Q (.bl (isI d)) S
def spBtw : DSp := fun ds S Q E => ∃ d a b, ds = [d, .int a, .int b] ∧ plainD d = true ∧ Q (.bl (btw a b d)) S
def spTupOf : DSp := fun ds S Q E => ∃ d n, ds = [d, .int n] ∧ plainD d = true ∧ Q (.bl (tupN n d)) S
def spStamps : DSp := fun ds S Q E => ∃ d n m, ds = [d, .int n, .int m] ∧ Dat d ∧ Q (.bl (stampsOk n m d)) S
def spRows : DSp := fun ds S Q E => ∃ d n m, ds = [d, .int n, .int m] ∧ Dat d ∧ Q (.bl (rowsOk n m d)) S
def spWords : DSp := fun ds S Q E => ∃ d n, ds = [d, .int n] ∧ Dat d ∧ Q (.bl (wordsOk n d)) S
def spLooks : DSp := fun ds S Q E => ∃ d n, ds = [d, .int n] ∧ Dat d ∧ Q (.bl (looksOk n d)) S
theorem ok_is_integer (T : Txt K mg cCopyError cBadText cBook) : Cal P w K mg base "is_integer" 1 ["thing"] spIsInt := by
  obtain ⟨f, fd, A, hm, hk, hb⟩ := T.d_is_integer
  refine ⟨f, fd, dfn A sc_is_integer (by intro ds S Q E h; obtain ⟨_, rfl, _⟩ := h; rfl) (fun cdv A outer s H E hr => ⟨_, (ds_one (ds_ret (de_and (dc_isi (T := "int") (by decide) (by decide) (fun _ => T.b_isinstance) (da_cons (de_var 0) (da_cons (de_bltn (by intro _; rfl) (fun _ => T.b_int) bt_int (d := .ty "int") (v := .ty "int") rfl rfl) da_nil))) (de_one (de_not (dc_isi (T := "bool") (by decide) (by decide) (fun _ => T.b_isinstance) (da_cons (de_var 0) (da_cons (de_bltn (by intro _; rfl) (fun _ => T.b_bool) bt_bool (d := .ty "bool") (v := .ty "bool") rfl rfl) da_nil)))))))), fun ds S Q E h => ?_⟩), hm, hk, hb⟩
  obtain ⟨d, rfl, hd, h⟩ := h
  walk_at "go"
  cases d <;> first | exact h | (walk_at "go"; exact h) | cases hd
theorem ok_is_between (T : Txt K mg cCopyError cBadText cBook) (c_is_integer : Cal P w K mg base "is_integer" 1 ["thing"] spIsInt) : Cal P w K mg base "is_between" 2 ["thing", "least", "most"] spBtw := by
  obtain ⟨f, fd, A, hm, hk, hb⟩ := T.d_is_between
  refine ⟨f, fd, dfn A sc_is_between (by intro ds S Q E h; obtain ⟨_, _, _, rfl, _⟩ := h; rfl) (fun cdv A outer s H E hr => ⟨_, (ds_one (ds_ret (de_and (de_callC (fun _ => c_is_integer) (fun _ => hr) (by omega) (fun _ => bodyTk) (da_cons (de_var 0) da_nil)) (de_one (de_chain (fun _ => op_le) (fun _ => op_le) lk_le lk_le (de_var 1) (de_var 0) (de_var 2)))))), fun ds S Q E h => ?_⟩), hm, hk, hb⟩
  obtain ⟨d, a, b, rfl, hd, h⟩ := h
  walk_at "go"
  refine ⟨d, rfl, hd, ?_⟩
  walk_at "go"
  cases d <;> first
    | exact h
    | (rename_i i
       walk_at "go"
       refine ifD (fun c => ?_) (fun c => ?_)
       · walk_at "go"
         have h : Q (.bl (decide (a ≤ i) && decide (i ≤ b))) S := h
         rw [decide_eq_true c, Bool.true_and] at h
         exact h
       · have h : Q (.bl (decide (a ≤ i) && decide (i ≤ b))) S := h
         rw [decide_eq_false c, Bool.false_and] at h
         exact h)
theorem ok_is_tuple_of (T : Txt K mg cCopyError cBadText cBook) : Cal P w K mg base "is_tuple_of" 1 ["thing", "length"] spTupOf := by
  obtain ⟨f, fd, A, hm, hk, hb⟩ := T.d_is_tuple_of
  refine ⟨f, fd, dfn A sc_is_tuple_of (by intro ds S Q E h; obtain ⟨_, _, rfl, _⟩ := h; rfl) (fun cdv A outer s H E hr => ⟨_, (ds_one (ds_ret (de_and (dc_isi (T := "tuple") (by decide) (by decide) (fun _ => T.b_isinstance) (da_cons (de_var 0) (da_cons (de_bltn (by intro _; rfl) (fun _ => T.b_tuple) bt_tuple (d := .ty "tuple") (v := .ty "tuple") rfl rfl) da_nil))) (de_one (de_cmp (oq_eq fun _ => hr) lk_eq (dc_len (fun _ => T.b_len) (da_cons (de_var 0) da_nil)) (de_var 1) (nomark _)))))), fun ds S Q E h => ?_⟩), hm, hk, hb⟩
  obtain ⟨d, n, rfl, hd, h⟩ := h
  walk_at "go"
  cases d <;> first
    | exact h
    | (rename_i xs
       walk_at "go"
       rw [Bool.false_xor]
       exact h)
theorem ok_are_stamps (T : Txt K mg cCopyError cBadText cBook) (c_is_tuple_of : Cal P w K mg base "is_tuple_of" 1 ["thing", "length"] spTupOf) (c_is_between : Cal P w K mg base "is_between" 2 ["thing", "least", "most"] spBtw) : Cal P w K mg base "are_stamps" 3 ["thing", "length", "many"] spStamps := by
  obtain ⟨f, fd, A, hm, hk, hb⟩ := T.d_are_stamps
  refine ⟨f, fd, dfn A sc_are_stamps (by intro ds S Q E h; obtain ⟨_, _, _, rfl, _⟩ := h; rfl) (fun cdv A outer s H E hr => ⟨_, (ds_one (ds_ret (de_and (de_callC (fun _ => c_is_tuple_of) (fun _ => hr) (by omega) (fun _ => bodyTk) (da_cons (de_var 0) (da_cons (de_var 1) da_nil))) (de_one (dc_all (fun _ => rfl) (fun _ => T.b_all) (da_cons (de_lc 3 (fun _ => rfl) (fun _ => sc_are_stamps.nd) (di_sq (de_var 0)) (fun _ => blkOk_by (N := N_are_stamps) (sc := defScope s_are_stamps) (by decide +kernel)) dts_nil (de_callC (fun _ => c_is_between) (fun _ => hr) (by omega) (fun _ => takes0) (da_cons (de_var 3) (da_cons de_int (da_cons (de_sub (de_var 2) de_int) da_nil)))) (fun _ => pg_name (i := 3) sc_are_stamps.nd rfl (Or.inl rfl))) da_nil)))))), fun ds S Q E h => ?_⟩), hm, hk, hb⟩
  obtain ⟨d, n, m, rfl, hd, h⟩ := h
  walk_at "go"
  refine ⟨d, n, rfl, hd.plain, ?_⟩
  walk_at "go"
  unfold stampsOk at h
  refine ifB (fun e => ?_) (fun e => ?_)
  · rw [e, Bool.true_and] at h
    cases d with
    | tup xs =>
      cases hd with
      | tup hx hz =>
      walk_at "go"
      refine o_lcM _ rfl (small (by omega)) (fun x mx Pz hP => ?_) (o_all (g := btw 0 (m - 1)) h)
      walk_at "go"
      exact ⟨x, 0, m - 1, rfl, (hx x mx).plain, hP⟩
    | _ => cases e
  · rw [e, Bool.false_and] at h
    exact h
theorem ok_are_rows (T : Txt K mg cCopyError cBadText cBook) (c_is_tuple_of : Cal P w K mg base "is_tuple_of" 1 ["thing", "length"] spTupOf) (c_are_stamps : Cal P w K mg base "are_stamps" 3 ["thing", "length", "many"] spStamps) : Cal P w K mg base "are_rows" 4 ["thing", "length", "many"] spRows := by
  obtain ⟨f, fd, A, hm, hk, hb⟩ := T.d_are_rows
  refine ⟨f, fd, dfn A sc_are_rows (by intro ds S Q E h; obtain ⟨_, _, _, rfl, _⟩ := h; rfl) (fun cdv A outer s H E hr => ⟨_, (ds_one (ds_ret (de_and (de_callC (fun _ => c_is_tuple_of) (fun _ => hr) (by omega) (fun _ => bodyTk) (da_cons (de_var 0) (da_cons (de_var 2) da_nil))) (de_one (dc_all (fun _ => rfl) (fun _ => T.b_all) (da_cons (de_lc 3 (fun _ => rfl) (fun _ => sc_are_rows.nd) (di_sq (de_var 0)) (fun _ => blkOk_by (N := N_are_rows) (sc := defScope s_are_rows) (by decide +kernel)) dts_nil (de_callC (fun _ => c_are_stamps) (fun _ => hr) (by omega) (fun _ => takes0) (da_cons (de_var 3) (da_cons (de_var 1) (da_cons (de_var 2) da_nil)))) (fun _ => pg_name (i := 3) sc_are_rows.nd rfl (Or.inl rfl))) da_nil)))))), fun ds S Q E h => ?_⟩), hm, hk, hb⟩
  obtain ⟨d, n, m, rfl, hd, h⟩ := h
  walk_at "go"
  refine ⟨d, m, rfl, hd.plain, ?_⟩
  walk_at "go"
  unfold rowsOk at h
  refine ifB (fun e => ?_) (fun e => ?_)
  · rw [e, Bool.true_and] at h
    cases d with
    | tup xs =>
      cases hd with
      | tup hx hz =>
      walk_at "go"
      refine o_lcM _ rfl (small (by omega)) (fun x mx Pz hP => ?_) (o_all (g := stampsOk n m) h)
      walk_at "go"
      exact ⟨x, n, m, rfl, hx x mx, hP⟩
    | _ => cases e
  · rw [e, Bool.false_and] at h
    exact h
theorem ok_are_words (T : Txt K mg cCopyError cBadText cBook) (c_is_tuple_of : Cal P w K mg base "is_tuple_of" 1 ["thing", "length"] spTupOf) : Cal P w K mg base "are_words" 2 ["thing", "length"] spWords := by
  obtain ⟨f, fd, A, hm, hk, hb⟩ := T.d_are_words
  refine ⟨f, fd, dfn A sc_are_words (by intro ds S Q E h; obtain ⟨_, _, rfl, _⟩ := h; rfl) (fun cdv A outer s H E hr => ⟨_, (ds_one (ds_ret (de_and (de_callC (fun _ => c_is_tuple_of) (fun _ => hr) (by omega) (fun _ => bodyTk) (da_cons (de_var 0) (da_cons (de_var 1) da_nil))) (de_one (dc_all (fun _ => rfl) (fun _ => T.b_all) (da_cons (de_lc 2 (fun _ => rfl) (fun _ => sc_are_words.nd) (di_sq (de_var 0)) (fun _ => blkOk_by (N := N_are_words) (sc := defScope s_are_words) (by decide +kernel)) dts_nil (de_cmp (oq_inX fun _ => hr) lk_inX (de_var 2) (de_k (fun _ => rfl) T.k_WORDS) (by rfl)) (fun _ => pg_name (i := 2) sc_are_words.nd rfl (Or.inl rfl))) da_nil)))))), fun ds S Q E h => ?_⟩), hm, hk, hb⟩
  obtain ⟨d, n, rfl, hd, h⟩ := h
  walk_at "go"
  refine ⟨d, n, rfl, hd.plain, ?_⟩
  walk_at "go"
  unfold wordsOk at h
  refine ifB (fun e => ?_) (fun e => ?_)
  · rw [e, Bool.true_and] at h
    cases d with
    | tup xs =>
      cases hd with
      | tup hx hz =>
      walk_at "go"
      refine o_lcM _ rfl (small (by omega)) (fun x mx Pz hP => ?_) (o_all (g := inS words) h)
      walk_at "go"
      refine o_inS (xs := words) rfl (hx x mx).plain ?_
      rw [Bool.false_xor]
      exact hP
    | _ => cases e
  · rw [e, Bool.false_and] at h
    exact h
theorem ok_are_looks (T : Txt K mg cCopyError cBadText cBook) (c_is_tuple_of : Cal P w K mg base "is_tuple_of" 1 ["thing", "length"] spTupOf) (c_are_words : Cal P w K mg base "are_words" 2 ["thing", "length"] spWords) : Cal P w K mg base "are_looks" 3 ["thing", "many"] spLooks := by
  obtain ⟨f, fd, A, hm, hk, hb⟩ := T.d_are_looks
  refine ⟨f, fd, dfn A sc_are_looks (by intro ds S Q E h; obtain ⟨_, _, rfl, _⟩ := h; rfl) (fun cdv A outer s H E hr => ⟨_, (ds_one (ds_ret (de_and (de_callC (fun _ => c_is_tuple_of) (fun _ => hr) (by omega) (fun _ => bodyTk) (da_cons (de_var 0) (da_cons (de_var 1) da_nil))) (de_one (dc_all (fun _ => rfl) (fun _ => T.b_all) (da_cons (de_lc 2 (fun _ => rfl) (fun _ => sc_are_looks.nd) (di_sq (de_var 0)) (fun _ => blkOk_by (N := N_are_looks) (sc := defScope s_are_looks) (by decide +kernel)) dts_nil (de_callC (fun _ => c_are_words) (fun _ => hr) (by omega) (fun _ => takes0) (da_cons (de_var 2) (da_cons (de_var 1) da_nil))) (fun _ => pg_name (i := 2) sc_are_looks.nd rfl (Or.inl rfl))) da_nil)))))), fun ds S Q E h => ?_⟩), hm, hk, hb⟩
  obtain ⟨d, n, rfl, hd, h⟩ := h
  walk_at "go"
  refine ⟨d, n, rfl, hd.plain, ?_⟩
  walk_at "go"
  unfold looksOk at h
  refine ifB (fun e => ?_) (fun e => ?_)
  · rw [e, Bool.true_and] at h
    cases d with
    | tup xs =>
      cases hd with
      | tup hx hz =>
      walk_at "go"
      refine o_lcM _ rfl (small (by omega)) (fun x mx Pz hP => ?_) (o_all (g := wordsOk n) h)
      walk_at "go"
      exact ⟨x, n, rfl, hx x mx, hP⟩
    | _ => cases e
  · rw [e, Bool.false_and] at h
    exact h
def wrongM (m : Int) (f c k j l : D) : Option Str :=
  if (decide (1 ≤ m) && decide (m ≤ 400) && stampsOk m m c) = true then
    if btw 0 (m - 1) f = true then
      if rowsOk 2 m k = true then
        if rowsOk m m j = true then
          if (isN l || looksOk m l) = true then none else some "looks"
        else some "joins"
      else some "forks"
    else some "first"
  else some "changes"
def wrongD (f c k j l : D) : Option Str := match c with
  | .tup cs => wrongM cs.length f c k j l
  | _ => some "changes"
def optS : Option Str → D
  | none => .non
  | some s => .str s
def spWrong : DSp := fun ds S Q E => ∃ f c k j l, ds = [f, c, k, j, l] ∧ Dat f ∧ Dat c ∧ Dat k ∧ Dat j ∧ Dat l ∧ Q (optS (wrongD f c k j l)) S
theorem not_if {b : Bool} {A B : Prop} (h : if b = true then B else A) : if (!b) = true then A else B := by
  cases b <;> simpa using h
theorem ok_wrong_part (T : Txt K mg cCopyError cBadText cBook) (c_are_stamps : Cal P w K mg base "are_stamps" 3 ["thing", "length", "many"] spStamps) (c_is_between : Cal P w K mg base "is_between" 2 ["thing", "least", "most"] spBtw) (c_are_rows : Cal P w K mg base "are_rows" 4 ["thing", "length", "many"] spRows) (c_are_looks : Cal P w K mg base "are_looks" 3 ["thing", "many"] spLooks) : Cal P w K mg base "wrong_part" 5 ["first", "changes", "forks", "joins", "looks"] spWrong := by
  obtain ⟨f, fd, A, hm, hk, hb⟩ := T.d_wrong_part
  refine ⟨f, fd, dfn A sc_wrong_part (by intro ds S Q E h; obtain ⟨_, _, _, _, _, rfl, _⟩ := h; rfl) (fun cdv A outer s H E hr => ⟨_, (ds_cons (ds_if (DW.dt (dw_or (dt_not (dt_val (dc_isi (T := "tuple") (by decide) (by decide) (fun _ => T.b_isinstance) (da_cons (de_var 1) (da_cons (de_bltn (by intro _; rfl) (fun _ => T.b_tuple) bt_tuple (d := .ty "tuple") (v := .ty "tuple") rfl rfl) da_nil))))) (dw_or1 (dt_not (dt_chain (fun _ => op_le) (fun _ => op_le) lk_le lk_le de_int (dc_len (fun _ => T.b_len) (da_cons (de_var 1) da_nil)) (de_k (fun _ => rfl) T.k_MOST_STAMPS))))))
    (ds_one (ds_ret de_str))
    ds_nil)
    (ds_cons (ds_set 5 (fun _ => sc_wrong_part.nd) (dc_len (fun _ => T.b_len) (da_cons (de_var 1) da_nil)))
    (ds_cons (ds_if (dt_not (dt_val (de_callC (fun _ => c_are_stamps) (fun _ => hr) (by omega) (fun _ => bodyTk) (da_cons (de_var 1) (da_cons (de_var 5) (da_cons (de_var 5) da_nil))))))
    (ds_one (ds_ret de_str))
    ds_nil)
    (ds_cons (ds_if (dt_not (dt_val (de_callC (fun _ => c_is_between) (fun _ => hr) (by omega) (fun _ => bodyTk) (da_cons (de_var 0) (da_cons de_int (da_cons (de_sub (de_var 5) de_int) da_nil))))))
    (ds_one (ds_ret de_str))
    ds_nil)
    (ds_cons (ds_if (dt_not (dt_val (de_callC (fun _ => c_are_rows) (fun _ => hr) (by omega) (fun _ => bodyTk) (da_cons (de_var 2) (da_cons de_int (da_cons (de_var 5) da_nil))))))
    (ds_one (ds_ret de_str))
    ds_nil)
    (ds_cons (ds_if (dt_not (dt_val (de_callC (fun _ => c_are_rows) (fun _ => hr) (by omega) (fun _ => bodyTk) (da_cons (de_var 3) (da_cons (de_var 5) (da_cons (de_var 5) da_nil))))))
    (ds_one (ds_ret de_str))
    ds_nil)
    (ds_cons (ds_if (DW.dt (dw_and (dt_cmp (fun _ => op_notN) lk_notN (de_var 4) de_non (nomark _)) (dw_and1 (dt_not (dt_val (de_callC (fun _ => c_are_looks) (fun _ => hr) (by omega) (fun _ => bodyTk) (da_cons (de_var 4) (da_cons (de_var 5) da_nil))))))))
    (ds_one (ds_ret de_str))
    ds_nil)
    (ds_one (ds_ret de_non))))))))), fun ds S Q E h => ?_⟩), hm, hk, hb⟩
  obtain ⟨f, c, k, j, l, rfl, df, dc, dk, dj, dl, h⟩ := h
  have fin : ∀ {o : Option Str}, wrongD f c k j l = o → Q (optS o) S := fun e => e ▸ h
  have pc := dc.plain
  walk_at "go"
  cases c with
  | tup cs =>
    have hz : cs.length ≤ 1000 := by cases dc; assumption
    have df' : Dat (.tup cs) := dc
    walk_at "go"
    have no : ∀ {o : Option Str}, wrongM cs.length f (.tup cs) k j l = o → Q (optS o) S := fun e => fin e
    refine ifD (fun h1 => ?_) (fun h1 => ?_)
    · walk_at "go"
      refine not_if (ifD (fun h2 => ?_) (fun h2 => ?_))
      · walk_at "go"
        refine ⟨_, _, _, rfl, dc, ?_⟩
        walk_at "go"
        refine not_if (ifB (fun h3 => ?_) (fun h3 => ?_))
        · walk_at "go"
          refine ⟨_, _, _, rfl, df.plain, ?_⟩
          walk_at "go"
          refine not_if (ifB (fun h4 => ?_) (fun h4 => ?_))
          · walk_at "go"
            refine ⟨_, _, _, rfl, dk, ?_⟩
            walk_at "go"
            refine not_if (ifB (fun h5 => ?_) (fun h5 => ?_))
            · walk_at "go"
              refine ⟨_, _, _, rfl, dj, ?_⟩
              walk_at "go"
              refine not_if (ifB (fun h6 => ?_) (fun h6 => ?_))
              · walk_at "go"
                refine not_if (ifB (fun h7 => ?_) (fun h7 => ?_))
                · walk_at "go"
                  exact no (o := none) (by unfold wrongM; simp [h1, h2, h3, h4, h5, h6, h7])
                · walk_at "go"
                  refine ⟨_, _, rfl, dl, ?_⟩
                  walk_at "go"
                  refine not_if (ifB (fun h8 => ?_) (fun h8 => ?_))
                  · walk_at "go"
                    exact no (o := none) (by unfold wrongM; simp [h1, h2, h3, h4, h5, h6, h7, h8])
                  · walk_at "go"
                    exact no (o := some "looks") (by unfold wrongM; simp [h1, h2, h3, h4, h5, h6, h7, h8])
              · walk_at "go"
                exact no (o := some "joins") (by unfold wrongM; simp [h1, h2, h3, h4, h5, h6])
            · walk_at "go"
              exact no (o := some "forks") (by unfold wrongM; simp [h1, h2, h3, h4, h5])
          · walk_at "go"
            exact no (o := some "first") (by unfold wrongM; simp [h1, h2, h3, h4])
        · walk_at "go"
          exact no (o := some "changes") (by unfold wrongM; simp [h1, h2, h3])
      · walk_at "go"
        exact no (o := some "changes") (by unfold wrongM; simp [h1, h2])
    · walk_at "go"
      exact no (o := some "changes") (by unfold wrongM; simp [h1])
  | _ => first | (walk_at "go"; exact fin rfl) | cases pc
def fieldsOf (f c k j l : D) : List (Str × D) := [("first", f), ("changes", c), ("forks", k), ("joins", j), ("looks", l)]
def spInit (cBook : Addr) : DSp := fun ds S Q E => ∃ n f c k j l, ds = [.ref n, f, c, k, j, l] ∧ S[n]? = some (.ins cBook []) ∧ Dat f ∧ Dat c ∧ Dat k ∧ Dat j ∧ Dat l ∧ wrongD f c k j l = none ∧
  ∀ S', S'.length = S.length → S'[n]? = some (.ins cBook (fieldsOf f c k j l)) → (∀ m : Nat, m ≠ n → S'[m]? = S[m]?) → Q .non S'
theorem ok_Book___init__ (T : Txt K mg cCopyError cBadText cBook) (c_wrong_part : Cal P w K mg base "wrong_part" 5 ["first", "changes", "forks", "joins", "looks"] spWrong) : CalM P w K mg base "Book" cBook 6 ["self", "first", "changes", "forks", "joins", "looks"] (spInit cBook) := by
  obtain ⟨f, fd, A, M, hm, hb⟩ := T.d_Book___init__
  refine ⟨f, fd, M, dfn A sc_Book___init__ (by intro ds S Q E h; obtain ⟨_, _, _, _, _, _, rfl, _⟩ := h; rfl) (fun cdv A outer s H E hr => ⟨_, (ds_cons (ds_set 6 (fun _ => sc_Book___init__.nd) (de_callC (fun _ => c_wrong_part) (fun _ => hr) (by omega) (fun _ => bodyTk) (da_cons (de_var 1) (da_cons (de_var 2) (da_cons (de_var 3) (da_cons (de_var 4) (da_cons (de_var 5) da_nil)))))))
    (ds_cons (ds_if (dt_cmp (fun _ => op_notN) lk_notN (de_var 6) de_non (nomark _))
    (ds_one ds_no)
    ds_nil)
    (ds_cons (ds_fld T.f_first (de_var 0) (de_var 1))
    (ds_cons (ds_fld T.f_changes (de_var 0) (de_var 2))
    (ds_cons (ds_fld T.f_forks (de_var 0) (de_var 3))
    (ds_cons (ds_fld T.f_joins (de_var 0) (de_var 4))
    (ds_one (ds_fld T.f_looks (de_var 0) (de_var 5))))))))), fun ds S Q E h => ?_⟩), hm, hb⟩
  obtain ⟨n, f, c, k, j, l, rfl, hn, df, dc, dk, dj, dl, e, h1⟩ := h
  walk_at "go"
  refine ⟨_, _, _, _, _, rfl, df, dc, dk, dj, dl, ?_⟩
  rw [e]
  walk_at "go"
  refine o_setF hn rfl (by decide) fun S1 l1 e1 m1 => ?_
  walk_at "go"
  refine o_setF e1 rfl (by show 1 < 1000; decide) fun S2 l2 e2 m2 => ?_
  walk_at "go"
  refine o_setF e2 rfl (by show 2 < 1000; decide) fun S3 l3 e3 m3 => ?_
  walk_at "go"
  refine o_setF e3 rfl (by show 3 < 1000; decide) fun S4 l4 e4 m4 => ?_
  walk_at "go"
  refine o_setF e4 rfl (by show 4 < 1000; decide) fun S5 l5 e5 m5 => ?_
  walk_at "go"
  exact h1 S5 (by omega) e5 fun m hm => (m5 m hm).trans ((m4 m hm).trans ((m3 m hm).trans ((m2 m hm).trans (m1 m hm))))
def fldB (b : Bk) : List (Str × D) := fieldsOf (natD b.f) (natsD b.cs) (rowsD b.ks) (rowsD b.js) (looksD b.ls)
theorem okD_row {t : List (List Nat)} : okD 2 (rowsD t) = true := by
  show (t.map natsD).all (okD 1) = true
  refine List.all_eq_true.mpr fun x m => ?_
  obtain ⟨r, _, rfl⟩ := List.mem_map.mp m
  show (r.map natD).all (okD 0) = true
  refine List.all_eq_true.mpr fun y my => ?_
  obtain ⟨c, _, rfl⟩ := List.mem_map.mp my
  rfl
theorem okD_nats {r : List Nat} : okD 1 (natsD r) = true := by
  show (r.map natD).all (okD 0) = true
  refine List.all_eq_true.mpr fun y my => ?_
  obtain ⟨c, _, rfl⟩ := List.mem_map.mp my
  rfl
theorem okD_looks {t : List (List Str)} : okD 2 (.tup (t.map strsD)) = true := by
  show (t.map strsD).all (okD 1) = true
  refine List.all_eq_true.mpr fun x m => ?_
  obtain ⟨r, _, rfl⟩ := List.mem_map.mp m
  show (r.map D.str).all (okD 0) = true
  refine List.all_eq_true.mpr fun y my => ?_
  obtain ⟨c, _, rfl⟩ := List.mem_map.mp my
  rfl
def spEq (cBook : Addr) : DSp := fun ds S Q E => ∃ n m b, ds = [.ref n, .ref m] ∧ S[n]? = some (.ins cBook (fldB b)) ∧ S[m]? = some (.ins cBook (fldB b)) ∧ Q (.bl true) S
theorem ok_Book___eq__ (T : Txt K mg cCopyError cBadText cBook) : CalEq P w K mg base cBook 1 (spEq cBook) := by
  obtain ⟨f, fd, A, h1, h2, hb, h3, h4⟩ := T.d_Book___eq__
  refine ⟨f, fd, _, dfn A sc_Book___eq__ (by intro ds S Q E h; obtain ⟨_, _, _, rfl, _⟩ := h; rfl) (fun cdv A outer s H E hr => ⟨_, (ds_one (ds_ret (de_and (dc_isCls T.o_Book (fun _ => T.b_isinstance) (da_cons (de_var 1) (da_cons (de_glob (by intro _; rfl) (fun _ => T.c_Book) rfl (d := .cls _) (v := .ref _) rfl) da_nil))) (de_and (de_cmp (oq_eq fun _ => hr) lk_eq (de_fld T.f_first (de_var 0)) (de_fld T.f_first (de_var 1)) (nomark _)) (de_and (de_cmp (oq_eq fun _ => hr) lk_eq (de_fld T.f_changes (de_var 0)) (de_fld T.f_changes (de_var 1)) (nomark _)) (de_and (de_cmp (oq_eq fun _ => hr) lk_eq (de_fld T.f_forks (de_var 0)) (de_fld T.f_forks (de_var 1)) (nomark _)) (de_and (de_cmp (oq_eq fun _ => hr) lk_eq (de_fld T.f_joins (de_var 0)) (de_fld T.f_joins (de_var 1)) (nomark _)) (de_one (de_cmp (oq_eq fun _ => hr) lk_eq (de_fld T.f_looks (de_var 0)) (de_fld T.f_looks (de_var 1)) (nomark _)))))))))), fun ds S Q E h => ?_⟩), h1, h2, hb, h3, h4⟩
  obtain ⟨n, m, b, rfl, e1, e2, h⟩ := h
  unfold fldB fieldsOf at e1 e2
  walk_at "go"
  refine o_eqT okD_nats (by decide) ?_
  walk_at "go"
  refine o_eqT okD_row (by decide) ?_
  walk_at "go"
  refine o_eqT okD_row (by decide) ?_
  walk_at "go"
  cases e : b.ls with
  | none =>
    rw [e] at e1 e2
    exact h
  | some t =>
    refine o_eqT okD_looks (by decide) ?_
    exact h
end
open PySem PySem.Spec PyProof.Rows L2 Dy
section
variable {cCopyError cBadText cBook : Addr} {P : Program} {w : World} {K : PySem.W.Frag} {mg : Str → Option Value} {base : Heap}
theorem mid {n : Nat} (h : n ≤ 4000000) : n ≤ sizeLine := Nat.le_trans h (by decide)
theorem di_or {F : Fam} {W : WX} {tg it : Expr} {t1 t2 : DTI} (h1 : DI F W tg it t1) (h2 : DI F W tg it t2) : DI F W tg it (fun ρ S R E => t1 ρ S R E ∨ t2 ρ S R E) := by
  obtain ⟨w1, p1, k1⟩ := h1
  obtain ⟨w2, p2, k2⟩ := h2
  refine ⟨fun σ H R => w1 σ H R ∨ w2 σ H R, fun i => ⟨fun pins s σ H R I h => ?_⟩, fun σ ρ φ S H E R' R o q h => ?_⟩
  · rcases h with h | h
    · exact (p1 i).run pins s σ H R I h
    · exact (p2 i).run pins s σ H R I h
  · rcases h with h | h
    · exact .inl (k1 σ ρ φ S H E R' R o q h)
    · exact .inr (k2 σ ρ φ S H E R' R o q h)
/-- only new things came -/
def Grown (S S' : Store) : Prop := S.length ≤ S'.length ∧ ∀ m : Nat, m < S.length → S'[m]? = S[m]?
theorem Grown.refl {S : Store} : Grown S S := ⟨Nat.le_refl _, fun _ _ => rfl⟩
theorem Grown.trans {S S1 S2 : Store} (h : Grown S S1) (k : Grown S1 S2) : Grown S S2 := ⟨Nat.le_trans h.1 k.1, fun m hm => (k.2 m (Nat.lt_of_lt_of_le hm h.1)).trans (h.2 m hm)⟩
def digD : D → Bool
  | .str z => match z.cps.toList with
    | [c] => decide (48 ≤ c ∧ c ≤ 57)
    | _ => false
  | _ => false
theorem digs_all (z : Str) : (z.cps.toList.map fun c => D.str ⟨#[c]⟩).all digD = z.cps.toList.all fun c => decide (48 ≤ c ∧ c ≤ 57) := by
  rw [List.all_map]; rfl
theorem dig_in {c : Nat} : decide (c ∈ ("0123456789" : Str).cps.toList) = decide (48 ≤ c ∧ c ≤ 57) := decide_eq_decide.mpr mem_digs
theorem one_zero {c : Nat} : decide ((⟨#[c]⟩ : Str) = "0") = decide (c = 48) := by
  refine decide_eq_decide.mpr ⟨fun e => ?_, fun e => by subst e; decide⟩
  have h : (⟨#[c]⟩ : Str).cps.toList = ("0" : Str).cps.toList := by rw [e]
  have h2 : ("0" : Str).cps.toList = [48] := TL.tl_ofString "0"
  rw [h2] at h
  simpa using h
def spNum : DSp := fun ds S Q E => ∃ z : Str, ds = [.str z] ∧ z.length ≤ 4000000 ∧ Q (optD (figOf z)) S
theorem ok_number_in (T : Txt K mg cCopyError cBadText cBook) : Cal P w K mg base "number_in" 1 ["word"] spNum := by
  obtain ⟨f, fd, A, hm, hk, hb⟩ := T.d_number_in
  refine ⟨f, fd, dfn A sc_number_in (by intro ds S Q E h; obtain ⟨_, rfl, _⟩ := h; rfl) (fun cdv A outer s H E hr => ⟨_, (ds_cons (ds_if (DW.dt (dw_or (dt_not (dt_chain (fun _ => op_le) (fun _ => op_le) lk_le lk_le de_int (dc_lenS (fun _ => T.b_len) (da_cons (de_var 0) da_nil)) (de_k (fun _ => rfl) T.k_MOST_FIGURES))) (dw_or1 (dt_not (dt_val (dc_all (fun _ => rfl) (fun _ => T.b_all) (da_cons (de_lc 1 (fun _ => rfl) (fun _ => sc_number_in.nd) (di_str (de_var 0)) (fun _ => blkOk_by (N := N_number_in) (sc := defScope s_number_in) (by decide +kernel)) dts_nil (de_cmp (fun _ => op_inS) lk_inStr (de_var 1) (de_k (fun _ => rfl) T.k_DIGITS) (by rfl)) (fun _ => pg_name (i := 1) sc_number_in.nd rfl (Or.inl rfl))) da_nil)))))))
    (ds_one (ds_ret de_non))
    ds_nil)
    (ds_cons (ds_if (DW.dt (dw_and (dt_cmp (oq_eq fun _ => hr) lk_eq (de_atS (de_var 0) de_int) de_str (nomark _)) (dw_and1 (dt_cmp (fun _ => op_gt) lk_gt (dc_lenS (fun _ => T.b_len) (da_cons (de_var 0) da_nil)) de_int (nomark _)))))
    (ds_one (ds_ret de_non))
    ds_nil)
    (ds_one (ds_ret (dc_intS (fun _ => T.b_int) (da_cons (de_var 0) da_nil)))))), fun ds S Q E h => ?_⟩), hm, hk, hb⟩
  obtain ⟨z, rfl, hz, h⟩ := h
  have hz' : z.length ≤ sizeLine := mid hz
  have no : isNum z = false → Q .non S := fun e => by
    have e2 : figOf z = none := by unfold figOf; rw [if_neg (by rw [e]; decide)]
    rw [e2] at h; exact h
  have yes : isNum z = true → Q (.int ((NumText.digitsVal z.cps.toList : Nat) : Int)) S := fun e => by
    have e2 : figOf z = some (NumText.digitsVal z.cps.toList) := by unfold figOf; rw [if_pos e]
    rw [e2] at h; exact h
  have fail : ¬ ((1 ≤ z.length ∧ z.length ≤ 9) ∧ NumText.AllDigits z.cps.toList) → Q .non S := fun c => no (Bool.eq_false_iff.mpr fun z1 => c ⟨(isNum_iff.mp z1).1, (isNum_iff.mp z1).2.1⟩)
  walk_at "go"
  refine ifD (fun c1 => ?_) (fun c1 => ?_)
  · walk_at "go"
    refine not_if (ifD (fun c2 => ?_) (fun c2 => ?_))
    · walk_at "go"
      refine o_lcM (fun x => .bl (digD x)) trivial (mid (by rw [List.length_map, ← str_len]; exact hz)) (fun x mx Pz hP => ?_) ?_
      · obtain ⟨c, _, rfl⟩ := List.mem_map.mp mx
        walk_at "go"
        rw [Bool.false_xor, dig_in]
        exact hP
      walk_at "go"
      refine o_all (g := digD) ?_
      rw [digs_all]
      walk_at "go"
      refine not_if (ifB (fun c3 => ?_) (fun c3 => ?_))
      · have ad : NumText.AllDigits z.cps.toList := fun c m => of_decide_eq_true (List.all_eq_true.mp c3 c m)
        have hl : 1 ≤ z.length ∧ z.length ≤ 9 := by omega
        cases ez : z.cps.toList with
        | nil =>
          have := str_len z
          rw [ez] at this
          simp at this
          omega
        | cons c r =>
          walk_at "go"
          refine o_atS ez ?_
          walk_at "go"
          rw [Bool.false_xor, one_zero]
          refine ifD (fun c4 => ?_) (fun c4 => ?_)
          · subst c4
            walk_at "go"
            refine ifD (fun c5 => ?_) (fun c5 => ?_)
            · walk_at "go"
              refine no (Bool.eq_false_iff.mpr fun z1 => (isNum_iff.mp z1).2.2 ⟨by rw [ez]; rfl, by omega⟩)
            · have en : isNum z = true := isNum_iff.mpr ⟨hl, ad, fun z1 => c5 (by omega)⟩
              have e2 : figOf z = some (NumText.digitsVal z.cps.toList) := by unfold figOf; rw [if_pos en]
              walk_at "go"
              exact o_intS (int_of_num e2).1 (int_of_num e2).2 (yes en)
          · have en : isNum z = true := isNum_iff.mpr ⟨hl, ad, fun z1 => c4 (by have := z1.1; rw [ez] at this; simpa using this)⟩
            have e2 : figOf z = some (NumText.digitsVal z.cps.toList) := by unfold figOf; rw [if_pos en]
            walk_at "go"
            exact o_intS (int_of_num e2).1 (int_of_num e2).2 (yes en)
      · walk_at "go"
        exact fail fun z1 => by
          rw [List.all_eq_true.mpr fun c m => decide_eq_true (z1.2 c m)] at c3
          cases c3
    · walk_at "go"
      exact fail fun z1 => by omega
  · walk_at "go"
    exact fail fun z1 => by omega
theorem log_strN {n : Nat} (h : n < 10 ^ 9) : ((n : Int)).natAbs.log2 < 1920 := by
  have e : ((n : Int)).natAbs = n := rfl
  rw [e]
  have : n < 2 ^ 64 := Nat.lt_of_lt_of_le h (by decide)
  exact Nat.lt_trans (PySem.Flt.log2_lt_of (by decide) this) (by decide)
theorem join_size {y : Str} {ys : List Str} (h : sumL ys + ys.length * y.length ≤ 4000000) : (ys.map (·.length)).sum + ys.length * y.length ≤ 16777216 := by
  have : (ys.map (·.length)).sum = sumL ys := rfl
  omega
/-- what str makes of a word or a number -/
def strW : D → Str
  | .int i => Str.ofString (toString i)
  | .str s => s
  | _ => ""
def Wd (x : D) : Prop := (∃ s, x = .str s) ∨ ∃ n : Nat, x = natD n ∧ n < 10 ^ 9
def spLine : DSp := fun ds S Q E => ∃ xs, ds = [.lst xs] ∧ (∀ x ∈ xs, Wd x) ∧ sumL (xs.map strW) + xs.length ≤ 4000000 ∧ Q (.str (Txt.join " " (xs.map strW))) S
theorem ok_line_of (T : Txt K mg cCopyError cBadText cBook) : Cal P w K mg base "line_of" 1 ["words"] spLine := by
  obtain ⟨f, fd, A, hm, hk, hb⟩ := T.d_line_of
  refine ⟨f, fd, dfn A sc_line_of (by intro ds S Q E h; obtain ⟨_, rfl, _⟩ := h; rfl) (fun cdv A outer s H E hr => ⟨_, (ds_one (ds_ret (de_join de_str (de_lc 1 (fun _ => rfl) (fun _ => sc_line_of.nd) (di_sq (de_var 0)) (fun _ => blkOk_by (N := N_line_of) (sc := defScope s_line_of) (by decide +kernel)) dts_nil (dc_str (fun _ => T.b_str) (da_cons (de_var 1) da_nil)) (fun _ => pg_name (i := 1) sc_line_of.nd rfl (Or.inl rfl)))))), fun ds S Q E h => ?_⟩), hm, hk, hb⟩
  obtain ⟨xs, rfl, hx, hz, h⟩ := h
  walk_at "go"
  refine o_lcM (fun d => .str (strW d)) rfl (mid (by omega)) (fun y my Pz hP => ?_) ?_
  · walk_at "go"
    rcases hx y my with ⟨s, rfl⟩ | ⟨n, rfl, hn⟩
    · exact o_strS hP
    · exact o_strN (log_strN hn) hP
  walk_at "go"
  have e : xs.map (fun d => D.str (strW d)) = (xs.map strW).map .str := by rw [List.map_map]; rfl
  rw [e]
  exact o_join rfl (join_size (by rw [sl_len, List.length_map]; omega)) h
def partsD : D → List D
  | .tup xs => xs
  | .lst xs => xs
  | _ => []
def rowW (x : D) : List Str := (partsD x).map strW
structure RowOk (x : D) : Prop where
  sq : ∀ S, sqOf S x = some (partsD x)
  wd : ∀ y ∈ partsD x, Wd y
  sz : sumL (rowW x) + (partsD x).length ≤ 3000000
def spTab : DSp := fun ds S Q E => ∃ w d xs, ds = [.str w, d] ∧ (d = .tup xs ∨ d = .lst xs) ∧ w.length ≤ 10 ∧ xs.length ≤ 1000 ∧ (∀ x ∈ xs, RowOk x) ∧ Q (.lst ((tabS w 0 (xs.map rowW)).map .str)) S
theorem en_mem {xs : List D} {d : D} (h : d ∈ enD xs) : ∃ (k : Nat) (x : D), k < xs.length ∧ x ∈ xs ∧ d = .tup [.int (k : Int), x] := by
  obtain ⟨k, hk⟩ := List.mem_iff_getElem?.mp h
  have hl := (List.getElem?_eq_some_iff.mp hk).1
  rw [enD_len] at hl
  have e : xs[k]? = some xs[k] := List.getElem?_eq_getElem hl
  rw [enD_get e] at hk
  cases hk
  exact ⟨k, xs[k], hl, List.getElem_mem hl, rfl⟩
def lineF (w : Str) : D → D
  | .tup [.int k, x] => .str (rowS w k.toNat (rowW x))
  | _ => .non
theorem en_lines {w : Str} {xs : List D} : (enD xs).map (lineF w) = (tabS w 0 (xs.map rowW)).map .str := by
  refine List.ext_getElem? fun k => ?_
  rw [List.getElem?_map, List.getElem?_map, tabS_get, List.getElem?_map]
  cases e : xs[k]? with
  | none =>
    have : xs.length ≤ k := List.getElem?_eq_none_iff.mp e
    rw [List.getElem?_eq_none (by rw [enD_len]; exact this)]; rfl
  | some x =>
    rw [enD_get e]
    show some (D.str (rowS w ((k : Int)).toNat (rowW x))) = some (D.str (rowS w (0 + k) (rowW x)))
    rw [Int.toNat_natCast, Nat.zero_add]
theorem ok_table_lines (T : Txt K mg cCopyError cBadText cBook) (c_line_of : Cal P w K mg base "line_of" 1 ["words"] spLine) : Cal P w K mg base "table_lines" 3 ["word", "rows"] spTab := by
  obtain ⟨f, fd, A, hm, hk, hb⟩ := T.d_table_lines
  refine ⟨f, fd, dfn A sc_table_lines (by intro ds S Q E h; obtain ⟨_, _, _, rfl, _⟩ := h; rfl) (fun cdv A outer s H E hr => ⟨_, (ds_one (ds_ret (de_lc2b 2 3 (by decide) (fun _ => rfl) (fun _ => sc_table_lines.nd) (di_or (di_enumT (by intro _; rfl) (fun _ => T.b_enumerate) (da_cons (de_var 1) da_nil)) (di_enumL (by intro _; rfl) (fun _ => T.b_enumerate) (da_cons (de_var 1) da_nil))) (fun _ => blkOk_by (N := N_table_lines) (sc := defScope s_table_lines) (by decide +kernel)) dts_nil (de_callC (fun _ => c_line_of) (fun _ => hr) (by omega) (fun _ => takes0) (da_cons (de_lst (da_cons (de_var 0) (da_cons (de_var 2) (da_star (de_var 3) da_nil)))) da_nil)) (fun _ => pg_tup rfl (pgs_cons (pg_name (i := 2) sc_table_lines.nd rfl (Or.inl rfl)) (pgs_cons (pg_name (i := 3) sc_table_lines.nd rfl (Or.inl rfl)) pgs_nil)))))), fun ds S Q E h => ?_⟩), hm, hk, hb⟩
  obtain ⟨w, d, xs, rfl, hd, hw, hl, hx, h⟩ := h
  rcases hd with rfl | rfl
  walk_at "go"
  refine .inl ?_
  rotate_left
  walk_at "go"
  refine .inr ?_
  walk_at "go"
  refine ⟨_, _, rfl, rfl, ?_⟩
  all_goals
    walk_at "go"
    refine o_lcM2 (xs := enD xs) (lineF w) (by first | trivial | rfl) (by rw [enD_len]; exact mid (by omega)) (fun x mx => ?_) (by rw [en_lines]; exact h)
    obtain ⟨k, y, hk, my, rfl⟩ := en_mem mx
    refine ⟨_, _, rfl, fun Pz hP => ?_⟩
    walk_at "go"
    refine ⟨_, (hx y my).sq _, ?_⟩
    walk_at "go"
    rw [List.append_nil]
    have hs := (hx y my).sz
    have ha := strN3 (n := k) (by omega)
    have e0 : strW (.int (k : Int)) = strN k := rfl
    refine ⟨mid (by simp only [List.length_cons]; omega), ?_⟩
    refine ⟨_, rfl, fun z mz => ?_, ?_, ?_⟩
    · rcases List.mem_cons.mp mz with rfl | mz
      · exact .inl ⟨_, rfl⟩
      · rcases List.mem_cons.mp mz with rfl | mz
        · exact .inr ⟨k, rfl, by omega⟩
        · exact (hx y my).wd z mz
    · have e : sumL ((D.str w :: D.int (k : Int) :: partsD y).map strW) = w.length + ((strN k).length + sumL (rowW y)) := rfl
      rw [e]
      simp only [List.length_cons]
      omega
    · have hP : Pz (.str (rowS w ((k : Int)).toNat (rowW y))) S := hP
      rw [Int.toNat_natCast] at hP
      exact hP
theorem str_cat (x y : Str) : TL.tl (x ++ y) = TL.tl x ++ TL.tl y := TL.tl_append x y
theorem head_f {N f : Nat} : Str.empty ++ ("stamps " : Str) ++ Str.ofString (toString (N : Int)) ++ (" first " : Str) ++ Str.ofString (toString (f : Int)) = headS N f := by
  refine str_ext ?_
  show TL.tl (Str.empty ++ ("stamps " : Str) ++ strN N ++ (" first " : Str) ++ strN f) = TL.tl (headS N f)
  unfold headS
  rw [TL.join_eq, TL.tl_join, str_cat, str_cat, str_cat, str_cat]
  have e1 : TL.tl ("stamps " : Str) = TL.tl ("stamps" : Str) ++ TL.tl (" " : Str) := by rw [TL.tl_ofString, TL.tl_ofString, TL.tl_ofString]; decide
  have e2 : TL.tl (" first " : Str) = TL.tl (" " : Str) ++ TL.tl ("first" : Str) ++ TL.tl (" " : Str) := by rw [TL.tl_ofString, TL.tl_ofString, TL.tl_ofString]; decide
  rw [e1, e2]
  show [] ++ _ ++ _ ++ _ ++ _ = TL.tl ("stamps" : Str) ++ (TL.tl (" " : Str) ++ (TL.tl (strN N) ++ (TL.tl (" " : Str) ++ (TL.tl ("first" : Str) ++ (TL.tl (" " : Str) ++ TL.tl (strN f))))))
  simp only [List.nil_append, List.append_assoc]
def tup1 (d : D) : D := .tup [d]
def letD : D → D
  | .str s => .str (letW s)
  | d => d
def letR : D → D
  | .tup xs => .lst (xs.map letD)
  | d => d
theorem rowW_nats {r : List Nat} : rowW (natsD r) = r.map strN := by
  show (r.map natD).map strW = r.map strN
  rw [List.map_map]; rfl
theorem nats_ok {N : Nat} {r : List Nat} (n4 : N ≤ 400) (hl : r.length ≤ 400) (h : ∀ x ∈ r, x < N) {x : D} (hp : partsD x = r.map natD) (hs : ∀ S, sqOf S x = some (partsD x)) : RowOk x := by
  have e : rowW x = r.map strN := by unfold rowW; rw [hp, List.map_map]; rfl
  refine ⟨hs, fun y my => ?_, ?_⟩
  · rw [hp] at my
    obtain ⟨c, mc, rfl⟩ := List.mem_map.mp my
    exact .inr ⟨c, rfl, by have := h c mc; omega⟩
  · rw [e, hp, List.length_map]
    have := sum_le (r := r.map strN) (m := 3) fun z mz => by
      obtain ⟨c, mc, rfl⟩ := List.mem_map.mp mz
      exact strN3 (by have := h c mc; omega)
    rw [List.length_map] at this
    omega
theorem let_ok {r : List Str} (hl : r.length ≤ 400) : RowOk (letR (strsD r)) ∧ rowW (letR (strsD r)) = r.map letW := by
  have e0 : letR (strsD r) = .lst ((r.map letW).map .str) := by
    show D.lst ((r.map D.str).map letD) = _
    rw [List.map_map, List.map_map]; rfl
  have e : rowW (letR (strsD r)) = r.map letW := by
    rw [e0]
    show ((r.map letW).map D.str).map strW = _
    rw [List.map_map]
    exact (List.map_congr_left fun _ _ => rfl).trans (List.map_id _)
  refine ⟨⟨fun S => by rw [e0]; rfl, fun y my => ?_, ?_⟩, e⟩
  · rw [e0] at my
    obtain ⟨c, mc, rfl⟩ := List.mem_map.mp (show y ∈ (r.map letW).map D.str from my)
    exact .inl ⟨_, rfl⟩
  · rw [e]
    have := sum_le (r := r.map letW) (m := 1) fun z mz => by
      obtain ⟨c, mc, rfl⟩ := List.mem_map.mp mz
      exact Nat.le_of_eq let_len
    rw [List.length_map] at this
    have e2 : (partsD (letR (strsD r))).length = r.length := by rw [e0]; show ((r.map letW).map D.str).length = _; simp
    omega
def spBookT (cBook : Addr) : DSp := fun ds S Q E => ∃ n b N, ds = [.ref n] ∧ S[n]? = some (.ins cBook (fldB b)) ∧ b.Ok N ∧ ∀ S', Grown S S' → Q (.str b.text) S'
theorem ok_book_text (T : Txt K mg cCopyError cBadText cBook) (c_table_lines : Cal P w K mg base "table_lines" 3 ["word", "rows"] spTab) : Cal P w K mg base "book_text" 5 ["book"] (spBookT cBook) := by
  obtain ⟨f, fd, A, hm, hk, hb⟩ := T.d_book_text
  refine ⟨f, fd, dfn A sc_book_text (by intro ds S Q E h; obtain ⟨_, _, _, rfl, _⟩ := h; rfl) (fun cdv A outer s H E hr => ⟨_, (ds_cons (ds_set 1 (fun _ => sc_book_text.nd) (de_new (da_cons (de_joined (dj_cons de_str (dj_cons (de_fmt (dc_len (fun _ => T.b_len) (da_cons (de_fld T.f_changes (de_var 0)) da_nil))) (dj_cons de_str (dj_cons (de_fmt (de_fld T.f_first (de_var 0))) dj_nil))))) da_nil)))
    (ds_cons (ds_expr (de_extend (de_var 1) (da_cons (de_callC (fun _ => c_table_lines) (fun _ => hr) (by omega) (fun _ => bodyTk) (da_cons de_str (da_cons (de_lc 2 (fun _ => rfl) (fun _ => sc_book_text.nd) (di_sq (de_fld T.f_changes (de_var 0))) (fun _ => blkOk_by (N := N_book_text) (sc := defScope s_book_text) (by decide +kernel)) dts_nil (de_tup (da_cons (de_var 2) da_nil)) (fun _ => pg_name (i := 2) sc_book_text.nd rfl (Or.inl rfl))) da_nil))) da_nil)))
    (ds_cons (ds_expr (de_extend (de_var 1) (da_cons (de_callC (fun _ => c_table_lines) (fun _ => hr) (by omega) (fun _ => bodyTk) (da_cons de_str (da_cons (de_fld T.f_forks (de_var 0)) da_nil))) da_nil)))
    (ds_cons (ds_expr (de_extend (de_var 1) (da_cons (de_callC (fun _ => c_table_lines) (fun _ => hr) (by omega) (fun _ => bodyTk) (da_cons de_str (da_cons (de_fld T.f_joins (de_var 0)) da_nil))) da_nil)))
    (ds_cons (ds_if (dt_cmp (fun _ => op_notN) lk_notN (de_fld T.f_looks (de_var 0)) de_non (nomark _))
    (ds_one (ds_expr (de_extend (de_var 1) (da_cons (de_callC (fun _ => c_table_lines) (fun _ => hr) (by omega) (fun _ => bodyTk) (da_cons de_str (da_cons (de_lc 3 (fun _ => rfl) (fun _ => sc_book_text.nd) (di_sq (de_fld T.f_looks (de_var 0))) (fun _ => blkOk_by (N := N_book_text) (sc := defScope s_book_text) (by decide +kernel)) dts_nil (de_lc 4 (fun _ => rfl) (fun _ => sc_book_text.nd) (di_sq (de_var 3)) (fun _ => blkOk_by (by rfl)) dts_nil (de_atS (de_var 4) de_int) (fun _ => pg_name (i := 4) sc_book_text.nd rfl (Or.inl rfl))) (fun _ => pg_name (i := 3) sc_book_text.nd rfl (Or.inl rfl))) da_nil))) da_nil))))
    ds_nil)
    (ds_one (ds_ret (de_join de_str (de_var 1))))))))), fun ds S Q E h => ?_⟩), hm, hk, hb⟩
  obtain ⟨n, b, N, rfl, e0, hb, h⟩ := h
  have n1 := hb.n1
  have n4 := hb.n4
  unfold fldB fieldsOf at e0
  have hN : ((N : Int)).natAbs.log2 < 1920 := log_strN (by omega)
  have hF : ((b.f : Int)).natAbs.log2 < 1920 := log_strN (by have := hb.f; omega)
  have n0 : n < S.length := (List.getElem?_eq_some_iff.mp e0).1
  have eN : (((b.cs.map natD).length : Nat) : Int) = (N : Int) := by rw [List.length_map, hb.cl]
  have q1 : (strN N).length ≤ 3 := strN3 (by omega)
  have q2 : (strN b.f).length ≤ 3 := strN3 (by have := hb.f; omega)
  have q3 : (Str.empty ++ ("stamps " : Str)).length = 7 := by decide
  have q4 : (" first " : Str).length = 7 := by decide
  walk_at "go"
  rw [eN]
  refine .inr ⟨_, rfl, hN, ?_⟩
  have hh := head_f (N := N) (f := b.f)
  have q1 : (Str.ofString (toString (N : Int))).length ≤ 3 := q1
  have q2 : (Str.ofString (toString (b.f : Int))).length ≤ 3 := q2
  generalize Str.ofString (toString (N : Int)) = zN at q1 hh ⊢
  walk_at "go"
  refine ⟨mid (by rw [app_len, q3]; omega), ?_⟩
  walk_at "go"
  refine ⟨mid (by rw [app_len, app_len, q3, q4]; omega), ?_⟩
  walk_at "go"
  refine .inr ⟨_, rfl, hF, ?_⟩
  generalize Str.ofString (toString (b.f : Int)) = zF at q2 hh ⊢
  walk_at "go"
  refine ⟨mid (by rw [app_len, app_len, app_len, q3, q4]; omega), ?_⟩
  rw [hh]
  have gp : (S ++ [SO.lst [.str (headS N b.f)]])[S.length]? = some (.lst [.str (headS N b.f)]) := by rw [List.getElem?_append_right (Nat.le_refl _)]; simp
  have g0 : Grown S (S ++ [SO.lst [.str (headS N b.f)]]) := ⟨by simp, fun m hm => List.getElem?_append_left hm⟩
  walk_at "go"
  generalize S ++ [SO.lst [.str (headS N b.f)]] = S0 at gp g0 ⊢
  have e1 := (g0.2 n n0).trans e0
  walk_at "go"
  refine o_lcM tup1 rfl (mid (by rw [List.length_map, hb.cl]; omega)) (fun x mx Pz hP => ?_) ?_
  · walk_at "go"
    exact hP
  walk_at "go"
  refine ⟨_, _, _, rfl, .inr rfl, by decide, by rw [List.length_map, List.length_map, hb.cl]; omega, fun x mx => ?_, ?_⟩
  · obtain ⟨y, my, rfl⟩ := List.mem_map.mp mx
    obtain ⟨c, mc, rfl⟩ := List.mem_map.mp my
    exact nats_ok n4 (r := [c]) (by simp) (fun x mx => by rw [List.mem_singleton.mp mx]; exact hb.c c mc) rfl fun _ => rfl
  have tC : ((b.cs.map natD).map tup1).map rowW = b.tC := by
    rw [List.map_map, List.map_map]; rfl
  have tK : (b.ks.map natsD).map rowW = b.tK := by
    rw [List.map_map]
    exact List.map_congr_left fun r _ => rowW_nats
  have tJ : (b.js.map natsD).map rowW = b.tJ := by
    rw [List.map_map]
    exact List.map_congr_left fun r _ => rowW_nats
  have lC : (tabS "change" 0 b.tC).length = N := by rw [tabS_len]; unfold Bk.tC; rw [List.length_map]; exact hb.cl
  have lK : (tabS "fork" 0 b.tK).length = N := by rw [tabS_len]; unfold Bk.tK; rw [List.length_map]; exact hb.kl
  have lJ : (tabS "join" 0 b.tJ).length = N := by rw [tabS_len]; unfold Bk.tJ; rw [List.length_map]; exact hb.jl
  rw [tC]
  walk_at "go"
  refine o_ext gp rfl (mid (by rw [List.length_map, lC]; simp only [List.length_cons, List.length_nil]; omega)) fun S1 l1 f1 m1 => ?_
  have e2 := (m1 n (by omega)).trans e1
  walk_at "go"
  refine ⟨_, _, _, rfl, .inl rfl, by decide, by rw [List.length_map, hb.kl]; omega, fun x mx => ?_, ?_⟩
  · obtain ⟨r, mr, rfl⟩ := List.mem_map.mp mx
    exact nats_ok n4 (r := r) (by rw [(hb.k r mr).1]; decide) (hb.k r mr).2 rfl fun _ => rfl
  rw [tK]
  walk_at "go"
  refine o_ext f1 rfl (mid (by rw [List.length_append, List.length_map, List.length_map, lC, lK]; simp only [List.length_cons, List.length_nil]; omega)) fun S2 l2 f2 m2 => ?_
  have e3 := (m2 n (by omega)).trans e2
  walk_at "go"
  refine ⟨_, _, _, rfl, .inl rfl, by decide, by rw [List.length_map, hb.jl]; omega, fun x mx => ?_, ?_⟩
  · obtain ⟨r, mr, rfl⟩ := List.mem_map.mp mx
    exact nats_ok n4 (r := r) (by rw [(hb.j r mr).1]; exact n4) (hb.j r mr).2 rfl fun _ => rfl
  rw [tJ]
  walk_at "go"
  refine o_ext f2 rfl (mid (by rw [List.length_append, List.length_append, List.length_map, List.length_map, List.length_map, lC, lK, lJ]; simp only [List.length_cons, List.length_nil]; omega)) fun S3 l3 f3 m3 => ?_
  have e4 := (m3 n (by omega)).trans e3
  have gr3 : Grown S S3 := ⟨by have := g0.1; omega, fun m hm => (m3 m (by omega)).trans ((m2 m (by omega)).trans ((m1 m (by omega)).trans (g0.2 m hm)))⟩
  have big := hb.big
  walk_at "go"
  cases el : b.ls with
  | none =>
    rw [el] at e4
    walk_at "go"
    refine o_join (ys := b.lines) (sq_ref (f3.trans ?_)) (join_size (by rw [nl_len1]; omega)) (h S3 gr3)
    have : b.tL = [] := by unfold Bk.tL; rw [el]
    unfold Bk.lines
    rw [this]
    simp only [List.map_cons, List.map_append, List.append_nil, List.cons_append, List.nil_append, List.append_assoc, List.map_nil, hb.cl]
  | some t =>
    rw [el] at e4
    have ht := hb.l t el
    walk_at "go"
    refine o_lcM letR rfl (mid (by rw [List.length_map, ht.1]; omega)) (fun x mx Pz hP => ?_) ?_
    · obtain ⟨r, mr, rfl⟩ := List.mem_map.mp mx
      have hr := ht.2 r mr
      walk_at "go"
      refine o_lcM letD rfl (mid (by rw [List.length_map, hr.1]; omega)) (fun y my Py hQ => ?_) ?_
      · obtain ⟨z, mz, rfl⟩ := List.mem_map.mp my
        obtain ⟨c, q, e1, e2⟩ := let_at (hr.2 z mz)
        walk_at "go"
        refine o_atS e1 ?_
        rw [e2]
        exact hQ
      exact hP
    walk_at "go"
    refine ⟨_, _, _, rfl, .inr rfl, by decide, by rw [List.length_map, List.length_map, ht.1]; omega, fun x mx => ?_, ?_⟩
    · obtain ⟨y, my, rfl⟩ := List.mem_map.mp mx
      obtain ⟨r, mr, rfl⟩ := List.mem_map.mp my
      exact (let_ok (by rw [(ht.2 r mr).1]; exact n4)).1
    have tL : ((t.map strsD).map letR).map rowW = lookT t := by
      rw [List.map_map, List.map_map]
      exact List.map_congr_left fun r mr => (let_ok (by rw [(ht.2 r mr).1]; exact n4)).2
    have lL : (tabS "look" 0 (lookT t)).length = N := by rw [tabS_len]; unfold lookT; rw [List.length_map]; exact ht.1
    rw [tL]
    walk_at "go"
    refine o_ext f3 rfl (mid (by simp only [List.length_append, List.length_map, lC, lK, lJ, lL, List.length_cons, List.length_nil]; omega)) fun S4 l4 f4 m4 => ?_
    walk_at "go"
    refine o_join (ys := b.lines) (sq_ref (f4.trans ?_)) (join_size (by rw [nl_len1]; omega)) (h S4 ⟨by have := gr3.1; omega, fun m hm => (m4 m (by omega)).trans (gr3.2 m hm)⟩)
    have : b.tL = tabS "look" 0 (lookT t) := by unfold Bk.tL; rw [el]
    unfold Bk.lines
    rw [this]
    simp only [List.map_cons, List.map_append, List.cons_append, List.nil_append, List.append_assoc, hb.cl]
end
open PySem PySem.Spec PyProof.Rows L2 Dy
section
variable {cCopyError cBadText cBook : Addr} {P : Program} {w : World} {K : PySem.W.Frag} {mg : Str → Option Value} {base : Heap}
/-- what is no text -/
def Odd (cBook : Addr) (S : Store) (d : D) : Prop := (plainD d = true ∧ ∀ z, d ≠ .str z) ∨ ∃ n fs, d = .ref n ∧ S[n]? = some (.ins cBook fs)
def spChkT (cBadText cBook : Addr) : DSp := fun ds S Q E => ∃ d, ds = [d] ∧ (((∃ z, d = .str z) ∧ Q .non S) ∨ (Odd cBook S d ∧ E ⟨cBadText, some [("line", .int 0)]⟩ S))
theorem ok_BadText (T : Txt K mg cCopyError cBadText cBook) : CalE P w K mg base "BadText" cBadText "line" := by
  obtain ⟨f, fd, A, M, hb⟩ := T.d_BadText___init__
  exact ⟨f, fd, M, T.c_BadText, err_init A sc_BadText___init__ rfl M, hb⟩
theorem ok_check_text (T : Txt K mg cCopyError cBadText cBook) (e_BadText : CalE P w K mg base "BadText" cBadText "line") : Cal P w K mg base "check_text" 3 ["thing"] (spChkT cBadText cBook) := by
  obtain ⟨f, fd, A, hm, hk, hb⟩ := T.d_check_text
  refine ⟨f, fd, dfn A sc_check_text (by intro ds S Q E h; obtain ⟨_, rfl, _⟩ := h; rfl) (fun cdv A outer s H E hr => ⟨_, (ds_one (ds_if (dt_not (dt_val (dc_isiU T.s_Book (by decide) (by decide) (fun _ => T.b_isinstance) (da_cons (de_var 0) (da_cons (de_bltn (by intro _; rfl) (fun _ => T.b_str) bt_str (d := .ty "str") (v := .ty "str") rfl rfl) da_nil)))))
    (ds_one (ds_raiseC (fun _ => rfl) e_BadText (fun _ => rfl) (fun _ => rfl) (fun _ => rfl) (fun _ => rfl) (fun _ => bodyTk) (fun _ => hr) (by omega) de_int))
    ds_nil)), fun ds S Q E h => ?_⟩), hm, hk, hb⟩
  obtain ⟨d, rfl, h⟩ := h
  walk_at "go"
  rcases h with ⟨⟨z, rfl⟩, h⟩ | ⟨⟨hd, hz⟩ | ⟨n, fs, rfl, e⟩, h⟩
  · refine o_isiU0 rfl ?_
    walk_at "go"
    exact h
  · refine o_isiU0 hd ?_
    cases d <;> first
      | exact absurd rfl (hz _)
      | (walk_at "go"; exact h)
      | cases hd
  · refine o_isiU1 e ?_
    walk_at "go"
    exact h
theorem split_part {x y z : Str} (h : z ∈ Txt.split x y) : z.length ≤ x.length := by
  have h1 : z.length ≤ sumL (Txt.split x y) := by
    have := sum_sub (List.singleton_sublist.mpr h)
    have e : sumL [z] = z.length := by simp [sumL]
    omega
  have h2 := split_sum x y
  omega
theorem split_many (x y : Str) : (Txt.split x y).length ≤ x.length + 2 := split_le x y
def spHead (cBadText : Addr) : DSp := fun ds S Q E => ∃ l : Str, ds = [.str l] ∧ l.length ≤ 3000000 ∧ (headOf l = none → E ⟨cBadText, some [("line", .int 1)]⟩ S) ∧ ∀ m f, headOf l = some (m, f) → Q (.tup [natD m, natD f]) S
theorem ok_read_head (T : Txt K mg cCopyError cBadText cBook) (c_number_in : Cal P w K mg base "number_in" 1 ["word"] spNum) (e_BadText : CalE P w K mg base "BadText" cBadText "line") : Cal P w K mg base "read_head" 4 ["line"] (spHead cBadText) := by
  obtain ⟨f, fd, A, hm, hk, hb⟩ := T.d_read_head
  refine ⟨f, fd, dfn A sc_read_head (by intro ds S Q E h; obtain ⟨_, rfl, _⟩ := h; rfl) (fun cdv A outer s H E hr => ⟨_, (ds_cons (ds_set 1 (fun _ => sc_read_head.nd) (de_split (de_var 0) de_str))
    (ds_cons (ds_if (DW.dt (dw_or (dt_cmp (oq_ne fun _ => hr) lk_ne (dc_len (fun _ => T.b_len) (da_cons (de_var 1) da_nil)) de_int (nomark _)) (dw_or (dt_cmp (oq_ne fun _ => hr) lk_ne (de_at (de_var 1) de_int) de_str (nomark _)) (dw_or1 (dt_cmp (oq_ne fun _ => hr) lk_ne (de_at (de_var 1) de_int) de_str (nomark _))))))
    (ds_one (ds_raiseC (fun _ => rfl) e_BadText (fun _ => rfl) (fun _ => rfl) (fun _ => rfl) (fun _ => rfl) (fun _ => bodyTk) (fun _ => hr) (by omega) de_int))
    ds_nil)
    (ds_cons (ds_set 2 (fun _ => sc_read_head.nd) (de_callC (fun _ => c_number_in) (fun _ => hr) (by omega) (fun _ => bodyTk) (da_cons (de_at (de_var 1) de_int) da_nil)))
    (ds_cons (ds_set 3 (fun _ => sc_read_head.nd) (de_callC (fun _ => c_number_in) (fun _ => hr) (by omega) (fun _ => bodyTk) (da_cons (de_at (de_var 1) de_int) da_nil)))
    (ds_cons (ds_if (DW.dt (dw_or (dt_cmp (fun _ => op_isN) lk_isN (de_var 2) de_non (nomark _)) (dw_or (dt_cmp (fun _ => op_isN) lk_isN (de_var 3) de_non (nomark _)) (dw_or1 (dt_not (dt_chain (fun _ => op_lt) (fun _ => op_le) lk_lt lk_le (de_var 3) (de_var 2) (de_k (fun _ => rfl) T.k_MOST_STAMPS)))))))
    (ds_one (ds_raiseC (fun _ => rfl) e_BadText (fun _ => rfl) (fun _ => rfl) (fun _ => rfl) (fun _ => rfl) (fun _ => bodyTk) (fun _ => hr) (by omega) de_int))
    ds_nil)
    (ds_one (ds_ret (de_tup (da_cons (de_var 2) (da_cons (de_var 3) da_nil)))))))))), fun ds S Q E h => ?_⟩), hm, hk, hb⟩
  obtain ⟨l, rfl, hl, h1, h2⟩ := h
  walk_at "go"
  refine o_split (by decide) (mid (by omega)) ?_
  have pw : ∀ y ∈ Txt.split l " ", y.length ≤ 3000000 := fun y m => Nat.le_trans (split_part m) hl
  have eh : headOf l = (match Txt.split l " " with
    | [a, b, c, d] => if a = "stamps" ∧ c = "first" then (match figOf b, figOf d with
      | some m, some f => if f < m ∧ m ≤ 400 then some (m, f) else none
      | _, _ => none) else none
    | _ => none) := rfl
  generalize Txt.split l " " = ws at pw eh ⊢
  walk_at "go"
  rw [Bool.true_xor, List.length_map]
  by_cases h4 : ws.length = 4
  · obtain ⟨a, b, c, d, rfl⟩ : ∃ a b c d, ws = [a, b, c, d] := by
      match ws, h4 with
      | [a, b, c, d], _ => exact ⟨a, b, c, d, rfl⟩
    have eh : headOf l = if a = "stamps" ∧ c = "first" then (match figOf b, figOf d with
      | some m, some f => if f < m ∧ m ≤ 400 then some (m, f) else none
      | _, _ => none) else none := eh
    have q : decide ((([a, b, c, d] : List Str).length : Int) = 4) = true := rfl
    rw [q]
    walk_at "go"
    rw [Bool.true_xor]
    refine not_if (ifD (fun ca => ?_) (fun ca => ?_))
    · walk_at "go"
      rw [Bool.true_xor]
      refine not_if (ifD (fun cc => ?_) (fun cc => ?_))
      · rw [if_pos ⟨ca, cc⟩] at eh
        walk_at "go"
        refine ⟨b, rfl, Nat.le_trans (pw b (by simp)) (by decide), ?_⟩
        walk_at "go"
        refine ⟨d, rfl, Nat.le_trans (pw d (by simp)) (by decide), ?_⟩
        cases eb : figOf b with
        | none =>
          rw [eb] at eh
          walk_at "go"
          exact h1 eh
        | some m =>
          cases ed : figOf d with
          | none =>
            rw [eb, ed] at eh
            walk_at "go"
            exact h1 eh
          | some f =>
            rw [eb, ed] at eh
            have eh : headOf l = if f < m ∧ m ≤ 400 then some (m, f) else none := eh
            have es : ∀ k, optD (some k) = natD k := fun _ => rfl
            rw [es, es]
            walk_at "go"
            refine ifD (fun c1 => ?_) (fun c1 => ?_)
            · walk_at "go"
              refine not_if (ifD (fun c2 => ?_) (fun c2 => ?_))
              · rw [if_pos (by omega)] at eh
                walk_at "go"
                exact h2 m f eh
              · rw [if_neg (by omega)] at eh
                walk_at "go"
                exact h1 eh
            · rw [if_neg (by omega)] at eh
              walk_at "go"
              exact h1 eh
      · rw [if_neg (fun z => cc z.2)] at eh
        walk_at "go"
        exact h1 eh
    · rw [if_neg (fun z => ca z.1)] at eh
      walk_at "go"
      exact h1 eh
  · have q : decide ((ws.length : Int) = 4) = false := decide_eq_false (by omega)
    rw [q]
    walk_at "go"
    refine h1 (eh.trans ?_)
    match ws, h4 with
    | [], _ => rfl
    | [_], _ => rfl
    | [_, _], _ => rfl
    | [_, _, _], _ => rfl
    | [_, _, _, _], h4 => exact absurd rfl h4
    | _ :: _ :: _ :: _ :: _ :: _, _ => rfl
def getF (f : Str → Option D) : D → D
  | .str z => (f z).getD .non
  | _ => .non
def hasF (f : Str → Option D) : D → Bool
  | .str z => (f z).isSome
  | _ => false
theorem has_all {f : Str → Option D} {ps : List Str} : (ps.map D.str).all (hasF f) = (mapO f ps).isSome := by
  rw [mapO_all, List.all_map]; rfl
theorem get_all {f : Str → Option D} : ∀ {ps : List Str} {ks : List D}, mapO f ps = some ks → (ps.map D.str).map (getF f) = ks
  | [], ks, h => by cases h; rfl
  | w :: ws, ks, h => by
    rw [mapO] at h
    split at h
    · rename_i k ks' e1 e2
      cases h
      rw [List.map_cons, List.map_cons, get_all e2]
      show (f w).getD .non :: ks' = k :: ks'
      rw [e1]; rfl
    · cases h
theorem cut2 {a b : D} {xs : List D} : Dy.cutD (a :: b :: xs) (some 2) none = xs := by rw [cut_drop (by decide)]; rfl
def spTable (cBadText : Addr) : DSp := fun ds S Q E => ∃ (ls : List Str) (begin wide many : Nat) (w : Str) (m : D) (kvs : KVD) (f : Str → Option D), ds = [.lst (ls.map .str), natD begin, .str w, natD wide, m, natD many] ∧ ls.length ≤ 3000000 ∧ (∀ l ∈ ls, l.length ≤ 3000000) ∧ begin ≤ 10000 ∧ wide ≤ 1000 ∧ many ≤ 1000 ∧
  (∀ S', dvOf S' m = some kvs) ∧ (∀ z, valD kvs (.inr z) = f z) ∧
  (∀ k S', collect (gRow f w wide ls begin) begin many = .inl k → Grown S S' → E ⟨cBadText, some [("line", natD (k + 1))]⟩ S') ∧
  (∀ rs S', collect (gRow f w wide ls begin) begin many = .inr rs → Grown S S' → Q (.tup (rs.map .tup)) S')
theorem ok_read_table (T : Txt K mg cCopyError cBadText cBook) (e_BadText : CalE P w K mg base "BadText" cBadText "line") : Cal P w K mg base "read_table" 4 ["lines", "begin", "word", "length", "meanings", "many"] (spTable cBadText) := by
  obtain ⟨f, fd, A, hm, hk, hb⟩ := T.d_read_table
  refine ⟨f, fd, dfn A sc_read_table (by intro ds S Q E h; obtain ⟨_, _, _, _, _, _, _, _, rfl, _⟩ := h; rfl) (fun cdv A outer s H E hr => ⟨_, (ds_cons (ds_set 6 (fun _ => sc_read_table.nd) (de_new da_nil))
    (ds_cons (ds_for (fun _ => bodyHp) (fun _ => rfl) (di_rng1 (by intro _; rfl) (fun _ => T.b_range) (da_cons (de_var 5) da_nil)) (dg_name 7 (fun _ => sc_read_table.nd))
    (ds_cons (ds_set 8 (fun _ => sc_read_table.nd) (de_add (de_var 1) (de_var 7)))
    (ds_cons (ds_set 9 (fun _ => sc_read_table.nd) (de_ifExp (dt_cmp (fun _ => op_lt) lk_lt (de_var 8) (dc_len (fun _ => T.b_len) (da_cons (de_var 0) da_nil)) (nomark _)) (de_split (de_at (de_var 0) (de_var 8)) de_str) (de_lst da_nil)))
    (ds_cons (ds_if (DW.dt (dw_or (dt_cmp (oq_ne fun _ => hr) lk_ne (dc_len (fun _ => T.b_len) (da_cons (de_var 9) da_nil)) (de_add (de_var 3) de_int) (nomark _)) (dw_or (dt_cmp (oq_ne fun _ => hr) lk_ne (de_at (de_var 9) de_int) (de_var 2) (nomark _)) (dw_or1 (dt_cmp (oq_ne fun _ => hr) lk_ne (de_at (de_var 9) de_int) (dc_str (fun _ => T.b_str) (da_cons (de_var 7) da_nil)) (nomark _))))))
    (ds_one (ds_raiseC (fun _ => rfl) e_BadText (fun _ => rfl) (fun _ => rfl) (fun _ => rfl) (fun _ => rfl) (fun _ => bodyTk) (fun _ => hr) (by omega) (de_add (de_var 8) de_int)))
    ds_nil)
    (ds_cons (ds_if (dt_not (dt_val (dc_all (fun _ => rfl) (fun _ => T.b_all) (da_cons (de_lc 10 (fun _ => rfl) (fun _ => sc_read_table.nd) (di_sq (de_slL (de_var 9) (do_some de_int) do_none)) (fun _ => blkOk_by (N := N_read_table) (sc := defScope s_read_table) (by decide +kernel)) dts_nil (de_cmp (fun i => oq_dIn (fun _ => hr) i) (lk_dIn false) (de_var 10) (de_var 4) (by rfl)) (fun _ => pg_name (i := 10) sc_read_table.nd rfl (Or.inl rfl))) da_nil))))
    (ds_one (ds_raiseC (fun _ => rfl) e_BadText (fun _ => rfl) (fun _ => rfl) (fun _ => rfl) (fun _ => rfl) (fun _ => bodyTk) (fun _ => hr) (by omega) (de_add (de_var 8) de_int)))
    ds_nil)
    (ds_one (ds_expr (de_append (de_var 6) (da_cons (dc_tuple (fun _ => T.b_tuple) (da_cons (de_lc 10 (fun _ => rfl) (fun _ => sc_read_table.nd) (di_sq (de_slL (de_var 9) (do_some de_int) do_none)) (fun _ => blkOk_by (N := N_read_table) (sc := defScope s_read_table) (by decide +kernel)) dts_nil (de_dget (fun _ => hr) (de_var 4) (de_var 10)) (fun _ => pg_name (i := 10) sc_read_table.nd rfl (Or.inl rfl))) da_nil)) da_nil)))))))))
    (ds_one (ds_ret (dc_tuple (fun _ => T.b_tuple) (da_cons (de_var 6) da_nil)))))), fun ds S Q E h => ?_⟩), hm, hk, hb⟩
  obtain ⟨ls, begin, wide, many, w, m, kvs, f, rfl, hn, hl, hb, hw, hm, hd, hf, hbad, hok⟩ := h
  have gp : (S ++ [SO.lst []])[S.length]? = some (.lst []) := by rw [List.getElem?_append_right (Nat.le_refl _)]; simp
  have g0 : Grown S (S ++ [SO.lst []]) := ⟨by simp, fun m hm => List.getElem?_append_left hm⟩
  walk_at "go"
  generalize S ++ [SO.lst []] = S0 at gp g0 ⊢
  refine ⟨_, rfl, by omega, by omega, ?_⟩
  rw [Int.toNat_natCast]
  generalize hg : gRow f w wide ls begin = g at hbad hok
  refine ⟨fun i ρ S' => Grown S S' ∧ i ≤ many ∧ ∃ acc : List (List D), acc.length = i ∧ S'[S.length]? = some (.lst (acc.map .tup)) ∧ collect g begin many = goL acc (collect g (begin + i) (many - i)) ∧ ∃ o7 o8 o9 o10, ρ = [some (.lst (ls.map .str)), some (natD begin), some (.str w), some (natD wide), some m, some (natD many), some (.ref S.length), o7, o8, o9, o10],
    ⟨g0, Nat.zero_le _, [], rfl, gp, goL_nil.symm, none, none, none, none, rfl⟩, fun _ _ _ _ _ => trivial, ?_, ?_⟩
  · rintro i x ρ S1 hx ⟨g1, hi0, acc, ha, e1, hc, o7, o8, o9, o10, rfl⟩
    have hi : i < many := by
      have := (List.getElem?_eq_some_iff.mp hx).1
      rw [rng_len] at this
      exact this
    have hx2 : (rngD 0 many)[i]? = some (natD i) := by
      unfold rngD
      rw [List.getElem?_map, List.getElem?_range hi]
      show some (D.int (0 + (i : Int))) = _
      rw [Int.zero_add]
    rw [hx] at hx2
    cases hx2
    have em : many - i = many - i - 1 + 1 := by omega
    have ea : (begin : Int) + (i : Int) = ((begin + i : Nat) : Int) := (Int.natCast_add _ _).symm
    have bad : g (begin + i) = none → E ⟨cBadText, some [("line", .int ((begin : Int) + (i : Int) + 1))]⟩ S1 := fun e => by
      have e2 : D.int ((begin : Int) + (i : Int) + 1) = natD (begin + i + 1) := rfl
      rw [e2]
      refine hbad (begin + i) S1 ?_ g1
      rw [hc, em]
      exact goL_bad e
    have l1 : S.length < S1.length := (List.getElem?_eq_some_iff.mp e1).1
    walk_at "go"
    refine ifD (fun c1 => ?_) (fun c1 => ?_)
    · rw [List.length_map] at c1
      have hlt : begin + i < ls.length := by omega
      have pl := hl ls[begin + i] (List.getElem_mem hlt)
      have el : atI (ls.map D.str) ((begin : Int) + (i : Int)) = some (.str ls[begin + i]) := by rw [ea, atN, List.getElem?_map, List.getElem?_eq_getElem hlt]; rfl
      have eg : g (begin + i) = rowM f w wide i ls[begin + i] := by
        rw [← hg]
        unfold gRow
        rw [List.getElem?_eq_getElem hlt, Nat.add_sub_cancel_left]; rfl
      generalize ls[begin + i] = l at pl el eg
      walk_at "go"
      refine o_ix rfl el ?_
      walk_at "go"
      refine o_split (by decide) (mid (by omega)) ?_
      unfold rowM at eg
      have nw : (Txt.split l " ").length ≤ 3000002 := Nat.le_trans (split_many _ _) (by omega)
      generalize Txt.split l " " = ws at eg nw ⊢
      have e2 : ((wide : Int) + 2) = ((wide + 2 : Nat) : Int) := rfl
      walk_at "go"
      rw [List.length_map]
      by_cases h2 : ws.length = wide + 2
      · obtain ⟨a, b, ps, rfl⟩ : ∃ a b ps, ws = a :: b :: ps := by
          match ws, h2 with
          | a :: b :: ps, _ => exact ⟨a, b, ps, rfl⟩
        have hps : ps.length = wide := by simpa using h2
        have q : decide ((((a :: b :: ps).length : Nat) : Int) = (wide : Int) + 2) = true := decide_eq_true (by simp only [List.length_cons]; omega)
        have eg : g (begin + i) = if a = w ∧ figOf b = some i ∧ ps.length = wide then mapO f ps else none := eg
        rw [q]
        walk_at "go"
        rw [Bool.true_xor]
        refine not_if (ifD (fun c2 => ?_) (fun c2 => ?_))
        · walk_at "go"
          refine o_strN (log_strN (by omega)) ?_
          walk_at "go"
          rw [Bool.true_xor]
          refine not_if (ifD (fun c3 => ?_) (fun c3 => ?_))
          · have c3 : b = strN i := c3
            rw [if_pos ⟨c2, by rw [c3]; exact figOf_num (by omega), hps⟩] at eg
            have ec : Dy.cutD ((a :: b :: ps).map D.str) (some 2) none = ps.map D.str := cut2
            have lps : (ps.map D.str).length ≤ 4000000 := by rw [List.length_map]; simp only [List.length_cons] at nw; omega
            walk_at "go"
            rw [ec]
            refine o_lcM (fun x => .bl (hasF f x)) rfl (mid lps) (fun y my Pz hP => ?_) ?_
            · obtain ⟨z, mz, rfl⟩ := List.mem_map.mp my
              walk_at "go"
              refine o_dIn (hd _) rfl ?_
              rw [Bool.false_xor, hf]
              exact hP
            walk_at "go"
            refine o_all (g := hasF f) ?_
            rw [has_all]
            walk_at "go"
            cases em2 : mapO f ps with
            | none =>
              walk_at "go"
              exact bad (eg.trans em2)
            | some rs =>
              walk_at "go"
              rw [ec]
              refine o_lcM (getF f) rfl (mid lps) (fun y my Pz hP => ?_) ?_
              · obtain ⟨z, mz, rfl⟩ := List.mem_map.mp my
                obtain ⟨v, ev⟩ : ∃ v, f z = some v := by
                  have h3 := mapO_all (f := f) (ws := ps)
                  rw [em2] at h3
                  exact Option.isSome_iff_exists.mp (List.all_eq_true.mp h3.symm z mz)
                have hP : Pz ((f z).getD .non) S1 := hP
                rw [ev] at hP
                walk_at "go"
                exact o_dget (hd _) rfl ((hf z).trans ev) hP
              rw [get_all em2]
              walk_at "go"
              refine o_app e1 (Nat.lt_of_lt_of_le (by rw [List.length_map]; omega : (acc.map D.tup).length < 10000) (small (by decide))) fun S2 l2 f2 m2 => ?_
              walk_at "go"
              refine ⟨⟨by have := g1.1; omega, fun m hm => (m2 m (by omega)).trans (g1.2 m hm)⟩, by omega, acc ++ [rs], by simp [ha], ?_, ?_, _, _, _, _, rfl⟩
              · rw [f2, List.map_append]; rfl
              · rw [hc, em, goL_step (eg.trans em2), show begin + i + 1 = begin + (i + 1) by omega, show many - i - 1 = many - (i + 1) by omega]
          · walk_at "go"
            refine bad (eg.trans (if_neg fun z => c3 ?_))
            exact fig_eq z.2.1
        · walk_at "go"
          exact bad (eg.trans (if_neg fun z => c2 z.1))
      · have q : decide (((ws.length : Nat) : Int) = (wide : Int) + 2) = false := decide_eq_false (by omega)
        rw [q]
        walk_at "go"
        refine bad (eg.trans ?_)
        match ws, h2 with
        | [], _ => rfl
        | [_], _ => rfl
        | a :: b :: ps, h2 => exact if_neg fun z => h2 (by simp [z.2.2])
    · rw [List.length_map] at c1
      have eg : g (begin + i) = none := by
        rw [← hg]
        unfold gRow
        rw [List.getElem?_eq_none (by omega)]; rfl
      have q : decide (((([] : List D).length : Nat) : Int) = (wide : Int) + 2) = false := decide_eq_false (by simp only [List.length_nil]; omega)
      walk_at "go"
      exact bad eg
  · rintro ρ S1 ⟨g1, hi0, acc, ha, e1, hc, o7, o8, o9, o10, rfl⟩
    rw [rng_len] at hc ha
    walk_at "go"
    refine hok acc S1 ?_ g1
    rw [hc, Nat.sub_self]
    show (Sum.inr (acc ++ []) : Nat ⊕ List (List D)) = _
    rw [List.append_nil]
end
open PySem PySem.Spec PyProof.Rows L2 Dy
section
variable {cCopyError cBadText cBook : Addr} {P : Program} {w : World} {K : PySem.W.Frag} {mg : Str → Option Value} {base : Heap}
theorem btw_nat {N : Nat} {x : Nat} (h : x < N) : btw 0 ((N : Int) - 1) (natD x) = true := by
  show (decide ((0 : Int) ≤ x) && decide ((x : Int) ≤ (N : Int) - 1)) = true
  rw [decide_eq_true (by omega), decide_eq_true (by omega)]; rfl
theorem stamps_ok {N : Nat} {r : List Nat} {n : Int} (hl : (r.length : Int) = n) (h : ∀ x ∈ r, x < N) : stampsOk n N (natsD r) = true := by
  show (decide (((r.map natD).length : Int) = n) && (r.map natD).all (btw 0 ((N : Int) - 1))) = true
  rw [decide_eq_true (by rw [List.length_map]; exact hl), List.all_eq_true.mpr fun x m => by
    obtain ⟨c, mc, rfl⟩ := List.mem_map.mp m
    exact btw_nat (h c mc)]
  rfl
theorem rows_ok {N : Nat} {t : List (List Nat)} {n : Int} (hl : t.length = N) (h : ∀ r ∈ t, (r.length : Int) = n ∧ ∀ x ∈ r, x < N) : rowsOk n N (rowsD t) = true := by
  show (decide (((t.map natsD).length : Int) = N) && (t.map natsD).all (stampsOk n N)) = true
  rw [decide_eq_true (by rw [List.length_map, hl]), List.all_eq_true.mpr fun x m => by
    obtain ⟨r, mr, rfl⟩ := List.mem_map.mp m
    exact stamps_ok (h r mr).1 (h r mr).2]
  rfl
theorem looks_ok {N : Nat} {t : List (List Str)} (hl : t.length = N) (h : ∀ r ∈ t, r.length = N ∧ ∀ x ∈ r, x ∈ bwords) : looksOk N (.tup (t.map strsD)) = true := by
  show (decide (((t.map strsD).length : Int) = N) && (t.map strsD).all (wordsOk N)) = true
  rw [decide_eq_true (by rw [List.length_map, hl]), List.all_eq_true.mpr fun x m => by
    obtain ⟨r, mr, rfl⟩ := List.mem_map.mp m
    show (decide (((r.map D.str).length : Int) = N) && (r.map D.str).all (inS words)) = true
    rw [decide_eq_true (by rw [List.length_map, (h r mr).1]), List.all_eq_true.mpr fun x m => by
      obtain ⟨s, ms, rfl⟩ := List.mem_map.mp m
      exact List.any_eq_true.mpr ⟨s, (h r mr).2 s ms, decide_eq_true rfl⟩]
    rfl]
  rfl
theorem dat_nats {r : List Nat} (h : r.length ≤ 1000) : Dat (natsD r) := .tup (fun x m => by obtain ⟨c, _, rfl⟩ := List.mem_map.mp m; exact .int _) (by rw [List.length_map]; exact h)
theorem dat_rows {t : List (List Nat)} (hl : t.length ≤ 1000) (h : ∀ r ∈ t, r.length ≤ 1000) : Dat (rowsD t) := .tup (fun x m => by obtain ⟨r, mr, rfl⟩ := List.mem_map.mp m; exact dat_nats (h r mr)) (by rw [List.length_map]; exact hl)
theorem dat_looks {t : List (List Str)} (hl : t.length ≤ 1000) (h : ∀ r ∈ t, r.length ≤ 1000) : Dat (.tup (t.map strsD)) := .tup (fun x m => by
  obtain ⟨r, mr, rfl⟩ := List.mem_map.mp m
  exact .tup (fun y my => by obtain ⟨c, _, rfl⟩ := List.mem_map.mp my; exact .str _) (by rw [List.length_map]; exact h r mr)) (by rw [List.length_map]; exact hl)
theorem book_ok {b : Bk} {N : Nat} (h : b.Ok N) : Dat (natD b.f) ∧ Dat (natsD b.cs) ∧ Dat (rowsD b.ks) ∧ Dat (rowsD b.js) ∧ Dat (looksD b.ls) ∧ wrongD (natD b.f) (natsD b.cs) (rowsD b.ks) (rowsD b.js) (looksD b.ls) = none := by
  have n1 := h.n1
  have n4 := h.n4
  refine ⟨.int _, dat_nats (by rw [h.cl]; omega), dat_rows (by rw [h.kl]; omega) (fun r m => by rw [(h.k r m).1]; decide), dat_rows (by rw [h.jl]; omega) (fun r m => by rw [(h.j r m).1]; omega), ?_, ?_⟩
  · cases e : b.ls with
    | none => exact .non
    | some t =>
      have ht := h.l t e
      exact dat_looks (by rw [ht.1]; omega) fun r m => by rw [(ht.2 r m).1]; omega
  · show wrongM ((b.cs.map natD).length : Int) _ _ _ _ _ = none
    have el : (((b.cs.map natD).length : Nat) : Int) = (N : Int) := by rw [List.length_map, h.cl]
    rw [el]
    have e1 : (decide ((1 : Int) ≤ N) && decide ((N : Int) ≤ 400) && stampsOk N N (natsD b.cs)) = true := by
      rw [decide_eq_true (by omega), decide_eq_true (by omega), stamps_ok (by rw [h.cl]) h.c]; rfl
    have e2 := btw_nat h.f
    have e3 : rowsOk 2 N (rowsD b.ks) = true := rows_ok h.kl fun r m => ⟨by rw [(h.k r m).1]; rfl, (h.k r m).2⟩
    have e4 : rowsOk N N (rowsD b.js) = true := rows_ok h.jl fun r m => ⟨by rw [(h.j r m).1], (h.j r m).2⟩
    have e5 : (isN (looksD b.ls) || looksOk N (looksD b.ls)) = true := by
      cases e : b.ls with
      | none => rfl
      | some t =>
        have ht := h.l t e
        rw [show looksD (some t) = .tup (t.map strsD) from rfl, looks_ok ht.1 ht.2, Bool.or_true]
    unfold wrongM
    rw [if_pos e1, if_pos e2, if_pos e3, if_pos e4, if_pos e5]
def keyI : D → Key
  | .int i => .inr (Str.ofString (toString i))
  | d => .inr ""
def keyS : D → Key
  | .str s => .inr (letW s)
  | d => .inr ""
def hd1 : D → D
  | .tup (x :: _) => x
  | d => d
theorem nodup_map {α β : Type} {f : α → β} : ∀ {l : List α}, (∀ a b, a ∈ l → b ∈ l → f a = f b → a = b) → l.Nodup → (l.map f).Nodup
  | [], _, _ => List.nodup_nil
  | x :: l, h, nd => by
    rw [List.nodup_cons] at nd
    rw [List.map_cons, List.nodup_cons]
    refine ⟨fun m => ?_, nodup_map (fun a b ma mb => h a b (List.mem_cons_of_mem _ ma) (List.mem_cons_of_mem _ mb)) nd.2⟩
    obtain ⟨y, my, e⟩ := List.mem_map.mp m
    have := h y x (List.mem_cons_of_mem _ my) (by simp) e
    exact nd.1 (this ▸ my)
def spRead (cBadText cBook : Addr) : DSp := fun ds S Q E => ∃ d, ds = [d] ∧ ((Odd cBook S d ∧ E ⟨cBadText, some [("line", .int 0)]⟩ S) ∨ ∃ z, d = .str z ∧ z.length ≤ 2000000 ∧
  (∀ k S', readB z = .inl k → Grown S S' → E ⟨cBadText, some [("line", natD k)]⟩ S') ∧
  (∀ b n S', readB z = .inr b → Grown S S' → S.length ≤ n → S'[n]? = some (.ins cBook (fldB b)) → Q (.ref n) S'))
theorem ok_read_book (T : Txt K mg cCopyError cBadText cBook) (c_check_text : Cal P w K mg base "check_text" 3 ["thing"] (spChkT cBadText cBook)) (c_read_head : Cal P w K mg base "read_head" 4 ["line"] (spHead cBadText)) (c_read_table : Cal P w K mg base "read_table" 4 ["lines", "begin", "word", "length", "meanings", "many"] (spTable cBadText)) (e_BadText : CalE P w K mg base "BadText" cBadText "line") (c_Book : CalM P w K mg base "Book" cBook 6 ["self", "first", "changes", "forks", "joins", "looks"] (spInit cBook)) : Cal P w K mg base "read_book" 8 ["text"] (spRead cBadText cBook) := by
  obtain ⟨f, fd, A, hm, hk, hb⟩ := T.d_read_book
  refine ⟨f, fd, dfn A sc_read_book (by intro ds S Q E h; obtain ⟨_, rfl, _⟩ := h; rfl) (fun cdv A outer s H E hr => ⟨_, (ds_cons (ds_expr (de_callC (fun _ => c_check_text) (fun _ => hr) (by omega) (fun _ => bodyTk) (da_cons (de_var 0) da_nil)))
    (ds_cons (ds_set 1 (fun _ => sc_read_book.nd) (de_split (de_var 0) de_str))
    (ds_cons (ds_asg (de_callC (fun _ => c_read_head) (fun _ => hr) (by omega) (fun _ => bodyTk) (da_cons (de_at (de_var 1) de_int) da_nil)) (dg_tup (n := 2) (fun _ => rfl) (dgs_cons (dg_name 2 (fun _ => sc_read_book.nd)) (dgs_cons (dg_name 3 (fun _ => sc_read_book.nd)) dgs_nil))))
    (ds_cons (ds_setDc 4 10 (fun _ => rfl) (fun _ => sc_read_book.nd) (di_rng1 (by intro _; rfl) (fun _ => T.b_range) (da_cons (de_var 2) da_nil)) (fun _ => blkOk_by (N := N_read_book) (sc := defScope s_read_book) (by decide +kernel)) dts_nil (dc_str (fun _ => T.b_str) (da_cons (de_var 10) da_nil)) (de_var 10) (fun _ => pg_name (i := 10) sc_read_book.nd rfl (Or.inl rfl)) (fun _ => sw_trueD rfl rfl rfl (by decide +kernel)))
    (ds_cons (ds_set 5 (fun _ => sc_read_book.nd) (de_callC (fun _ => c_read_table) (fun _ => hr) (by omega) (fun _ => bodyTk) (da_cons (de_var 1) (da_cons de_int (da_cons de_str (da_cons de_int (da_cons (de_var 4) (da_cons (de_var 2) da_nil))))))))
    (ds_cons (ds_set 6 (fun _ => sc_read_book.nd) (de_callC (fun _ => c_read_table) (fun _ => hr) (by omega) (fun _ => bodyTk) (da_cons (de_var 1) (da_cons (de_add de_int (de_var 2)) (da_cons de_str (da_cons de_int (da_cons (de_var 4) (da_cons (de_var 2) da_nil))))))))
    (ds_cons (ds_set 7 (fun _ => sc_read_book.nd) (de_callC (fun _ => c_read_table) (fun _ => hr) (by omega) (fun _ => bodyTk) (da_cons (de_var 1) (da_cons (de_add de_int (de_mul de_int (de_var 2))) (da_cons de_str (da_cons (de_var 2) (da_cons (de_var 4) (da_cons (de_var 2) da_nil))))))))
    (ds_cons (ds_set 8 (fun _ => sc_read_book.nd) de_non)
    (ds_cons (ds_if (dt_cmp (fun _ => op_gt) lk_gt (dc_len (fun _ => T.b_len) (da_cons (de_var 1) da_nil)) (de_add de_int (de_mul de_int (de_var 2))) (nomark _))
    (ds_cons (ds_setDc 9 11 (fun _ => rfl) (fun _ => sc_read_book.nd) (di_sq (de_k (fun _ => rfl) T.k_WORDS)) (fun _ => blkOk_by (N := N_read_book) (sc := defScope s_read_book) (by decide +kernel)) dts_nil (de_atS (de_var 11) de_int) (de_var 11) (fun _ => pg_name (i := 11) sc_read_book.nd rfl (Or.inl rfl)) (fun _ => sw_trueD rfl rfl rfl (by decide +kernel)))
    (ds_one (ds_set 8 (fun _ => sc_read_book.nd) (de_callC (fun _ => c_read_table) (fun _ => hr) (by omega) (fun _ => bodyTk) (da_cons (de_var 1) (da_cons (de_add de_int (de_mul de_int (de_var 2))) (da_cons de_str (da_cons (de_var 2) (da_cons (de_var 9) (da_cons (de_var 2) da_nil))))))))))
    ds_nil)
    (ds_cons (ds_if (dt_cmp (fun _ => op_gt) lk_gt (dc_len (fun _ => T.b_len) (da_cons (de_var 1) da_nil)) (de_add de_int (de_mul de_int (de_var 2))) (nomark _))
    (ds_one (ds_raiseC (fun _ => rfl) e_BadText (fun _ => rfl) (fun _ => rfl) (fun _ => rfl) (fun _ => rfl) (fun _ => bodyTk) (fun _ => hr) (by omega) (de_add de_int (de_mul de_int (de_var 2)))))
    ds_nil)
    (ds_one (ds_ret (de_makeC (fun _ => c_Book) (fun _ => hr) (by omega) (fun _ => bodyTk) (da_cons (de_var 3) (da_cons (dc_tuple (fun _ => T.b_tuple) (da_cons (de_lc 12 (fun _ => rfl) (fun _ => sc_read_book.nd) (di_sq (de_var 5)) (fun _ => blkOk_by (N := N_read_book) (sc := defScope s_read_book) (by decide +kernel)) dts_nil (de_at (de_var 12) de_int) (fun _ => pg_name (i := 12) sc_read_book.nd rfl (Or.inl rfl))) da_nil)) (da_cons (de_var 6) (da_cons (de_var 7) (da_cons (de_var 8) da_nil)))))))))))))))))), fun ds S Q E h => ?_⟩), hm, hk, hb⟩
  obtain ⟨d, rfl, ⟨ho, he⟩ | ⟨z, rfl, hz, hbad, hok⟩⟩ := h
  · walk_at "go"
    exact ⟨d, rfl, .inr ⟨ho, he⟩⟩
  walk_at "go"
  refine ⟨_, rfl, .inl ⟨⟨z, rfl⟩, ?_⟩⟩
  walk_at "go"
  refine o_split (by decide) (mid (by omega)) ?_
  have er : readB z = readLs (Txt.split z "\n") := rfl
  have hne := split_ne z "\n"
  have pl : ∀ l ∈ Txt.split z "\n", l.length ≤ 2000000 := fun l m => Nat.le_trans (split_part m) hz
  have nl : (Txt.split z "\n").length ≤ 2000002 := Nat.le_trans (split_many _ _) (by omega)
  generalize Txt.split z "\n" = ls at er hne pl nl ⊢
  cases ls with
  | nil => exact absurd rfl hne
  | cons l0 lr =>
  walk_at "go"
  refine ⟨l0, rfl, Nat.le_trans (pl l0 (by simp)) (by decide), fun h0 => ?_, fun N f h0 => ?_⟩
  · refine hbad 1 S ?_ .refl
    rw [er]
    unfold readLs
    rw [show (l0 :: lr).headD "" = l0 from rfl, h0]
  obtain ⟨hf, hN⟩ := head_ok h0
  have er0 := er
  have er : readB z = match collect (gRow (figN N) "change" 1 (l0 :: lr) 1) 1 N with
    | .inl k => .inl (k + 1)
    | .inr cs =>
      match collect (gRow (figN N) "fork" 2 (l0 :: lr) (1 + N)) (1 + N) N with
      | .inl k => .inl (k + 1)
      | .inr ks =>
        match collect (gRow (figN N) "join" N (l0 :: lr) (1 + 2 * N)) (1 + 2 * N) N with
        | .inl k => .inl (k + 1)
        | .inr js =>
          if 1 + 3 * N < (l0 :: lr).length then
            match collect (gRow fL "look" N (l0 :: lr) (1 + 3 * N)) (1 + 3 * N) N with
            | .inl k => .inl (k + 1)
            | .inr lo => if 1 + 4 * N < (l0 :: lr).length then .inl (2 + 4 * N) else .inr ⟨f, cs.map (·.headD 0), ks, js, some lo⟩
          else .inr ⟨f, cs.map (·.headD 0), ks, js, none⟩ := by
    rw [er]
    unfold readLs
    rw [show (l0 :: lr).headD "" = l0 from rfl, h0]
    all_goals rfl
  walk_at "go"
  refine ⟨_, rfl, by omega, by omega, ?_⟩
  rw [Int.toNat_natCast]
  have en : (rngD 0 N).map keyI = (List.range N).map (fun k => (Sum.inr (strN k) : Key)) := by
    unfold rngD
    rw [List.map_map]
    refine List.map_congr_left fun k _ => ?_
    show (Sum.inr (Str.ofString (toString (0 + (k : Int)))) : Key) = _
    rw [Int.zero_add]; rfl
  have ev : (rngD 0 N).map id = (List.range N).map natD := by
    unfold rngD
    rw [List.map_map]
    refine List.map_congr_left fun k _ => ?_
    show D.int (0 + (k : Int)) = _
    rw [Int.zero_add]
  refine o_dcM keyI id trivial (Nat.lt_of_le_of_lt (by rw [rng_len]; exact hN) (by decide)) ?_ (fun x mx Pz hP => ?_) (fun x mx Pz hP => ?_) ?_
  · rw [en]
    exact nodup_map (fun a b ma mb e => strN_inj (by have := List.mem_range.mp ma; omega) (by have := List.mem_range.mp mb; omega) (Sum.inr.inj e)) List.nodup_range
  · obtain ⟨k, mk, rfl⟩ := List.mem_map.mp mx
    have hk := List.mem_range.mp mk
    walk_at "go"
    exact o_strN (by rw [Int.zero_add]; exact log_strN (by omega)) hP
  · walk_at "go"
    exact hP
  rw [en, ev]
  have nd : ∀ S', dvOf S' (.dic ((List.range N).map (fun k => (Sum.inr (strN k) : Key))) ((List.range N).map natD)) = some (numKV N) := fun S' => by
    show some (((List.range N).map (fun k => (Sum.inr (strN k) : Key))).zip ((List.range N).map natD)) = _
    rw [List.zip_map']; rfl
  generalize D.dic ((List.range N).map (fun k => (Sum.inr (strN k) : Key))) ((List.range N).map natD) = dn at nd ⊢
  have nl' : (l0 :: lr).length ≤ 3000000 := Nat.le_trans nl (by decide)
  have pl' : ∀ l ∈ l0 :: lr, l.length ≤ 3000000 := fun l m => Nat.le_trans (pl l m) (by decide)
  walk_at "go"
  cases hC : collect (gRow (figN N) "change" 1 (l0 :: lr) 1) 1 N with
  | inl k =>
    have hC' : collect (gRow (fun z => (figN N z).map natD) "change" 1 (l0 :: lr) 1) 1 N = .inl k := by rw [table_map, hC]
    refine ⟨l0 :: lr, 1, 1, N, "change", dn, numKV N, fun z => (figN N z).map natD, rfl, nl', pl', by decide, by decide, by omega, nd, num_val hN, fun k' S' h g => ?_, fun rs S' h g => (by rw [hC'] at h; cases h)⟩
    rw [hC'] at h
    cases h
    exact hbad (k + 1) S' (by rw [er, hC]) g
  | inr cs =>
  have hC' : collect (gRow (fun z => (figN N z).map natD) "change" 1 (l0 :: lr) 1) 1 N = .inr (cs.map (·.map natD)) := by rw [table_map, hC]
  refine ⟨l0 :: lr, 1, 1, N, "change", dn, numKV N, fun z => (figN N z).map natD, rfl, nl', pl', by decide, by decide, by omega, nd, num_val hN, fun k' S' h g => (by rw [hC'] at h; cases h), fun rs S1 h g1 => ?_⟩
  rw [hC'] at h
  cases h
  walk_at "go"
  cases hK : collect (gRow (figN N) "fork" 2 (l0 :: lr) (1 + N)) (1 + N) N with
  | inl k =>
    have hK' : collect (gRow (fun z => (figN N z).map natD) "fork" 2 (l0 :: lr) (1 + N)) (1 + N) N = .inl k := by rw [table_map, hK]
    refine ⟨l0 :: lr, 1 + N, 2, N, "fork", dn, numKV N, fun z => (figN N z).map natD, rfl, nl', pl', by omega, by decide, by omega, nd, num_val hN, fun k' S' h g => ?_, fun rs S' h g => (by rw [hK'] at h; cases h)⟩
    rw [hK'] at h
    cases h
    exact hbad (k + 1) S' (by rw [er, hC]; simp only [hK]) (g1.trans g)
  | inr ks =>
  have hK' : collect (gRow (fun z => (figN N z).map natD) "fork" 2 (l0 :: lr) (1 + N)) (1 + N) N = .inr (ks.map (·.map natD)) := by rw [table_map, hK]
  refine ⟨l0 :: lr, 1 + N, 2, N, "fork", dn, numKV N, fun z => (figN N z).map natD, rfl, nl', pl', by omega, by decide, by omega, nd, num_val hN, fun k' S' h g => (by rw [hK'] at h; cases h), fun rs S2 h g2 => ?_⟩
  rw [hK'] at h
  cases h
  have g2 := g1.trans g2
  walk_at "go"
  cases hJ : collect (gRow (figN N) "join" N (l0 :: lr) (1 + 2 * N)) (1 + 2 * N) N with
  | inl k =>
    have hJ' : collect (gRow (fun z => (figN N z).map natD) "join" N (l0 :: lr) (1 + 2 * N)) (1 + 2 * N) N = .inl k := by rw [table_map, hJ]
    refine ⟨l0 :: lr, 1 + 2 * N, N, N, "join", dn, numKV N, fun z => (figN N z).map natD, rfl, nl', pl', by omega, by omega, by omega, nd, num_val hN, fun k' S' h g => ?_, fun rs S' h g => (by rw [hJ'] at h; cases h)⟩
    rw [hJ'] at h
    cases h
    exact hbad (k + 1) S' (by rw [er, hC]; simp only [hK, hJ]) (g2.trans g)
  | inr js =>
  have hJ' : collect (gRow (fun z => (figN N z).map natD) "join" N (l0 :: lr) (1 + 2 * N)) (1 + 2 * N) N = .inr (js.map (·.map natD)) := by rw [table_map, hJ]
  refine ⟨l0 :: lr, 1 + 2 * N, N, N, "join", dn, numKV N, fun z => (figN N z).map natD, rfl, nl', pl', by omega, by omega, by omega, nd, num_val hN, fun k' S' h g => (by rw [hJ'] at h; cases h), fun rs S3 h g3 => ?_⟩
  rw [hJ'] at h
  cases h
  have g3 := g2.trans g3
  have er : readB z = if 1 + 3 * N < (l0 :: lr).length then
            match collect (gRow fL "look" N (l0 :: lr) (1 + 3 * N)) (1 + 3 * N) N with
            | .inl k => .inl (k + 1)
            | .inr lo => if 1 + 4 * N < (l0 :: lr).length then .inl (2 + 4 * N) else .inr ⟨f, cs.map (·.headD 0), ks, js, some lo⟩
          else .inr ⟨f, cs.map (·.headD 0), ks, js, none⟩ := by
    rw [er, hC]
    simp only [hK, hJ]
  have ek : (ks.map (·.map natD)).map D.tup = ks.map natsD := by rw [List.map_map]; rfl
  have ej : (js.map (·.map natD)).map D.tup = js.map natsD := by rw [List.map_map]; rfl
  have ec : ((cs.map (·.map natD)).map D.tup).map hd1 = (cs.map (·.headD 0)).map natD := by
    rw [List.map_map, List.map_map, List.map_map]
    refine List.map_congr_left fun r mr => ?_
    have := ((table_ok hC).2 r mr).1
    match r, this with
    | [a], _ => rfl
  have cl : cs.length = N := (table_ok hC).1
  rw [ek, ej]
  walk_at "go"
  have lastB : ∀ (lo : Option (List (List Str))) (S4 : Store), readB z = .inr ⟨f, cs.map (·.headD 0), ks, js, lo⟩ → Grown S S4 →
      spInit cBook [.ref S4.length, natD f, .tup ((cs.map (·.headD 0)).map natD), .tup (ks.map natsD), .tup (js.map natsD), looksD lo] (S4 ++ [.ins cBook []]) (fun d S2 => d = .non ∧ Q (.ref S4.length) S2) (fun x S1 => E x S1) := fun lo S4 hb g4 => by
    obtain ⟨M, hM⟩ := readLs_ok (er0.symm.trans hb)
    obtain ⟨d1, d2, d3, d4, d5, d6⟩ := book_ok hM
    refine ⟨_, _, _, _, _, _, rfl, by rw [List.getElem?_append_right (Nat.le_refl _)]; simp, d1, d2, d3, d4, d5, d6, fun S' hl hn hm => ⟨rfl, hok _ _ S' hb ⟨?_, fun m hlt => ?_⟩ g4.1 hn⟩⟩
    · have := g4.1
      rw [hl, List.length_append]
      omega
    · have := g4.1
      rw [hm m (by omega), List.getElem?_append_left (by omega)]
      exact g4.2 m hlt
  have rowsT : ∀ (x : D), x ∈ (cs.map (·.map natD)).map D.tup → ∃ a, x = .tup [natD a] := fun x mx => by
    obtain ⟨y, my, rfl⟩ := List.mem_map.mp mx
    obtain ⟨r, mr, rfl⟩ := List.mem_map.mp my
    have := ((table_ok hC).2 r mr).1
    match r, this with
    | [a], _ => exact ⟨a, rfl⟩
  have czl : ((cs.map (·.map natD)).map D.tup).length ≤ 4000000 := by rw [List.length_map, List.length_map, cl]; omega
  refine ifD (fun c1 => ?_) (fun c1 => ?_)
  · rw [List.length_map] at c1
    have c1' : 1 + 3 * N < (l0 :: lr).length := by omega
    rw [if_pos c1'] at er
    walk_at "go"
    refine o_dcM keyS id rfl (Nat.lt_of_le_of_lt (by decide : (words.map D.str).length ≤ 10) (by decide)) ?_ (fun x mx Pz hP => ?_) (fun x mx Pz hP => ?_) ?_
    · have q : (words.map D.str).map keyS = [.inr "s", .inr "n", .inr "e", .inr "a"] := rfl
      rw [q]
      decide +kernel
    · obtain ⟨y, my, rfl⟩ := List.mem_map.mp mx
      obtain ⟨c, r, e1, e2⟩ := let_at my
      walk_at "go"
      refine o_atS e1 ?_
      rw [e2]
      exact hP
    · walk_at "go"
      exact hP
    have ld : ∀ S', dvOf S' (.dic ((words.map D.str).map keyS) ((words.map D.str).map id)) = some letKV := fun S' => rfl
    generalize D.dic ((words.map D.str).map keyS) ((words.map D.str).map id) = dl at ld ⊢
    walk_at "go"
    cases hL : collect (gRow fL "look" N (l0 :: lr) (1 + 3 * N)) (1 + 3 * N) N with
    | inl k =>
      have hL' : collect (gRow (fun z => (fL z).map D.str) "look" N (l0 :: lr) (1 + 3 * N)) (1 + 3 * N) N = .inl k := by rw [table_map, hL]
      refine ⟨l0 :: lr, 1 + 3 * N, N, N, "look", dl, letKV, fun z => (fL z).map D.str, rfl, nl', pl', by omega, by omega, by omega, ld, let_val, fun k' S' h g => ?_, fun rs S' h g => (by rw [hL'] at h; cases h)⟩
      rw [hL'] at h
      cases h
      exact hbad (k + 1) S' (by rw [er]; simp only [hL]) (g3.trans g)
    | inr lo =>
    have hL' : collect (gRow (fun z => (fL z).map D.str) "look" N (l0 :: lr) (1 + 3 * N)) (1 + 3 * N) N = .inr (lo.map (·.map D.str)) := by rw [table_map, hL]
    refine ⟨l0 :: lr, 1 + 3 * N, N, N, "look", dl, letKV, fun z => (fL z).map D.str, rfl, nl', pl', by omega, by omega, by omega, ld, let_val, fun k' S' h g => (by rw [hL'] at h; cases h), fun rs S4 h g4 => ?_⟩
    rw [hL'] at h
    cases h
    have g4 := g3.trans g4
    have el : (lo.map (·.map D.str)).map D.tup = lo.map strsD := by rw [List.map_map]; rfl
    rw [el]
    have er : readB z = if 1 + 4 * N < (l0 :: lr).length then .inl (2 + 4 * N) else .inr ⟨f, cs.map (·.headD 0), ks, js, some lo⟩ := by
      rw [er]
      simp only [hL]
    walk_at "go"
    rw [List.length_map]
    refine ifD (fun c2 => ?_) (fun c2 => ?_)
    · rw [if_pos (by omega)] at er
      walk_at "go"
      exact hbad (2 + 4 * N) S4 er g4
    · rw [if_neg (by omega)] at er
      walk_at "go"
      refine o_lcM hd1 rfl (mid czl) (fun x mx Pz hP => ?_) ?_
      · obtain ⟨a, rfl⟩ := rowsT x mx
        walk_at "go"
        exact hP
      rw [ec]
      walk_at "go"
      exact lastB (some lo) S4 er g4
  · rw [List.length_map] at c1
    rw [if_neg (by omega)] at er
    walk_at "go"
    rw [List.length_map]
    refine ifD (fun c2 => by omega) (fun c2 => ?_)
    walk_at "go"
    refine o_lcM hd1 rfl (mid czl) (fun x mx Pz hP => ?_) ?_
    · obtain ⟨a, rfl⟩ := rowsT x mx
      walk_at "go"
      exact hP
    rw [ec]
    walk_at "go"
    exact lastB none S3 er g3
end
open PySem PySem.Spec PyProof.Rows L2 Dy
section
variable {cCopyError cBadText cBook : Addr} {P : Program} {w : World} {K : PySem.W.Frag} {mg : Str → Option Value} {base : Heap} {n : Nat}
theorem cal_no {f : Addr} {fd : FuncData} {x : Str} {k : Nat} {ps : List Str} (hm : mg x = some (.ref f)) (hk : PySem.W.keepIn K (.ref f) = true) (hb : Binds K fd ps []) : Cal P w K mg base x k ps (fun _ _ _ _ => False) := by
  refine ⟨f, fd, ⟨fun vs H Q E h => ?_, fun A outer s H args us vs Q E hr e0 hbb r h => ?_⟩, hm, hk, hb⟩
  · obtain ⟨_, _, _, _, _, _, _, h, _⟩ := h
    exact h.elim
  · obtain ⟨_, _, _, _, _, _, _, h, _⟩ := h
    exact h.elim
def okI : Nat → D → Bool
  | _, .non => true
  | _, .bl _ => true
  | _, .int _ => true
  | _, .str _ => true
  | n + 1, .tup xs => decide (xs.length ≤ 10000) && xs.all (okI n)
  | _, _ => false
def spIs : Nat → DSp
  | 0 => fun _ _ _ _ => False
  | n + 1 => fun ds S Q E => ∃ d, ds = [d, d] ∧ okI n d = true ∧ Q (.bl true) S
theorem okI_mono : ∀ (n : Nat) (d : D), okI n d = true → okI (n + 1) d = true := fun n => by
  induction n with
  | zero =>
    intro d h
    cases d <;> first | rfl | cases h
  | succ n ih =>
    intro d h
    cases d <;> first
      | rfl
      | cases h
      | (rename_i xs
         have h : (decide (xs.length ≤ 10000) && xs.all (okI n)) = true := h
         rw [Bool.and_eq_true] at h
         show (decide (xs.length ≤ 10000) && xs.all (okI (n + 1))) = true
         rw [Bool.and_eq_true]
         exact ⟨h.1, List.all_eq_true.mpr fun x m => ih x (List.all_eq_true.mp h.2 x m)⟩)
theorem ok__law_is (T : Txt K mg cCopyError cBadText cBook) (c__law_is : Cal P w K mg base "_law_is" (n + 1) ["_law_told_here", "_law_due"] (spIs n)) : Cal P w K mg base "_law_is" (n + 2) ["_law_told_here", "_law_due"] (spIs (n + 1)) := by
  obtain ⟨f, fd, A, hm, hk, hb⟩ := T.d__law_is
  refine ⟨f, fd, dfn A sc__law_is (by intro ds S Q E h; obtain ⟨_, rfl, _⟩ := h; rfl) (fun cdv A outer s H E hr => ⟨_, (ds_cons (ds_if (dt_val (de_isi2 (A := "tuple") (B := "list") (by decide) (by decide) (by decide) (by decide) (fun _ => T.b_isinstance) (fun _ => T.b_tuple) (fun _ => T.b_list) bt_tuple bt_list (de_var 1)))
    (ds_cons (ds_if (DW.dt (dw_or (dt_cmp (oq_ne fun _ => hr) lk_ne (dc_isi (T := "tuple") (by decide) (by decide) (fun _ => T.b_isinstance) (da_cons (de_var 0) (da_cons (de_bltn (by intro _; rfl) (fun _ => T.b_tuple) bt_tuple (d := .ty "tuple") (v := .ty "tuple") rfl rfl) da_nil))) (dc_isi (T := "tuple") (by decide) (by decide) (fun _ => T.b_isinstance) (da_cons (de_var 1) (da_cons (de_bltn (by intro _; rfl) (fun _ => T.b_tuple) bt_tuple (d := .ty "tuple") (v := .ty "tuple") rfl rfl) da_nil))) (nomark _)) (dw_or1 (dt_cmp (oq_ne fun _ => hr) lk_ne (dc_isi (T := "list") (by decide) (by decide) (fun _ => T.b_isinstance) (da_cons (de_var 0) (da_cons (de_bltn (by intro _; rfl) (fun _ => T.b_list) bt_list (d := .ty "list") (v := .ty "list") rfl rfl) da_nil))) (dc_isi (T := "list") (by decide) (by decide) (fun _ => T.b_isinstance) (da_cons (de_var 1) (da_cons (de_bltn (by intro _; rfl) (fun _ => T.b_list) bt_list (d := .ty "list") (v := .ty "list") rfl rfl) da_nil))) (nomark _)))))
    (ds_one (ds_ret de_bl))
    ds_nil)
    (ds_one (ds_ret (de_and (de_cmp (oq_eq fun _ => hr) lk_eq (dc_len (fun _ => T.b_len) (da_cons (de_var 0) da_nil)) (dc_len (fun _ => T.b_len) (da_cons (de_var 1) da_nil)) (nomark _)) (de_one (dc_all (fun _ => rfl) (fun _ => T.b_all) (da_cons (de_lc 2 (fun _ => rfl) (fun _ => sc__law_is.nd) (di_rng1 (by intro _; rfl) (fun _ => T.b_range) (da_cons (dc_len (fun _ => T.b_len) (da_cons (de_var 1) da_nil)) da_nil)) (fun _ => blkOk_by (N := N__law_is) (sc := defScope s__law_is) (by decide +kernel)) dts_nil (de_callC (fun _ => c__law_is) (fun _ => hr) (by omega) (fun _ => takes0) (da_cons (de_at (de_var 0) (de_var 2)) (da_cons (de_at (de_var 1) (de_var 2)) da_nil))) (fun _ => pg_name (i := 2) sc__law_is.nd rfl (Or.inl rfl))) da_nil)))))))
    ds_nil)
    (ds_cons (ds_if (dt_val (dc_isi (T := "dict") (by decide) (by decide) (fun _ => T.b_isinstance) (da_cons (de_var 1) (da_cons (de_bltn (by intro _; rfl) (fun _ => T.b_dict) bt_dict (d := .ty "dict") (v := .ty "dict") rfl rfl) da_nil))))
    (ds_one ds_no)
    ds_nil)
    (ds_one (ds_ret (de_and (de_cmp (oq_eq fun _ => hr) lk_eq (dc_isi (T := "bool") (by decide) (by decide) (fun _ => T.b_isinstance) (da_cons (de_var 0) (da_cons (de_bltn (by intro _; rfl) (fun _ => T.b_bool) bt_bool (d := .ty "bool") (v := .ty "bool") rfl rfl) da_nil))) (dc_isi (T := "bool") (by decide) (by decide) (fun _ => T.b_isinstance) (da_cons (de_var 1) (da_cons (de_bltn (by intro _; rfl) (fun _ => T.b_bool) bt_bool (d := .ty "bool") (v := .ty "bool") rfl rfl) da_nil))) (nomark _)) (de_one (de_cmp (oq_eq fun _ => hr) lk_eq (de_var 0) (de_var 1) (nomark _)))))))), fun ds S Q E h => ?_⟩), hm, hk, hb⟩
  obtain ⟨d, rfl, ho, h⟩ := h
  cases d with
  | tup xs =>
    cases n with
    | zero => cases ho
    | succ n =>
      have ho : (decide (xs.length ≤ 10000) && xs.all (okI n)) = true := ho
      rw [Bool.and_eq_true] at ho
      have hl : xs.length ≤ 10000 := of_decide_eq_true ho.1
      have hx : ∀ x ∈ xs, okI n x = true := fun x m => List.all_eq_true.mp ho.2 x m
      walk_at "go"
      refine ⟨_, rfl, by omega, by omega, ?_⟩
      rw [Int.toNat_natCast]
      refine o_lcM (fun _ => .bl true) trivial (small (by rw [rng_len]; exact Nat.le_trans hl (by decide))) (fun x mx Pz hP => ?_) ?_
      · obtain ⟨k, mk, rfl⟩ := List.mem_map.mp mx
        have hk : k < xs.length := List.mem_range.mp mk
        have ek : atI xs (0 + (k : Int)) = some xs[k] := by rw [Int.zero_add, atN, List.getElem?_eq_getElem hk]
        walk_at "go"
        refine o_ix rfl ek ?_
        walk_at "go"
        refine o_ix rfl ek ?_
        walk_at "go"
        exact ⟨_, rfl, hx _ (List.getElem_mem hk), hP⟩
      walk_at "go"
      refine o_all (g := fun _ => true) ?_
      have e : (rngD 0 xs.length).all (fun _ => true) = true := List.all_eq_true.mpr fun _ _ => rfl
      rw [e]
      exact h
  | non => walk_at "go"; exact h
  | bl b => walk_at "go"; rw [decide_eq_true rfl]; exact h
  | int i => walk_at "go"; rw [decide_eq_true rfl]; exact h
  | str s => walk_at "go"; rw [decide_eq_true rfl]; exact h
  | _ => cases n <;> cases ho
theorem ok_is (T : Txt K mg cCopyError cBadText cBook) : ∀ n, Cal P w K mg base "_law_is" (n + 1) ["_law_told_here", "_law_due"] (spIs n)
  | 0 => by
    obtain ⟨f, fd, A, hm, hk, hb⟩ := T.d__law_is
    exact cal_no hm hk hb
  | n + 1 => ok__law_is T (ok_is T n)
def deepD (kind : Int) : Nat → D
  | 0 => .non
  | k + 1 => if decide (kind = 0) = true then .lst [deepD kind k] else .tup [deepD kind k]
def spDeep : DSp := fun ds S Q E => ∃ kind : Int, ds = [.int kind] ∧ Q (deepD kind 28) S
theorem ok__law_deep (T : Txt K mg cCopyError cBadText cBook) : Cal P w K mg base "_law_deep" 1 ["_law_kind"] spDeep := by
  obtain ⟨f, fd, A, hm, hk, hb⟩ := T.d__law_deep
  refine ⟨f, fd, dfn A sc__law_deep (by intro ds S Q E h; obtain ⟨_, rfl, _⟩ := h; rfl) (fun cdv A outer s H E hr => ⟨_, (ds_cons (ds_set 1 (fun _ => sc__law_deep.nd) de_non)
    (ds_cons (ds_for (fun _ => bodyHp) (fun _ => rfl) (di_rng1 (by intro _; rfl) (fun _ => T.b_range) (da_cons de_int da_nil)) (dg_name 2 (fun _ => sc__law_deep.nd))
    (ds_one (ds_set 1 (fun _ => sc__law_deep.nd) (de_ifExp (dt_cmp (oq_eq fun _ => hr) lk_eq (de_var 0) de_int (nomark _)) (de_lst (da_cons (de_var 1) da_nil)) (de_tup (da_cons (de_var 1) da_nil))))))
    (ds_one (ds_ret (de_var 1))))), fun ds S Q E h => ?_⟩), hm, hk, hb⟩
  obtain ⟨kind, rfl, h⟩ := h
  walk_at "go"
  refine ⟨28, rfl, by decide, by decide, ?_⟩
  refine ⟨fun i ρ S' => S' = S ∧ ∃ o, ρ = [some (.int kind), some (deepD kind i), o], ⟨rfl, none, rfl⟩, fun _ _ _ _ _ => trivial, ?_, ?_⟩
  · rintro i x ρ S1 hx ⟨rfl, o, rfl⟩
    walk_at "go"
    rw [Bool.false_xor]
    refine ifD (fun c => ?_) (fun c => ?_)
    · walk_at "go"
      refine ⟨rfl, some x, ?_⟩
      rw [deepD, if_pos (decide_eq_true c)]; rfl
    · walk_at "go"
      refine ⟨rfl, some x, ?_⟩
      rw [deepD, if_neg (by rw [decide_eq_false c]; decide)]; rfl
  · rintro ρ S1 ⟨rfl, o, rfl⟩
    walk_at "go"
    exact h
def spLWords : DSp := fun ds S Q E => ds = [] ∧ Q (.lst (bwords.map .str)) S
theorem ok__law_words (T : Txt K mg cCopyError cBadText cBook) : Cal P w K mg base "_law_words" 1 [] spLWords := by
  obtain ⟨f, fd, A, hm, hk, hb⟩ := T.d__law_words
  refine ⟨f, fd, dfn A sc__law_words (by intro ds S Q E h; obtain ⟨rfl, _⟩ := h; rfl) (fun cdv A outer s H E hr => ⟨_, (ds_one (ds_ret (de_lst (da_cons de_str (da_cons de_str (da_cons de_str (da_cons de_str da_nil))))))), fun ds S Q E h => ?_⟩), hm, hk, hb⟩
  obtain ⟨rfl, h⟩ := h
  walk_at "go"
  exact h
theorem ok__law_number (T : Txt K mg cCopyError cBadText cBook) : Cal P w K mg base "_law_number" 1 ["_law_word"] spNum := by
  obtain ⟨f, fd, A, hm, hk, hb⟩ := T.d__law_number
  refine ⟨f, fd, dfn A sc__law_number (by intro ds S Q E h; obtain ⟨_, rfl, _⟩ := h; rfl) (fun cdv A outer s H E hr => ⟨_, (ds_cons (ds_if (DW.dt (dw_or (dt_not (dt_chain (fun _ => op_le) (fun _ => op_le) lk_le lk_le de_int (dc_lenS (fun _ => T.b_len) (da_cons (de_var 0) da_nil)) de_int)) (dw_or1 (dt_not (dt_val (dc_all (fun _ => rfl) (fun _ => T.b_all) (da_cons (de_lc 1 (fun _ => rfl) (fun _ => sc__law_number.nd) (di_str (de_var 0)) (fun _ => blkOk_by (N := N__law_number) (sc := defScope s__law_number) (by decide +kernel)) dts_nil (de_cmp (fun _ => op_inS) lk_inStr (de_var 1) de_str (by rfl)) (fun _ => pg_name (i := 1) sc__law_number.nd rfl (Or.inl rfl))) da_nil)))))))
    (ds_one (ds_ret de_non))
    ds_nil)
    (ds_one (ds_ret (de_ifExp (DW.dt (dw_and (dt_cmp (oq_eq fun _ => hr) lk_eq (de_atS (de_var 0) de_int) de_str (nomark _)) (dw_and1 (dt_cmp (fun _ => op_gt) lk_gt (dc_lenS (fun _ => T.b_len) (da_cons (de_var 0) da_nil)) de_int (nomark _))))) de_non (dc_intS (fun _ => T.b_int) (da_cons (de_var 0) da_nil)))))), fun ds S Q E h => ?_⟩), hm, hk, hb⟩
  obtain ⟨z, rfl, hz, h⟩ := h
  have hz' : z.length ≤ sizeLine := mid hz
  have no : isNum z = false → Q .non S := fun e => by
    have e2 : figOf z = none := by unfold figOf; rw [if_neg (by rw [e]; decide)]
    rw [e2] at h; exact h
  have yes : isNum z = true → Q (.int ((NumText.digitsVal z.cps.toList : Nat) : Int)) S := fun e => by
    have e2 : figOf z = some (NumText.digitsVal z.cps.toList) := by unfold figOf; rw [if_pos e]
    rw [e2] at h; exact h
  have fail : ¬ ((1 ≤ z.length ∧ z.length ≤ 9) ∧ NumText.AllDigits z.cps.toList) → Q .non S := fun c => no (Bool.eq_false_iff.mpr fun z1 => c ⟨(isNum_iff.mp z1).1, (isNum_iff.mp z1).2.1⟩)
  walk_at "go"
  refine ifD (fun c1 => ?_) (fun c1 => ?_)
  · walk_at "go"
    refine not_if (ifD (fun c2 => ?_) (fun c2 => ?_))
    · walk_at "go"
      refine o_lcM (fun x => .bl (digD x)) trivial (mid (by rw [List.length_map, ← str_len]; exact hz)) (fun x mx Pz hP => ?_) ?_
      · obtain ⟨c, _, rfl⟩ := List.mem_map.mp mx
        walk_at "go"
        rw [Bool.false_xor, dig_in]
        exact hP
      walk_at "go"
      refine o_all (g := digD) ?_
      rw [digs_all]
      walk_at "go"
      refine not_if (ifB (fun c3 => ?_) (fun c3 => ?_))
      · have ad : NumText.AllDigits z.cps.toList := fun c m => of_decide_eq_true (List.all_eq_true.mp c3 c m)
        have hl : 1 ≤ z.length ∧ z.length ≤ 9 := by omega
        cases ez : z.cps.toList with
        | nil =>
          have := str_len z
          rw [ez] at this
          simp at this
          omega
        | cons c r =>
          walk_at "go"
          refine o_atS ez ?_
          walk_at "go"
          rw [Bool.false_xor, one_zero]
          refine ifD (fun c4 => ?_) (fun c4 => ?_)
          · subst c4
            walk_at "go"
            refine ifD (fun c5 => ?_) (fun c5 => ?_)
            · walk_at "go"
              refine no (Bool.eq_false_iff.mpr fun z1 => (isNum_iff.mp z1).2.2 ⟨by rw [ez]; rfl, by omega⟩)
            · have en : isNum z = true := isNum_iff.mpr ⟨hl, ad, fun z1 => c5 (by omega)⟩
              have e2 : figOf z = some (NumText.digitsVal z.cps.toList) := by unfold figOf; rw [if_pos en]
              walk_at "go"
              exact o_intS (int_of_num e2).1 (int_of_num e2).2 (yes en)
          · have en : isNum z = true := isNum_iff.mpr ⟨hl, ad, fun z1 => c4 (by have := z1.1; rw [ez] at this; simpa using this)⟩
            have e2 : figOf z = some (NumText.digitsVal z.cps.toList) := by unfold figOf; rw [if_pos en]
            walk_at "go"
            exact o_intS (int_of_num e2).1 (int_of_num e2).2 (yes en)
      · walk_at "go"
        exact fail fun z1 => by
          rw [List.all_eq_true.mpr fun c m => decide_eq_true (z1.2 c m)] at c3
          cases c3
    · walk_at "go"
      exact fail fun z1 => by omega
  · walk_at "go"
    exact fail fun z1 => by omega
def figD : D → D
  | .str z => optD (figOf z)
  | _ => .non
theorem figs_some : ∀ {ws : List Str} {ks : List Nat}, mapO figOf ws = some ks → (ws.map D.str).map figD = ks.map natD
  | [], ks, h => by cases h; rfl
  | w :: ws, ks, h => by
    rw [mapO] at h
    split at h
    · rename_i k ks' e1 e2
      cases h
      rw [List.map_cons, List.map_cons, figs_some e2, List.map_cons]
      show optD (figOf w) :: _ = _
      rw [e1]; rfl
    · cases h
def nonP : D → PyData
  | .int i => .int i
  | _ => .none
theorem py_figs : ∀ ws : List Str, pyDs ((ws.map D.str).map figD) = some ((ws.map D.str).map fun d => nonP (figD d))
  | [] => rfl
  | w :: ws => by
    have ih := py_figs ws
    show ((pyD (optD (figOf w))).bind fun d => (pyDs ((ws.map D.str).map figD)).map fun ds => d :: ds) = some (nonP (optD (figOf w)) :: _)
    rw [ih]
    cases figOf w <;> rfl
theorem any_none : ∀ ws : List Str, ((ws.map D.str).map fun d => nonP (figD d)).any (fun z => PyData.eqv z .none) = decide (mapO figOf ws = none)
  | [] => rfl
  | w :: ws => by
    have ih := any_none ws
    rw [List.map_cons, List.map_cons, List.any_cons, ih]
    have e : figD (D.str w) = optD (figOf w) := rfl
    rw [e, mapO]
    cases figOf w with
    | none => rfl
    | some k =>
      cases mapO figOf ws with
      | none => rfl
      | some ks => rfl
theorem depth_figs : ∀ ws : List Str, PyData.depthAll ((ws.map D.str).map fun d => nonP (figD d)) = 0
  | [] => rfl
  | w :: ws => by
    have ih := depth_figs ws
    rw [List.map_cons, List.map_cons, PyData.depthAll, ih]
    have e : figD (D.str w) = optD (figOf w) := rfl
    rw [e]
    cases figOf w <;> rfl
def figsD : Option (List Nat) → D
  | some ks => .tup (ks.map natD)
  | none => .non
theorem nums_none {N : Nat} : ∀ {ws : List Str}, mapO figOf ws = none → mapO (figN N) ws = none
  | [], h => by cases h
  | w :: ws, h => by
    cases e2 : mapO (figN N) ws with
    | none => rw [mapO, e2]; cases figN N w <;> rfl
    | some ks =>
      have hn : mapO figOf ws ≠ none := fun z => by rw [nums_none z] at e2; cases e2
      cases e1 : figOf w with
      | none =>
        have : figN N w = none := by unfold figN; rw [e1]
        rw [mapO, this]
      | some k =>
        rw [mapO, e1] at h
        cases e3 : mapO figOf ws with
        | none => exact absurd e3 hn
        | some q => rw [e3] at h; cases h
theorem nums_some {N : Nat} : ∀ {ws : List Str} {ks : List Nat}, mapO figOf ws = some ks → mapO (figN N) ws = if ks.all (fun k => decide (k < N)) = true then some ks else none
  | [], ks, h => by cases h; rfl
  | w :: ws, ks, h => by
    rw [mapO] at h
    split at h
    · rename_i k ks' e1 e2
      cases h
      have ih := nums_some (N := N) e2
      rw [mapO, ih, List.all_cons]
      have e3 : figN N w = if k < N then some k else none := by unfold figN; rw [e1]
      rw [e3]
      by_cases h1 : k < N
      · rw [if_pos h1, decide_eq_true h1, Bool.true_and]
        cases ks'.all (fun k => decide (k < N)) <;> rfl
      · rw [if_neg h1, decide_eq_false h1, Bool.false_and]
        cases ks'.all (fun k => decide (k < N)) <;> rfl
    · cases h
def ltD (N : Nat) : D → Bool
  | .int i => decide (i < (N : Int))
  | _ => false
def spNums : DSp := fun ds S Q E => ∃ (ws : List Str) (N : Nat), ds = [.lst (ws.map .str), natD N] ∧ ws.length ≤ 3000000 ∧ (∀ z ∈ ws, z.length ≤ 3000000) ∧ Q (figsD (mapO (figN N) ws)) S
theorem ok__law_numbers (T : Txt K mg cCopyError cBadText cBook) (c__law_number : Cal P w K mg base "_law_number" 1 ["_law_word"] spNum) : Cal P w K mg base "_law_numbers" 2 ["_law_words_here", "_law_many"] spNums := by
  obtain ⟨f, fd, A, hm, hk, hb⟩ := T.d__law_numbers
  refine ⟨f, fd, dfn A sc__law_numbers (by intro ds S Q E h; obtain ⟨_, _, rfl, _⟩ := h; rfl) (fun cdv A outer s H E hr => ⟨_, (ds_cons (ds_setLc 2 (own := [("_law_word", 3)]) (tgl_1 3) (fun _ => rfl) (fun _ => sc__law_numbers.nd) (di_sq (de_var 0)) (fun _ => blkOk_by (N := N__law_numbers) (sc := defScope s__law_numbers) (by decide +kernel)) dts_nil (de_callC (fun _ => c__law_number) (fun _ => hr) (by omega) (fun _ => takes0) (da_cons (de_var 3) da_nil)) (fun _ => pg_name (i := 3) sc__law_numbers.nd rfl (Or.inl rfl)) (fun _ => sw_true rfl rfl rfl (by decide +kernel)))
    (ds_cons (ds_if (DW.dt (dw_or (dt_cmp (oq_inX fun _ => hr) lk_inX de_non (de_var 2) (by rfl)) (dw_or1 (dt_not (dt_val (dc_all (fun _ => rfl) (fun _ => T.b_all) (da_cons (de_lc 4 (fun _ => rfl) (fun _ => sc__law_numbers.nd) (di_sq (de_var 2)) (fun _ => blkOk_by (N := N__law_numbers) (sc := defScope s__law_numbers) (by decide +kernel)) dts_nil (de_cmp (fun _ => op_lt) lk_lt (de_var 4) (de_var 1) (nomark _)) (fun _ => pg_name (i := 4) sc__law_numbers.nd rfl (Or.inl rfl))) da_nil)))))))
    (ds_one (ds_ret de_non))
    ds_nil)
    (ds_one (ds_ret (dc_tuple (fun _ => T.b_tuple) (da_cons (de_var 2) da_nil)))))), fun ds S Q E h => ?_⟩), hm, hk, hb⟩
  obtain ⟨ws, N, rfl, hl, hz, h⟩ := h
  walk_at "go"
  refine o_lcM figD rfl (mid (by rw [List.length_map]; omega)) (fun y my Pz hP => ?_) ?_
  · obtain ⟨v, mv, rfl⟩ := List.mem_map.mp my
    walk_at "go"
    exact ⟨v, rfl, Nat.le_trans (hz v mv) (by decide), hP⟩
  walk_at "go"
  refine .inl ⟨.none, _, _, rfl, rfl, py_figs ws, by rw [depth_figs]; decide, ?_⟩
  rw [any_none, Bool.false_xor]
  walk_at "go"
  refine ifD (fun c1 => ?_) (fun c1 => ?_)
  · walk_at "go"
    rw [nums_none c1] at h
    exact h
  · obtain ⟨ks, ek⟩ := Option.ne_none_iff_exists'.mp c1
    have e1 := figs_some ek
    rw [nums_some ek] at h
    rw [e1]
    have hk : ks.length ≤ 3000000 := by
      have := congrArg List.length e1
      rw [List.length_map, List.length_map, List.length_map] at this
      omega
    walk_at "go"
    refine o_lcM (fun d => .bl (ltD N d)) rfl (mid (by rw [List.length_map]; omega)) (fun y my Pz hP => ?_) ?_
    · obtain ⟨k, mk, rfl⟩ := List.mem_map.mp my
      walk_at "go"
      have e3 : decide ((k : Int) < (N : Int)) = ltD N (natD k) := rfl
      rw [e3]
      exact hP
    walk_at "go"
    refine o_all (g := ltD N) ?_
    have e4 : (ks.map natD).all (ltD N) = ks.all (fun k => decide (k < N)) := by
      rw [List.all_map]
      congr 1
      funext k
      exact decide_eq_decide.mpr (by omega)
    rw [e4]
    walk_at "go"
    refine not_if (ifB (fun c2 => ?_) (fun c2 => ?_))
    · rw [c2] at h
      walk_at "go"
      exact h
    · rw [c2] at h
      walk_at "go"
      exact h
end
open PySem PySem.Spec PyProof.Rows L2 Dy
section
variable {cCopyError cBadText cBook : Addr} {P : Program} {w : World} {K : PySem.W.Frag} {mg : Str → Option Value} {base : Heap} {n : Nat}
/-- only the lists N changed -/
def KG (N : List Nat) (S S' : Store) : Prop := S.length ≤ S'.length ∧ ∀ (m : Nat), m < S.length → m ∉ N → S'[m]? = S[m]?
theorem KG.refl {N : List Nat} {S : Store} : KG N S S := ⟨Nat.le_refl _, fun _ _ _ => rfl⟩
theorem KG.trans {N : List Nat} {S S1 S2 : Store} (h : KG N S S1) (k : KG N S1 S2) : KG N S S2 := ⟨Nat.le_trans h.1 k.1, fun m hm hn => (k.2 m (by have := h.1; omega) hn).trans (h.2 m hm hn)⟩
theorem Kept.kg {N : List Nat} {S S' : Store} (h : Kept N S S') : KG N S S' := ⟨by rw [h.1]; exact Nat.le_refl _, fun m _ hn => h.2 m hn⟩
theorem Grown.kg {N : List Nat} {S S' : Store} (h : Grown S S') : KG N S S' := ⟨h.1, fun m hm _ => h.2 m hm⟩
theorem HandAt.lt {S : Store} {n : Nat} (h : HandAt S n) : n < S.length := by
  obtain ⟨_, _, _, _, _, e⟩ := h
  exact (List.getElem?_eq_some_iff.mp e).1
theorem HandAt.grown {S S' : Store} {n : Nat} (h : HandAt S n) (g : Grown S S') : HandAt S' n := by
  have l := h.lt
  obtain ⟨cs, i, big, st, k, e⟩ := h
  exact ⟨cs, i, big, st, k, (g.2 n l).trans e⟩
theorem draw_ok {n : Nat} {k : Int} {S : Store} {Q : QD} {E : XQ} (hp : HandAt S n) (h1 : 1 ≤ k) (h2 : k ≤ 1000000000) (h : ∀ r S', 0 ≤ r → r < k → HandAt S' n → Kept [n] S S' → Q (.int r) S') : spDraw [.ref n, .int k] S Q E := ⟨n, k, rfl, hp, by omega, log_int (by omega) h2, h⟩
theorem all_ex {α : Type} {p : α → Prop} {f : α → D} : ∀ {xs : List D}, (∀ x ∈ xs, ∃ a, p a ∧ x = f a) → ∃ as : List α, xs = as.map f ∧ ∀ a ∈ as, p a
  | [], _ => ⟨[], rfl, fun _ m => by cases m⟩
  | x :: xs, h => by
    obtain ⟨a, pa, e⟩ := h x (by simp)
    obtain ⟨as, e2, h2⟩ := all_ex fun y m => h y (List.mem_cons_of_mem _ m)
    refine ⟨a :: as, by rw [e, e2]; rfl, fun b m => ?_⟩
    rcases List.mem_cons.mp m with rfl | m
    · exact pa
    · exact h2 b m
def spParts : DSp := fun ds S Q E => ∃ (n N : Nat), ds = [.ref n, natD N] ∧ HandAt S n ∧ 1 ≤ N ∧ N ≤ 400 ∧ ∀ (b : Bk) S', b.Ok N → HandAt S' n → Kept [n] S S' → Q b.d S'
theorem ok__law_parts (T : Txt K mg cCopyError cBadText cBook) (c__law_draw : Cal P w K mg base "_law_draw" 1 ["_law_hand_here", "_law_many"] spDraw) (c__law_words : Cal P w K mg base "_law_words" 1 [] spLWords) (c__law_some : Cal P w K mg base "_law_some" 2 ["_law_hand_here", "_law_things"] spAny) : Cal P w K mg base "_law_parts" 3 ["_law_hand_here", "_law_many"] spParts := by
  obtain ⟨f, fd, A, hm, hk, hb⟩ := T.d__law_parts
  refine ⟨f, fd, dfn A sc__law_parts (by intro ds S Q E h; obtain ⟨_, _, rfl, _⟩ := h; rfl) (fun cdv A outer s H E hr => ⟨_, (ds_cons (ds_set 2 (fun _ => sc__law_parts.nd) (dc_tuple (fun _ => T.b_tuple) (da_cons (de_lc 6 (fun _ => rfl) (fun _ => sc__law_parts.nd) (di_rng1 (by intro _; rfl) (fun _ => T.b_range) (da_cons (de_var 1) da_nil)) (fun _ => blkOk_by (N := N__law_parts) (sc := defScope s__law_parts) (by decide +kernel)) dts_nil (de_callC (fun _ => c__law_draw) (fun _ => hr) (by omega) (fun _ => takes0) (da_cons (de_var 0) (da_cons (de_var 1) da_nil))) (fun _ => pg_name (i := 6) sc__law_parts.nd rfl (Or.inl rfl))) da_nil)))
    (ds_cons (ds_set 3 (fun _ => sc__law_parts.nd) (dc_tuple (fun _ => T.b_tuple) (da_cons (de_lc 6 (fun _ => rfl) (fun _ => sc__law_parts.nd) (di_rng1 (by intro _; rfl) (fun _ => T.b_range) (da_cons (de_var 1) da_nil)) (fun _ => blkOk_by (N := N__law_parts) (sc := defScope s__law_parts) (by decide +kernel)) dts_nil (de_tup (da_cons (de_callC (fun _ => c__law_draw) (fun _ => hr) (by omega) (fun _ => takes0) (da_cons (de_var 0) (da_cons (de_var 1) da_nil))) (da_cons (de_callC (fun _ => c__law_draw) (fun _ => hr) (by omega) (fun _ => takes0) (da_cons (de_var 0) (da_cons (de_var 1) da_nil))) da_nil))) (fun _ => pg_name (i := 6) sc__law_parts.nd rfl (Or.inl rfl))) da_nil)))
    (ds_cons (ds_set 4 (fun _ => sc__law_parts.nd) (dc_tuple (fun _ => T.b_tuple) (da_cons (de_lc 6 (fun _ => rfl) (fun _ => sc__law_parts.nd) (di_rng1 (by intro _; rfl) (fun _ => T.b_range) (da_cons (de_var 1) da_nil)) (fun _ => blkOk_by (N := N__law_parts) (sc := defScope s__law_parts) (by decide +kernel)) dts_nil (dc_tuple (fun _ => T.b_tuple) (da_cons (de_lc 7 (fun _ => rfl) (fun _ => sc__law_parts.nd) (di_rng1 (by intro _; rfl) (fun _ => T.b_range) (da_cons (de_var 1) da_nil)) (fun _ => blkOk_by (by rfl)) dts_nil (de_callC (fun _ => c__law_draw) (fun _ => hr) (by omega) (fun _ => takes0) (da_cons (de_var 0) (da_cons (de_var 1) da_nil))) (fun _ => pg_name (i := 7) sc__law_parts.nd rfl (Or.inl rfl))) da_nil)) (fun _ => pg_name (i := 6) sc__law_parts.nd rfl (Or.inl rfl))) da_nil)))
    (ds_cons (ds_set 5 (fun _ => sc__law_parts.nd) (dc_tuple (fun _ => T.b_tuple) (da_cons (de_lc 6 (fun _ => rfl) (fun _ => sc__law_parts.nd) (di_rng1 (by intro _; rfl) (fun _ => T.b_range) (da_cons (de_var 1) da_nil)) (fun _ => blkOk_by (N := N__law_parts) (sc := defScope s__law_parts) (by decide +kernel)) dts_nil (dc_tuple (fun _ => T.b_tuple) (da_cons (de_lc 7 (fun _ => rfl) (fun _ => sc__law_parts.nd) (di_rng1 (by intro _; rfl) (fun _ => T.b_range) (da_cons (de_var 1) da_nil)) (fun _ => blkOk_by (by rfl)) dts_nil (de_callC (fun _ => c__law_some) (fun _ => hr) (by omega) (fun _ => takes0) (da_cons (de_var 0) (da_cons (de_callC0 (fun _ => c__law_words) (fun _ => hr) (by omega) (fun _ => takes0)) da_nil))) (fun _ => pg_name (i := 7) sc__law_parts.nd rfl (Or.inl rfl))) da_nil)) (fun _ => pg_name (i := 6) sc__law_parts.nd rfl (Or.inl rfl))) da_nil)))
    (ds_one (ds_ret (de_tup (da_cons (de_callC (fun _ => c__law_draw) (fun _ => hr) (by omega) (fun _ => bodyTk) (da_cons (de_var 0) (da_cons (de_var 1) da_nil))) (da_cons (de_var 2) (da_cons (de_var 3) (da_cons (de_var 4) (da_cons (de_var 5) da_nil)))))))))))), fun ds S Q E h => ?_⟩), hm, hk, hb⟩
  obtain ⟨n, N, rfl, hp, h1, h4, h⟩ := h
  have draw : ∀ (S' : Store) (P : QD) (E : XQ), (HandAt S' n ∧ Kept [n] S S') → (∀ y S2, (∃ c : Nat, c < N ∧ y = natD c) → (HandAt S2 n ∧ Kept [n] S S2) → P y S2) → spDraw [.ref n, natD N] S' P E := fun S' P E hR hP =>
    draw_ok hR.1 (by omega) (by omega) fun r S2 r0 r1 hp2 kp => hP _ _ (by
      obtain ⟨c, rfl⟩ := Int.eq_ofNat_of_zero_le r0
      exact ⟨c, by omega, rfl⟩) ⟨hp2, hR.2.trans kp⟩
  walk_at "go"
  refine ⟨_, rfl, by omega, by omega, ?_⟩
  rw [Int.toNat_natCast]
  refine o_lcP (fun S' => HandAt S' n ∧ Kept [n] S S') (fun y => ∃ c : Nat, c < N ∧ y = natD c) (fun _ _ => trivial) ⟨hp, .refl⟩ (by rw [rng_len]; exact mid (by omega)) (fun x mx S' hR Pz hP => ?_) fun cs S1 R1 lc pc => ?_
  · walk_at "go"
    exact draw S' Pz _ hR hP
  rw [rng_len] at lc
  walk_at "go"
  refine ⟨_, rfl, by omega, by omega, ?_⟩
  rw [Int.toNat_natCast]
  refine o_lcP (fun S' => HandAt S' n ∧ Kept [n] S S') (fun y => ∃ r : List Nat, (r.length = 2 ∧ ∀ x ∈ r, x < N) ∧ y = natsD r) (fun _ _ => trivial) R1 (by rw [rng_len]; exact mid (by omega)) (fun x mx S' hR Pz hP => ?_) fun ks S2 R2 lk pk => ?_
  · walk_at "go"
    refine draw S' _ _ hR fun y S3 ⟨a, pa, ea⟩ R3 => ?_
    walk_at "go"
    refine draw S3 _ _ R3 fun z S4 ⟨b, pb, eb⟩ R4 => ?_
    walk_at "go"
    refine hP _ _ ⟨[a, b], ⟨rfl, fun x m => ?_⟩, by rw [ea, eb]; rfl⟩ R4
    simp only [List.mem_cons, List.not_mem_nil, or_false] at m
    rcases m with rfl | rfl
    · exact pa
    · exact pb
  rw [rng_len] at lk
  walk_at "go"
  refine ⟨_, rfl, by omega, by omega, ?_⟩
  rw [Int.toNat_natCast]
  refine o_lcP (fun S' => HandAt S' n ∧ Kept [n] S S') (fun y => ∃ r : List Nat, (r.length = N ∧ ∀ x ∈ r, x < N) ∧ y = natsD r) (fun _ _ => trivial) R2 (by rw [rng_len]; exact mid (by omega)) (fun x mx S' hR Pz hP => ?_) fun js S3 R3 lj pj => ?_
  · walk_at "go"
    refine ⟨_, rfl, by omega, by omega, ?_⟩
    rw [Int.toNat_natCast]
    refine o_lcP (fun S' => HandAt S' n ∧ Kept [n] S S') (fun y => ∃ c : Nat, c < N ∧ y = natD c) (fun _ _ => trivial) hR (by rw [rng_len]; exact mid (by omega)) (fun x mx S' hR Pz hP => ?_) fun ys S3 R3 ly py => ?_
    · walk_at "go"
      exact draw S' Pz _ hR hP
    rw [rng_len] at ly
    walk_at "go"
    obtain ⟨r, rfl, pr⟩ := all_ex py
    exact hP _ _ ⟨r, ⟨by rw [List.length_map] at ly; exact ly, pr⟩, rfl⟩ R3
  rw [rng_len] at lj
  walk_at "go"
  refine ⟨_, rfl, by omega, by omega, ?_⟩
  rw [Int.toNat_natCast]
  refine o_lcP (fun S' => HandAt S' n ∧ Kept [n] S S') (fun y => ∃ r : List Str, (r.length = N ∧ ∀ x ∈ r, x ∈ bwords) ∧ y = strsD r) (fun _ _ => trivial) R3 (by rw [rng_len]; exact mid (by omega)) (fun x mx S' hR Pz hP => ?_) fun ls S4 R4 ll pl => ?_
  · walk_at "go"
    refine ⟨_, rfl, by omega, by omega, ?_⟩
    rw [Int.toNat_natCast]
    refine o_lcP (fun S' => HandAt S' n ∧ Kept [n] S S') (fun y => ∃ c : Str, c ∈ bwords ∧ y = .str c) (fun _ _ => trivial) hR (by rw [rng_len]; exact mid (by omega)) (fun x mx S' hR Pz hP => ?_) fun ys S3 R3 ly py => ?_
    · walk_at "go"
      refine ⟨rfl, ?_⟩
      walk_at "go"
      refine any_ok hR.1 (by simp [bwords]) (by simp [bwords]) fun x S2 mx hp2 kp => hP _ _ ?_ ⟨hp2, hR.2.trans kp⟩
      obtain ⟨s, ms, rfl⟩ := List.mem_map.mp mx
      exact ⟨s, ms, rfl⟩
    rw [rng_len] at ly
    walk_at "go"
    obtain ⟨r, rfl, pr⟩ := all_ex py
    exact hP _ _ ⟨r, ⟨by rw [List.length_map] at ly; exact ly, pr⟩, rfl⟩ R3
  rw [rng_len] at ll
  walk_at "go"
  refine draw S4 _ _ R4 fun f S5 ⟨fc, pf, ef⟩ R5 => ?_
  subst ef
  obtain ⟨cs, rfl, pc'⟩ := all_ex pc
  obtain ⟨ks, rfl, pk'⟩ := all_ex pk
  obtain ⟨js, rfl, pj'⟩ := all_ex pj
  obtain ⟨ls, rfl, pl'⟩ := all_ex pl
  rw [List.length_map] at lc lk lj ll
  walk_at "go"
  exact h ⟨fc, cs, ks, js, some ls⟩ S5 ⟨h1, h4, pf, lc, pc', lk, pk', lj, pj', fun t e => by cases e; exact ⟨ll, pl'⟩⟩ R5.1 R5.2
def spLBook (cBook : Addr) : DSp := fun ds S Q E => ∃ (b : Bk) (N : Nat), ds = [b.d] ∧ b.Ok N ∧ ∀ S' n, Grown S S' → S.length ≤ n → S'[n]? = some (.ins cBook (fldB b)) → Q (.ref n) S'
theorem ok__law_book (T : Txt K mg cCopyError cBadText cBook) (c_Book : CalM P w K mg base "Book" cBook 6 ["self", "first", "changes", "forks", "joins", "looks"] (spInit cBook)) : Cal P w K mg base "_law_book" 8 ["_law_parts_here"] (spLBook cBook) := by
  obtain ⟨f, fd, A, hm, hk, hb⟩ := T.d__law_book
  refine ⟨f, fd, dfn A sc__law_book (by intro ds S Q E h; obtain ⟨_, _, rfl, _⟩ := h; rfl) (fun cdv A outer s H E hr => ⟨_, (ds_one (ds_ret (de_makeC (fun _ => c_Book) (fun _ => hr) (by omega) (fun _ => bodyTk) (da_cons (de_at (de_var 0) de_int) (da_cons (de_at (de_var 0) de_int) (da_cons (de_at (de_var 0) de_int) (da_cons (de_at (de_var 0) de_int) (da_cons (de_at (de_var 0) de_int) da_nil)))))))), fun ds S Q E h => ?_⟩), hm, hk, hb⟩
  obtain ⟨b, N, rfl, hb, h⟩ := h
  obtain ⟨d1, d2, d3, d4, d5, d6⟩ := book_ok hb
  unfold Bk.d Bk.parts
  walk_at "go"
  refine ⟨_, _, _, _, _, _, rfl, by rw [List.getElem?_append_right (Nat.le_refl _)]; simp, d1, d2, d3, d4, d5, d6, fun S' hl hn hm => ⟨rfl, h S' S.length ⟨?_, fun m hlt => ?_⟩ (Nat.le_refl _) hn⟩⟩
  · rw [hl, List.length_append]; omega
  · rw [hm m (by omega), List.getElem?_append_left hlt]
theorem tab_snoc {w : Str} {r : List Str} : ∀ {rs : List (List Str)} {j : Nat}, tabS w j (rs ++ [r]) = tabS w j rs ++ [rowS w (j + rs.length) r]
  | [], j => rfl
  | x :: rs, j => by
    rw [List.cons_append, tabS, tabS, tab_snoc, List.cons_append, show j + 1 + rs.length = j + (x :: rs).length by simp; omega]
theorem tab_take {w : Str} {rs : List (List Str)} {i : Nat} {r : List Str} (h : rs[i]? = some r) : tabS w 0 (rs.take (i + 1)) = tabS w 0 (rs.take i) ++ [rowS w i r] := by
  have hi := (List.getElem?_eq_some_iff.mp h).1
  rw [List.take_add_one, h]
  show tabS w 0 (rs.take i ++ [r]) = _
  rw [tab_snoc, Nat.zero_add, List.length_take, Nat.min_eq_left (by omega)]
theorem head_l {N f : Nat} : ("stamps " : Str) ++ strN N ++ (" first " : Str) ++ strN f = headS N f := by
  have h := head_f (N := N) (f := f)
  have e : Str.empty ++ ("stamps " : Str) = "stamps " := by decide
  rw [e] at h
  exact h
theorem row_l {w v : Str} {i : Nat} {r : List Str} (hv : TL.tl v = TL.tl w ++ TL.tl (" " : Str)) : v ++ Txt.join " " (strN i :: r) = rowS w i r := by
  refine str_ext ?_
  show TL.tl (v ++ Txt.join " " (strN i :: r)) = TL.tl (rowS w i r)
  unfold rowS
  rw [str_cat, TL.join_eq, TL.tl_join, TL.join_eq, TL.tl_join, hv]
  show _ = TL.tl w ++ (TL.tl (" " : Str) ++ _)
  rw [List.append_assoc]; rfl
theorem row_c {i c : Nat} : ("change " : Str) ++ strN i ++ (" " : Str) ++ strN c = rowS "change" i [strN c] := by
  refine str_ext ?_
  show TL.tl (("change " : Str) ++ strN i ++ (" " : Str) ++ strN c) = TL.tl (rowS "change" i [strN c])
  unfold rowS
  rw [TL.join_eq, TL.tl_join, str_cat, str_cat, str_cat]
  have e1 : TL.tl ("change " : Str) = TL.tl ("change" : Str) ++ TL.tl (" " : Str) := by rw [TL.tl_ofString, TL.tl_ofString, TL.tl_ofString]; decide
  rw [e1]
  show _ = TL.tl ("change" : Str) ++ (TL.tl (" " : Str) ++ (TL.tl (strN i) ++ (TL.tl (" " : Str) ++ TL.tl (strN c))))
  simp only [List.append_assoc]
theorem rng_nat {N i : Nat} {x : D} (h : (rngD 0 N)[i]? = some x) : i < N ∧ x = natD i := by
  have hi : i < N := by
    have := (List.getElem?_eq_some_iff.mp h).1
    rw [rng_len] at this
    exact this
  refine ⟨hi, ?_⟩
  rw [rngD_get hi, Int.zero_add] at h
  exact (Option.some.inj h).symm
theorem snoc_map {pre : List Str} {w : Str} {rs : List (List Str)} {i : Nat} {r : List Str} (h : rs[i]? = some r) : (pre ++ tabS w 0 (rs.take i)).map D.str ++ [D.str (rowS w i r)] = (pre ++ tabS w 0 (rs.take (i + 1))).map D.str := by
  rw [tab_take h, ← List.append_assoc, List.map_append (l₁ := pre ++ _)]; rfl
theorem pre_len {pre : List Str} {w : Str} {rs : List (List Str)} {i : Nat} (h : pre.length ≤ 5000) (hi : i ≤ 400) : ((pre ++ tabS w 0 (rs.take i)).map D.str).length < sizeLine := Nat.lt_of_le_of_lt (by rw [List.length_map, List.length_append, tabS_len, List.length_take]; omega : _ ≤ 6000) (by decide)
end
open PySem PySem.Spec PyProof.Rows L2 Dy
section
variable {cCopyError cBadText cBook : Addr} {P : Program} {w : World} {K : PySem.W.Frag} {mg : Str → Option Value} {base : Heap} {n : Nat}
def strD : D → D
  | .int i => .str (Str.ofString (toString i))
  | d => d
abbrev rowBody (v : Str) (k : Int) : DTS := dDrop (dBM mApp (dVar 2) (dCons (dOp dAdd (dC (.str v)) (dSM1 mJoin (dC (.str " ")) (dLc (jSq (dOp dAdd (dTup (dCons (dVar 3) dNil)) (dOp dIx (dOp dIx (dVar 0) (dC (.int k))) (dVar 3)))) (c1 4) dYes (dCB cStr (dCons (dVar 4) dNil))))) dNil))
theorem row_loop {N : Nat} {v w : Str} {k : Int} {t : List (List Nat)} {ps : List D} (hv : TL.tl v = TL.tl w ++ TL.tl (" " : Str)) (v5 : v.length = 5) (ht : t.length = N) (hg : ∀ r ∈ t, r.length ≤ 400 ∧ ∀ x ∈ r, x < N) (n4 : N ≤ 400) (hk : atI ps k = some (rowsD t))
    {pre : List Str} (lp : pre.length ≤ 5000) {S1 : Store} {n : Nat} (e1 : S1[n]? = some (.lst (pre.map .str))) {o3 o4 o5 : Option D} {nx : Rho → Store → Prop} {rt : D → Store → Prop} {ex : Exc → Rho → Store → Prop} {live : Store → Prop} (hl : ∀ S, live S)
    (h : ∀ S2 o3 o4 o5, S2.length = S1.length → S2[n]? = some (.lst ((pre ++ tabS w 0 (t.map (·.map strN))).map .str)) → (∀ m : Nat, m ≠ n → S2[m]? = S1[m]?) → nx [some (.tup ps), some (natD N), some (.ref n), o3, o4, o5] S2) :
    dForK (eName 3) (rowBody v k) nx rt ex [some (.tup ps), some (natD N), some (.ref n), o3, o4, o5] (rngD 0 N) live S1 := by
  refine ⟨fun i ρ S' => S'.length = S1.length ∧ (∀ m : Nat, m ≠ n → S'[m]? = S1[m]?) ∧ S'[n]? = some (.lst ((pre ++ tabS w 0 ((t.map (·.map strN)).take i)).map D.str)) ∧ ∃ o3 o4 o5, ρ = [some (.tup ps), some (natD N), some (.ref n), o3, o4, o5],
    ⟨rfl, fun _ _ => rfl, by rw [List.take_zero]; show _ = some (SO.lst ((pre ++ []).map D.str)); rw [List.append_nil]; exact e1, _, _, _, rfl⟩, fun _ _ _ _ _ => hl _, ?_, ?_⟩
  · rintro i x ρ S2 hx ⟨l2, m2, e2, o3, o4, o5, rfl⟩
    obtain ⟨hi, rfl⟩ := rng_nat hx
    have hr : i < t.length := by omega
    have hrow : (t.map (·.map strN))[i]? = some (t[i].map strN) := by rw [List.getElem?_map, List.getElem?_eq_getElem hr]; rfl
    have ex : atI (t.map natsD) (i : Int) = some (natsD t[i]) := by rw [atN, List.getElem?_map, List.getElem?_eq_getElem hr]; rfl
    obtain ⟨hl, hc⟩ := hg _ (List.getElem_mem hr)
    generalize t[i] = r at hrow ex hl hc
    have sl : sumL ((strN i :: r.map strN)) ≤ 3 * (1 + r.length) := by
      have := sum_le (r := strN i :: r.map strN) (m := 3) fun z mz => by
        rcases List.mem_cons.mp mz with rfl | mz
        · exact strN3 (by omega)
        · obtain ⟨c, mc, rfl⟩ := List.mem_map.mp mz
          exact strN3 (by have := hc c mc; omega)
      rw [List.length_cons, List.length_map] at this
      omega
    walk_at "go"
    refine o_ix rfl hk ?_
    unfold rowsD
    walk_at "go"
    refine o_ix rfl ex ?_
    unfold natsD
    refine o_addT (mid (by simp only [List.length_cons, List.length_nil, List.length_map]; omega)) ?_
    refine ⟨_, rfl, ?_⟩
    refine o_lcM strD rfl (mid (by simp only [List.length_append, List.length_cons, List.length_nil, List.length_map]; omega)) (fun y my Pz hP => ?_) ?_
    · walk_at "go"
      rcases List.mem_append.mp my with my | my
      · rw [List.mem_singleton.mp my] at hP ⊢
        exact o_strN (log_strN (by omega)) hP
      · obtain ⟨c, mc, rfl⟩ := List.mem_map.mp my
        exact o_strN (log_strN (by have := hc c mc; omega)) hP
    have er : ([natD i] ++ r.map natD).map strD = (strN i :: r.map strN).map D.str := by
      simp only [List.map_append, List.map_map, List.map_cons, List.map_nil]; rfl
    rw [er]
    walk_at "go"
    have jl := join_le " " (strN i :: r.map strN)
    rw [sl_len, List.length_cons, List.length_map] at jl
    refine o_join rfl (join_size (by rw [sl_len, List.length_cons, List.length_map]; omega)) ?_
    refine o_addS (mid (by rw [v5]; omega)) ?_
    rw [row_l hv]
    walk_at "go"
    refine o_app e2 (pre_len lp (by omega)) fun S3 l3 e3 m3 => ?_
    walk_at "go"
    refine ⟨by omega, fun m hm => (m3 m hm).trans (m2 m hm), ?_, _, _, _, rfl⟩
    rw [e3, snoc_map hrow]
  · rintro ρ S2 ⟨l2, m2, e2, o3, o4, o5, rfl⟩
    rw [rng_len, ← ht, ← List.length_map (f := fun x : List Nat => x.map strN), List.take_length] at e2
    exact h S2 o3 o4 o5 l2 e2 m2
abbrev chgBody : DTS := dDrop (dBM mApp (dVar 2) (dCons (dOp dAdd (dOp dAdd (dOp dAdd (dC (.str "change ")) (dCB cStr (dCons (dVar 3) dNil))) (dC (.str " "))) (dCB cStr (dCons (dOp dIx (dOp dIx (dVar 0) (dC (.int 1))) (dVar 3)) dNil))) dNil))
theorem chg_loop {N : Nat} {t : List Nat} {ps : List D} (ht : t.length = N) (hg : ∀ x ∈ t, x < N) (n4 : N ≤ 400) (hk : atI ps 1 = some (natsD t))
    {pre : List Str} (lp : pre.length ≤ 5000) {S1 : Store} {n : Nat} (e1 : S1[n]? = some (.lst (pre.map .str))) {o3 o4 o5 : Option D} {nx : Rho → Store → Prop} {rt : D → Store → Prop} {ex : Exc → Rho → Store → Prop} {live : Store → Prop} (hl : ∀ S, live S)
    (h : ∀ S2 o3 o4 o5, S2.length = S1.length → S2[n]? = some (.lst ((pre ++ tabS "change" 0 (t.map fun c => [strN c])).map .str)) → (∀ m : Nat, m ≠ n → S2[m]? = S1[m]?) → nx [some (.tup ps), some (natD N), some (.ref n), o3, o4, o5] S2) :
    dForK (eName 3) chgBody nx rt ex [some (.tup ps), some (natD N), some (.ref n), o3, o4, o5] (rngD 0 N) live S1 := by
  refine ⟨fun i ρ S' => S'.length = S1.length ∧ (∀ m : Nat, m ≠ n → S'[m]? = S1[m]?) ∧ S'[n]? = some (.lst ((pre ++ tabS "change" 0 ((t.map fun c => [strN c]).take i)).map D.str)) ∧ ∃ o3 o4 o5, ρ = [some (.tup ps), some (natD N), some (.ref n), o3, o4, o5],
    ⟨rfl, fun _ _ => rfl, by rw [List.take_zero]; show _ = some (SO.lst ((pre ++ []).map D.str)); rw [List.append_nil]; exact e1, _, _, _, rfl⟩, fun _ _ _ _ _ => hl _, ?_, ?_⟩
  · rintro i x ρ S2 hx ⟨l2, m2, e2, o3, o4, o5, rfl⟩
    obtain ⟨hi, rfl⟩ := rng_nat hx
    have hr : i < t.length := by omega
    have hrow : (t.map fun c => [strN c])[i]? = some [strN t[i]] := by rw [List.getElem?_map, List.getElem?_eq_getElem hr]; rfl
    have ex : atI (t.map natD) (i : Int) = some (natD t[i]) := by rw [atN, List.getElem?_map, List.getElem?_eq_getElem hr]; rfl
    have hc := hg _ (List.getElem_mem hr)
    generalize t[i] = c at hrow ex hc
    have s1 : (strN i).length ≤ 3 := strN3 (by omega)
    have s2 : (strN c).length ≤ 3 := strN3 (by omega)
    have hz := row_c (i := i) (c := c)
    have k1 : (Str.ofString (toString (i : Int))) = strN i := rfl
    have k2 : (Str.ofString (toString (c : Int))) = strN c := rfl
    have v7 : ("change " : Str).length = 7 := by decide
    walk_at "go"
    refine o_strN (log_strN (by omega)) ?_
    rw [k1]
    generalize strN i = zi at s1 hz ⊢
    refine o_addS (mid (by rw [v7]; omega)) ?_
    walk_at "go"
    refine o_addS (mid (by rw [app_len, v7, sl_len]; omega)) ?_
    walk_at "go"
    refine o_ix rfl hk ?_
    unfold natsD
    walk_at "go"
    refine o_ix rfl ex ?_
    walk_at "go"
    refine o_strN (log_strN (by omega)) ?_
    rw [k2]
    generalize strN c = zc at s2 hz hrow ⊢
    refine o_addS (mid (by rw [app_len, app_len, v7, sl_len]; omega)) ?_
    rw [hz]
    walk_at "go"
    refine o_app e2 (pre_len lp (by omega)) fun S3 l3 e3 m3 => ?_
    walk_at "go"
    refine ⟨by omega, fun m hm => (m3 m hm).trans (m2 m hm), ?_, _, _, _, rfl⟩
    rw [e3, snoc_map hrow]
  · rintro ρ S2 ⟨l2, m2, e2, o3, o4, o5, rfl⟩
    rw [rng_len, ← ht, ← List.length_map (f := fun c : Nat => [strN c]), List.take_length] at e2
    exact h S2 o3 o4 o5 l2 e2 m2
abbrev lookBody : DTS := dDrop (dBM mApp (dVar 2) (dCons (dOp dAdd (dC (.str "look ")) (dSM1 mJoin (dC (.str " ")) (dOp dCat (dLst (dCons (dCB cStr (dCons (dVar 3) dNil)) dNil)) (dLc (jSq (dOp dIx (dOp dIx (dVar 0) (dC (.int 4))) (dVar 3))) (c1 5) dYes (dOp dAtS (dVar 5) (dC (.int 0))))))) dNil))
theorem look_loop {N : Nat} {t : List (List Str)} {ps : List D} (ht : t.length = N) (hg : ∀ r ∈ t, r.length = N ∧ ∀ x ∈ r, x ∈ bwords) (n4 : N ≤ 400) (hk : atI ps 4 = some (.tup (t.map strsD)))
    {pre : List Str} (lp : pre.length ≤ 5000) {S1 : Store} {n : Nat} (e1 : S1[n]? = some (.lst (pre.map .str))) {o3 o4 o5 : Option D} {nx : Rho → Store → Prop} {rt : D → Store → Prop} {ex : Exc → Rho → Store → Prop} {live : Store → Prop} (hl : ∀ S, live S)
    (h : ∀ S2 o3 o4 o5, S2.length = S1.length → S2[n]? = some (.lst ((pre ++ tabS "look" 0 (lookT t)).map .str)) → (∀ m : Nat, m ≠ n → S2[m]? = S1[m]?) → nx [some (.tup ps), some (natD N), some (.ref n), o3, o4, o5] S2) :
    dForK (eName 3) lookBody nx rt ex [some (.tup ps), some (natD N), some (.ref n), o3, o4, o5] (rngD 0 N) live S1 := by
  refine ⟨fun i ρ S' => S'.length = S1.length ∧ (∀ m : Nat, m ≠ n → S'[m]? = S1[m]?) ∧ S'[n]? = some (.lst ((pre ++ tabS "look" 0 ((lookT t).take i)).map D.str)) ∧ ∃ o3 o4 o5, ρ = [some (.tup ps), some (natD N), some (.ref n), o3, o4, o5],
    ⟨rfl, fun _ _ => rfl, by rw [List.take_zero]; show _ = some (SO.lst ((pre ++ []).map D.str)); rw [List.append_nil]; exact e1, _, _, _, rfl⟩, fun _ _ _ _ _ => hl _, ?_, ?_⟩
  · rintro i x ρ S2 hx ⟨l2, m2, e2, o3, o4, o5, rfl⟩
    obtain ⟨hi, rfl⟩ := rng_nat hx
    have hr : i < t.length := by omega
    have hrow : (lookT t)[i]? = some (t[i].map letW) := by unfold lookT; rw [List.getElem?_map, List.getElem?_eq_getElem hr]; rfl
    have ex : atI (t.map strsD) (i : Int) = some (strsD t[i]) := by rw [atN, List.getElem?_map, List.getElem?_eq_getElem hr]; rfl
    obtain ⟨hl, hc⟩ := hg _ (List.getElem_mem hr)
    generalize t[i] = r at hrow ex hl hc
    have sl : sumL ((strN i :: r.map letW)) ≤ 3 * (1 + r.length) := by
      have := sum_le (r := strN i :: r.map letW) (m := 3) fun z mz => by
        rcases List.mem_cons.mp mz with rfl | mz
        · exact strN3 (by omega)
        · obtain ⟨c, mc, rfl⟩ := List.mem_map.mp mz
          rw [let_len]; decide
      rw [List.length_cons, List.length_map] at this
      omega
    walk_at "go"
    refine o_strN (log_strN (by omega)) ?_
    have k1 : (Str.ofString (toString (i : Int))) = strN i := rfl
    rw [k1]
    have hz := row_l (w := "look") (v := "look ") (i := i) (r := r.map letW) (by rw [TL.tl_ofString, TL.tl_ofString, TL.tl_ofString]; decide)
    have jl := join_le " " (strN i :: r.map letW)
    rw [sl_len, List.length_cons, List.length_map] at jl
    generalize strN i = zi at sl hz jl ⊢
    walk_at "go"
    refine o_ix rfl hk ?_
    walk_at "go"
    refine o_ix rfl ex ?_
    unfold strsD
    walk_at "go"
    refine o_lcM letD rfl (mid (by rw [List.length_map]; omega)) (fun y my Pz hP => ?_) ?_
    · obtain ⟨z, mz, rfl⟩ := List.mem_map.mp my
      obtain ⟨c, q, e1, e2⟩ := let_at (hc z mz)
      walk_at "go"
      refine o_atS e1 ?_
      rw [e2]
      exact hP
    refine o_cat rfl rfl (mid (by simp only [List.length_cons, List.length_nil, List.length_map]; omega)) ?_
    have er : [D.str zi] ++ (r.map D.str).map letD = (zi :: r.map letW).map D.str := by
      rw [List.map_map, List.map_cons, List.map_map]; rfl
    rw [er]
    refine o_join rfl (join_size (by rw [sl_len, List.length_cons, List.length_map]; omega)) ?_
    have v5 : ("look " : Str).length = 5 := by decide
    refine o_addS (mid (by rw [v5]; omega)) ?_
    rw [hz]
    walk_at "go"
    refine o_app e2 (pre_len lp (by omega)) fun S3 l3 e3 m3 => ?_
    walk_at "go"
    refine ⟨by omega, fun m hm => (m3 m hm).trans (m2 m hm), ?_, _, _, _, rfl⟩
    rw [e3, snoc_map hrow]
  · rintro ρ S2 ⟨l2, m2, e2, o3, o4, o5, rfl⟩
    have : (lookT t).length = N := by unfold lookT; rw [List.length_map]; exact ht
    rw [rng_len, ← this, List.take_length] at e2
    exact h S2 o3 o4 o5 l2 e2 m2
def spLText : DSp := fun ds S Q E => ∃ (b : Bk) (N : Nat), ds = [b.d] ∧ b.Ok N ∧ ∀ S', Grown S S' → Q (.str b.text) S'
theorem ok__law_book_text (T : Txt K mg cCopyError cBadText cBook) : Cal P w K mg base "_law_book_text" 1 ["_law_parts_here"] spLText := by
  obtain ⟨f, fd, A, hm, hk, hb⟩ := T.d__law_book_text
  refine ⟨f, fd, dfn A sc__law_book_text (by intro ds S Q E h; obtain ⟨_, _, rfl, _⟩ := h; rfl) (fun cdv A outer s H E hr => ⟨_, (ds_cons (ds_set 1 (fun _ => sc__law_book_text.nd) (dc_len (fun _ => T.b_len) (da_cons (de_at (de_var 0) de_int) da_nil)))
    (ds_cons (ds_set 2 (fun _ => sc__law_book_text.nd) (de_new (da_cons (de_add (de_add (de_add de_str (dc_str (fun _ => T.b_str) (da_cons (de_var 1) da_nil))) de_str) (dc_str (fun _ => T.b_str) (da_cons (de_at (de_var 0) de_int) da_nil))) da_nil)))
    (ds_cons (ds_for (fun _ => bodyHp) (fun _ => rfl) (di_rng1 (by intro _; rfl) (fun _ => T.b_range) (da_cons (de_var 1) da_nil)) (dg_name 3 (fun _ => sc__law_book_text.nd))
    (ds_one (ds_expr (de_append (de_var 2) (da_cons (de_add (de_add (de_add de_str (dc_str (fun _ => T.b_str) (da_cons (de_var 3) da_nil))) de_str) (dc_str (fun _ => T.b_str) (da_cons (de_at (de_at (de_var 0) de_int) (de_var 3)) da_nil))) da_nil)))))
    (ds_cons (ds_for (fun _ => bodyHp) (fun _ => rfl) (di_rng1 (by intro _; rfl) (fun _ => T.b_range) (da_cons (de_var 1) da_nil)) (dg_name 3 (fun _ => sc__law_book_text.nd))
    (ds_one (ds_expr (de_append (de_var 2) (da_cons (de_add de_str (de_join de_str (de_lc 4 (fun _ => rfl) (fun _ => sc__law_book_text.nd) (di_sq (de_add (de_tup (da_cons (de_var 3) da_nil)) (de_at (de_at (de_var 0) de_int) (de_var 3)))) (fun _ => blkOk_by (N := N__law_book_text) (sc := defScope s__law_book_text) (by decide +kernel)) dts_nil (dc_str (fun _ => T.b_str) (da_cons (de_var 4) da_nil)) (fun _ => pg_name (i := 4) sc__law_book_text.nd rfl (Or.inl rfl))))) da_nil)))))
    (ds_cons (ds_for (fun _ => bodyHp) (fun _ => rfl) (di_rng1 (by intro _; rfl) (fun _ => T.b_range) (da_cons (de_var 1) da_nil)) (dg_name 3 (fun _ => sc__law_book_text.nd))
    (ds_one (ds_expr (de_append (de_var 2) (da_cons (de_add de_str (de_join de_str (de_lc 4 (fun _ => rfl) (fun _ => sc__law_book_text.nd) (di_sq (de_add (de_tup (da_cons (de_var 3) da_nil)) (de_at (de_at (de_var 0) de_int) (de_var 3)))) (fun _ => blkOk_by (N := N__law_book_text) (sc := defScope s__law_book_text) (by decide +kernel)) dts_nil (dc_str (fun _ => T.b_str) (da_cons (de_var 4) da_nil)) (fun _ => pg_name (i := 4) sc__law_book_text.nd rfl (Or.inl rfl))))) da_nil)))))
    (ds_cons (ds_for (fun _ => bodyHp) (fun _ => rfl) (di_rng1 (by intro _; rfl) (fun _ => T.b_range) (da_cons (de_ifExp (dt_cmp (fun _ => op_notN) lk_notN (de_at (de_var 0) de_int) de_non (nomark _)) (de_var 1) de_int) da_nil)) (dg_name 3 (fun _ => sc__law_book_text.nd))
    (ds_one (ds_expr (de_append (de_var 2) (da_cons (de_add de_str (de_join de_str (de_cat (de_lst (da_cons (dc_str (fun _ => T.b_str) (da_cons (de_var 3) da_nil)) da_nil)) (de_lc 5 (fun _ => rfl) (fun _ => sc__law_book_text.nd) (di_sq (de_at (de_at (de_var 0) de_int) (de_var 3))) (fun _ => blkOk_by (N := N__law_book_text) (sc := defScope s__law_book_text) (by decide +kernel)) dts_nil (de_atS (de_var 5) de_int) (fun _ => pg_name (i := 5) sc__law_book_text.nd rfl (Or.inl rfl)))))) da_nil)))))
    (ds_one (ds_ret (de_join de_str (de_var 2)))))))))), fun ds S Q E h => ?_⟩), hm, hk, hb⟩
  obtain ⟨b, N, rfl, hb, h⟩ := h
  have n1 := hb.n1
  have n4 := hb.n4
  have hN : ((N : Int)).natAbs.log2 < 1920 := log_strN (by omega)
  have hF : ((b.f : Int)).natAbs.log2 < 1920 := log_strN (by have := hb.f; omega)
  have eN : (((b.cs.map natD).length : Nat) : Int) = (N : Int) := by rw [List.length_map, hb.cl]
  have q1 : (strN N).length ≤ 3 := strN3 (by omega)
  have q2 : (strN b.f).length ≤ 3 := strN3 (by have := hb.f; omega)
  have q3 : ("stamps " : Str).length = 7 := by decide
  have q4 : (" first " : Str).length = 7 := by decide
  unfold Bk.d Bk.parts natsD
  walk_at "go"
  rw [eN]
  refine o_strN hN ?_
  have hh := head_l (N := N) (f := b.f)
  unfold strN at hh q1 q2
  generalize Str.ofString (toString (N : Int)) = zN at q1 hh ⊢
  walk_at "go"
  refine o_addS (mid (by rw [q3]; omega)) ?_
  walk_at "go"
  refine o_addS (mid (by rw [app_len, q3, q4]; omega)) ?_
  walk_at "go"
  refine o_strN hF ?_
  generalize Str.ofString (toString (b.f : Int)) = zF at q2 hh ⊢
  refine o_addS (mid (by rw [app_len, app_len, q3, q4]; omega)) ?_
  rw [hh]
  walk_at "go"
  have lC : b.tC.length = N := by unfold Bk.tC; rw [List.length_map]; exact hb.cl
  have lK : b.tK.length = N := by unfold Bk.tK; rw [List.length_map]; exact hb.kl
  have lJ : b.tJ.length = N := by unfold Bk.tJ; rw [List.length_map]; exact hb.jl
  have gp : (S ++ [SO.lst [.str (headS N b.f)]])[S.length]? = some (.lst [.str (headS N b.f)]) := by rw [List.getElem?_append_right (Nat.le_refl _)]; simp
  have g0 : Grown S (S ++ [SO.lst [.str (headS N b.f)]]) := ⟨by simp, fun m hm => List.getElem?_append_left hm⟩
  have l0 : (S ++ [SO.lst [.str (headS N b.f)]]).length = S.length + 1 := by simp
  generalize S ++ [SO.lst [.str (headS N b.f)]] = S0 at gp g0 l0 ⊢
  refine ⟨_, rfl, by omega, by omega, ?_⟩
  rw [Int.toNat_natCast]
  refine chg_loop hb.cl hb.c n4 rfl (pre := [headS N b.f]) (by simp) gp (fun _ => trivial) fun S1 o3 o4 o5 l1 e1 m1 => ?_
  walk_at "go"
  refine ⟨_, rfl, by omega, by omega, ?_⟩
  rw [Int.toNat_natCast]
  refine row_loop (w := "fork") (by rw [TL.tl_ofString, TL.tl_ofString, TL.tl_ofString]; decide) (by decide) hb.kl (fun r m => ⟨by rw [(hb.k r m).1]; decide, (hb.k r m).2⟩) n4 rfl (by rw [List.length_append, tabS_len, List.length_map, hb.cl]; simp; omega) e1 (fun _ => trivial) fun S2 o3 o4 o5 l2 e2 m2 => ?_
  walk_at "go"
  refine ⟨_, rfl, by omega, by omega, ?_⟩
  rw [Int.toNat_natCast]
  refine row_loop (w := "join") (by rw [TL.tl_ofString, TL.tl_ofString, TL.tl_ofString]; decide) (by decide) hb.jl (fun r m => ⟨by rw [(hb.j r m).1]; exact n4, (hb.j r m).2⟩) n4 rfl (by rw [List.length_append, List.length_append, tabS_len, tabS_len, List.length_map, List.length_map, hb.cl, hb.kl]; simp; omega) e2 (fun _ => trivial) fun S3 o3 o4 o5 l3 e3 m3 => ?_
  have gr3 : Grown S S3 := ⟨by omega, fun m hm => (m3 m (by omega)).trans ((m2 m (by omega)).trans ((m1 m (by omega)).trans (g0.2 m hm)))⟩
  have big := hb.big
  walk_at "go"
  cases el : b.ls with
  | none =>
    have el2 : b.tL = [] := by unfold Bk.tL; rw [el]
    walk_at "go"
    refine ⟨_, rfl, by decide, by decide, ?_⟩
    refine ⟨fun i ρ S' => S' = S3 ∧ ∃ o3 o4 o5, ρ = [some (.tup [natD b.f, .tup (b.cs.map natD), rowsD b.ks, rowsD b.js, .non]), some (natD N), some (.ref S.length), o3, o4, o5], ⟨rfl, _, _, _, rfl⟩, fun _ _ _ _ _ => trivial, ?_, ?_⟩
    · rintro i x ρ S4 hx _
      have := (List.getElem?_eq_some_iff.mp hx).1
      rw [rng_len] at this
      exact absurd this (Nat.not_lt_zero _)
    · rintro ρ S4 ⟨rfl, o3, o4, o5, rfl⟩
      walk_at "go"
      refine o_join (ys := b.lines) (sq_ref (e3.trans ?_)) (join_size (by rw [nl_len1]; omega)) (h S4 gr3)
      unfold Bk.lines
      rw [el2, hb.cl]
      unfold Bk.tC Bk.tK Bk.tJ
      simp only [List.append_nil, List.cons_append, List.nil_append, List.append_assoc]
  | some t =>
    have ht := hb.l t el
    have el2 : b.tL = tabS "look" 0 (lookT t) := by unfold Bk.tL; rw [el]
    walk_at "go"
    refine ⟨_, rfl, by omega, by omega, ?_⟩
    rw [Int.toNat_natCast]
    refine look_loop ht.1 ht.2 n4 rfl (by rw [List.length_append, List.length_append, List.length_append, tabS_len, tabS_len, tabS_len, List.length_map, List.length_map, List.length_map, hb.cl, hb.kl, hb.jl]; simp; omega) e3 (fun _ => trivial) fun S4 o3 o4 o5 l4 e4 m4 => ?_
    walk_at "go"
    refine o_join (ys := b.lines) (sq_ref (e4.trans ?_)) (join_size (by rw [nl_len1]; omega)) (h S4 ⟨by omega, fun m hm => (m4 m (by omega)).trans (gr3.2 m hm)⟩)
    unfold Bk.lines
    rw [el2, hb.cl]
    unfold Bk.tC Bk.tK Bk.tJ
    simp only [List.cons_append, List.nil_append, List.append_assoc]
end
open PySem PySem.Spec PyProof.Rows L2 Dy
section
variable {cCopyError cBadText cBook : Addr} {P : Program} {w : World} {K : PySem.W.Frag} {mg : Str → Option Value} {base : Heap} {n : Nat}
theorem cut3 {a b c : D} {xs : List D} : Dy.cutD (a :: b :: c :: xs) (some 3) none = xs := by rw [cut_drop (by decide)]; rfl
theorem cut1 {a : D} {r : List D} : Dy.cutD (a :: r) (some 1) none = r := by rw [cut_drop (by decide)]; rfl
def firstD : Option (Nat × Nat) → D
  | none => .non
  | some (m, f) => .tup [natD m, natD f]
def spFirst : DSp := fun ds S Q E => ∃ l : Str, ds = [.str l] ∧ l.length ≤ 2000000 ∧ Q (firstD (headOf l)) S
theorem ok__law_first_line (T : Txt K mg cCopyError cBadText cBook) (c__law_number : Cal P w K mg base "_law_number" 1 ["_law_word"] spNum) (c__law_numbers : Cal P w K mg base "_law_numbers" 2 ["_law_words_here", "_law_many"] spNums) : Cal P w K mg base "_law_first_line" 3 ["_law_line"] spFirst := by
  obtain ⟨f, fd, A, hm, hk, hb⟩ := T.d__law_first_line
  refine ⟨f, fd, dfn A sc__law_first_line (by intro ds S Q E h; obtain ⟨_, rfl, _⟩ := h; rfl) (fun cdv A outer s H E hr => ⟨_, (ds_cons (ds_set 1 (fun _ => sc__law_first_line.nd) (de_split (de_var 0) de_str))
    (ds_cons (ds_if (DW.dt (dw_or (dt_cmp (oq_ne fun _ => hr) lk_ne (dc_len (fun _ => T.b_len) (da_cons (de_var 1) da_nil)) de_int (nomark _)) (dw_or (dt_cmp (oq_ne fun _ => hr) lk_ne (de_at (de_var 1) de_int) de_str (nomark _)) (dw_or1 (dt_cmp (oq_ne fun _ => hr) lk_ne (de_at (de_var 1) de_int) de_str (nomark _))))))
    (ds_one (ds_ret de_non))
    ds_nil)
    (ds_cons (ds_set 2 (fun _ => sc__law_first_line.nd) (de_callC (fun _ => c__law_number) (fun _ => hr) (by omega) (fun _ => bodyTk) (da_cons (de_at (de_var 1) de_int) da_nil)))
    (ds_cons (ds_if (DW.dt (dw_or (dt_cmp (fun _ => op_isN) lk_isN (de_var 2) de_non (nomark _)) (dw_or1 (dt_not (dt_chain (fun _ => op_le) (fun _ => op_le) lk_le lk_le de_int (de_var 2) de_int)))))
    (ds_one (ds_ret de_non))
    ds_nil)
    (ds_cons (ds_set 3 (fun _ => sc__law_first_line.nd) (de_callC (fun _ => c__law_numbers) (fun _ => hr) (by omega) (fun _ => bodyTk) (da_cons (de_slL (de_var 1) (do_some de_int) do_none) (da_cons (de_var 2) da_nil))))
    (ds_one (ds_ret (de_ifExp (dt_cmp (fun _ => op_isN) lk_isN (de_var 3) de_non (nomark _)) de_non (de_tup (da_cons (de_var 2) (da_cons (de_at (de_var 3) de_int) da_nil))))))))))), fun ds S Q E h => ?_⟩), hm, hk, hb⟩
  obtain ⟨l, rfl, hl, h⟩ := h
  have no : headOf l = none → Q .non S := fun e => by rw [e] at h; exact h
  walk_at "go"
  refine o_split (by decide) (mid (by omega)) ?_
  have pw : ∀ y ∈ Txt.split l " ", y.length ≤ 2000000 := fun y m => Nat.le_trans (split_part m) hl
  have eh : headOf l = (match Txt.split l " " with
    | [a, b, c, d] => if a = "stamps" ∧ c = "first" then (match figOf b, figOf d with
      | some m, some f => if f < m ∧ m ≤ 400 then some (m, f) else none
      | _, _ => none) else none
    | _ => none) := rfl
  generalize Txt.split l " " = ws at pw eh ⊢
  walk_at "go"
  rw [Bool.true_xor, List.length_map]
  by_cases h4 : ws.length = 4
  · obtain ⟨a, b, c, d, rfl⟩ : ∃ a b c d, ws = [a, b, c, d] := by
      match ws, h4 with
      | [a, b, c, d], _ => exact ⟨a, b, c, d, rfl⟩
    have eh : headOf l = if a = "stamps" ∧ c = "first" then (match figOf b, figOf d with
      | some m, some f => if f < m ∧ m ≤ 400 then some (m, f) else none
      | _, _ => none) else none := eh
    have q : decide ((([a, b, c, d] : List Str).length : Int) = 4) = true := rfl
    rw [q]
    walk_at "go"
    rw [Bool.true_xor]
    refine not_if (ifD (fun ca => ?_) (fun ca => ?_))
    · walk_at "go"
      rw [Bool.true_xor]
      refine not_if (ifD (fun cc => ?_) (fun cc => ?_))
      · rw [if_pos ⟨ca, cc⟩] at eh
        walk_at "go"
        refine ⟨b, rfl, Nat.le_trans (pw b (by simp)) (by decide), ?_⟩
        cases eb : figOf b with
        | none =>
          rw [eb] at eh
          walk_at "go"
          exact no eh
        | some m =>
          have es : ∀ k, optD (some k) = natD k := fun _ => rfl
          rw [es]
          walk_at "go"
          refine ifD (fun c1 => ?_) (fun c1 => ?_)
          · walk_at "go"
            refine not_if (ifD (fun c2 => ?_) (fun c2 => ?_))
            · walk_at "go"
              have ec : Dy.cutD ([a, b, c, d].map D.str) (some 3) none = [d].map D.str := cut3
              rw [ec]
              refine ⟨[d], m, rfl, by simp, fun z mz => by rw [List.mem_singleton.mp mz]; exact Nat.le_trans (pw d (by simp)) (by decide), ?_⟩
              have e4 : mapO (figN m) [d] = (figN m d).map fun f => [f] := by
                rw [mapO, mapO]; cases figN m d <;> rfl
              rw [e4]
              have e5 : headOf l = (figN m d).map fun f => (m, f) := by
                rw [eh, eb]
                unfold figN
                cases figOf d with
                | none => rfl
                | some f =>
                  show (if f < m ∧ m ≤ 400 then some (m, f) else none) = ((if f < m then some f else none : Option Nat)).map fun f => (m, f)
                  by_cases c3 : f < m
                  · rw [if_pos ⟨c3, by omega⟩, if_pos c3]; rfl
                  · rw [if_neg (fun z => c3 z.1), if_neg c3]; rfl
              rw [e5] at h
              cases e6 : figN m d with
              | none =>
                rw [e6] at h
                walk_at "go"
                exact h
              | some f =>
                rw [e6] at h
                walk_at "go"
                exact h
            · walk_at "go"
              refine no (eh.trans ?_)
              rw [eb]
              cases figOf d with
              | none => rfl
              | some f => exact if_neg (by omega)
          · walk_at "go"
            refine no (eh.trans ?_)
            rw [eb]
            cases figOf d with
            | none => rfl
            | some f => exact if_neg (by omega)
      · rw [if_neg (fun z => cc z.2)] at eh
        walk_at "go"
        exact no eh
    · rw [if_neg (fun z => ca z.1)] at eh
      walk_at "go"
      exact no eh
  · have q : decide ((ws.length : Int) = 4) = false := decide_eq_false (by omega)
    rw [q]
    walk_at "go"
    refine no (eh.trans ?_)
    match ws, h4 with
    | [], _ => rfl
    | [_], _ => rfl
    | [_, _], _ => rfl
    | [_, _, _], _ => rfl
    | [_, _, _, _], h4 => exact absurd rfl h4
    | _ :: _ :: _ :: _ :: _ :: _, _ => rfl
def spRowOf : DSp := fun ds S Q E => ∃ (l v : Str) (i N wide : Nat), ds = [.str l, .str v, natD i, natD N, natD wide] ∧ l.length ≤ 2000000 ∧ i < N ∧ Q (figsD (rowM (figN N) v wide i l)) S
theorem ok__law_row_of (T : Txt K mg cCopyError cBadText cBook) (c__law_numbers : Cal P w K mg base "_law_numbers" 2 ["_law_words_here", "_law_many"] spNums) : Cal P w K mg base "_law_row_of" 3 ["_law_line", "_law_word", "_law_stamp", "_law_many", "_law_wide"] spRowOf := by
  obtain ⟨f, fd, A, hm, hk, hb⟩ := T.d__law_row_of
  refine ⟨f, fd, dfn A sc__law_row_of (by intro ds S Q E h; obtain ⟨_, _, _, _, _, rfl, _⟩ := h; rfl) (fun cdv A outer s H E hr => ⟨_, (ds_cons (ds_set 5 (fun _ => sc__law_row_of.nd) (de_split (de_var 0) de_str))
    (ds_cons (ds_set 6 (fun _ => sc__law_row_of.nd) (de_callC (fun _ => c__law_numbers) (fun _ => hr) (by omega) (fun _ => bodyTk) (da_cons (de_slL (de_var 5) (do_some de_int) do_none) (da_cons (de_var 3) da_nil))))
    (ds_cons (ds_if (DW.dt (dw_or (dt_cmp (oq_ne fun _ => hr) lk_ne (de_at (de_var 5) de_int) (de_var 1) (nomark _)) (dw_or (dt_cmp (fun _ => op_isN) lk_isN (de_var 6) de_non (nomark _)) (dw_or (dt_cmp (oq_ne fun _ => hr) lk_ne (dc_len (fun _ => T.b_len) (da_cons (de_var 6) da_nil)) (de_add (de_var 4) de_int) (nomark _)) (dw_or1 (dt_cmp (oq_ne fun _ => hr) lk_ne (de_at (de_var 6) de_int) (de_var 2) (nomark _)))))))
    (ds_one (ds_ret de_non))
    ds_nil)
    (ds_one (ds_ret (de_slT (de_var 6) (do_some de_int) do_none)))))), fun ds S Q E h => ?_⟩), hm, hk, hb⟩
  obtain ⟨l, v, i, N, wide, rfl, hl, hi, h⟩ := h
  rw [rowM_law hi] at h
  walk_at "go"
  refine o_split (by decide) (mid (by omega)) ?_
  have pw : ∀ y ∈ Txt.split l " ", y.length ≤ 2000000 := fun y m => Nat.le_trans (split_part m) hl
  have nw : (Txt.split l " ").length ≤ 2000002 := Nat.le_trans (split_many _ _) (by omega)
  have hne := split_ne l " "
  generalize Txt.split l " " = ws at pw nw hne h ⊢
  cases ws with
  | nil => exact absurd rfl hne
  | cons a ws =>
    simp only [List.length_cons] at nw
    have h : Q (figsD (if a = v then (match mapO (figN N) ws with
      | some (k :: kr) => if kr.length = wide ∧ k = i then some kr else none
      | _ => none) else none)) S := h
    walk_at "go"
    have ec : Dy.cutD ((a :: ws).map D.str) (some 1) none = ws.map D.str := cut1
    rw [ec]
    refine ⟨ws, N, rfl, by omega, fun z mz => Nat.le_trans (pw z (List.mem_cons_of_mem _ mz)) (by decide), ?_⟩
    walk_at "go"
    rw [Bool.true_xor]
    refine not_if (ifD (fun ca => ?_) (fun ca => ?_))
    · rw [if_pos ca] at h
      cases em : mapO (figN N) ws with
      | none =>
        rw [em] at h
        walk_at "go"
        exact h
      | some ks =>
        rw [em] at h
        have hkl := (mapO_some em).1
        walk_at "go"
        rw [Bool.true_xor, List.length_map]
        refine not_if (ifD (fun c1 => ?_) (fun c1 => ?_))
        · cases ks with
          | nil => simp at c1; omega
          | cons k kr =>
            simp only [List.length_cons] at c1
            have h : Q (figsD (if kr.length = wide ∧ k = i then some kr else none)) S := h
            walk_at "go"
            rw [Bool.true_xor]
            refine not_if (ifD (fun c2 => ?_) (fun c2 => ?_))
            · rw [if_pos ⟨by omega, by omega⟩] at h
              walk_at "go"
              have ec2 : Dy.cutD ((k :: kr).map natD) (some 1) none = kr.map natD := cut1
              show dSlT (.tup ((k :: kr).map natD)) (some 1) none S _
              refine o_slT ?_
              rw [ec2]
              exact h
            · rw [if_neg (by omega)] at h
              walk_at "go"
              exact h
        · walk_at "go"
          cases ks with
          | nil => exact h
          | cons k kr =>
            simp only [List.length_cons] at c1
            have h : Q (figsD (if kr.length = wide ∧ k = i then some kr else none)) S := h
            rw [if_neg (by omega)] at h
            exact h
    · rw [if_neg ca] at h
      walk_at "go"
      exact h
theorem o_neNI {i : Int} {S : Store} {Q : QD} (h : Q (.bl true) S) : dEqN true .non (.int i) S Q := by
  show ∃ d e, pyS S D.non = some d ∧ pyS S (D.int i) = some e ∧ min d.depth e.depth ≤ 60 ∧ Q (.bl (true ^^ PyData.eqv d e)) S
  exact ⟨.none, .int i, rfl, rfl, by show min 0 0 ≤ 60; decide, h⟩
def strsO : Option (List Str) → D
  | none => .non
  | some r => strsD r
def spLooksOf : DSp := fun ds S Q E => ∃ (l : Str) (i N : Nat), ds = [.str l, natD i, natD N] ∧ l.length ≤ 2000000 ∧ i < 10 ^ 9 ∧ N ≤ 1000 ∧ Q (strsO (rowM fL "look" N i l)) S
def getL : D → D
  | .str z => (((fL z).map D.str).getD .non)
  | _ => .non
theorem ok__law_looks_of (T : Txt K mg cCopyError cBadText cBook) (c__law_number : Cal P w K mg base "_law_number" 1 ["_law_word"] spNum) : Cal P w K mg base "_law_looks_of" 2 ["_law_line", "_law_stamp", "_law_many"] spLooksOf := by
  obtain ⟨f, fd, A, hm, hk, hb⟩ := T.d__law_looks_of
  refine ⟨f, fd, dfn A sc__law_looks_of (by intro ds S Q E h; obtain ⟨_, _, _, rfl, _⟩ := h; rfl) (fun cdv A outer s H E hr => ⟨_, (ds_cons (ds_set 3 (fun _ => sc__law_looks_of.nd) (de_split (de_var 0) de_str))
    (ds_cons (ds_if (DW.dt (dw_or (dt_cmp (oq_ne fun _ => hr) lk_ne (dc_len (fun _ => T.b_len) (da_cons (de_var 3) da_nil)) (de_add (de_var 2) de_int) (nomark _)) (dw_or (dt_cmp (oq_ne fun _ => hr) lk_ne (de_at (de_var 3) de_int) de_str (nomark _)) (dw_or1 (dt_cmp (oq_ne fun _ => hr) lk_ne (de_callC (fun _ => c__law_number) (fun _ => hr) (by omega) (fun _ => bodyTk) (da_cons (de_at (de_var 3) de_int) da_nil)) (de_var 1) (nomark _))))))
    (ds_one (ds_ret de_non))
    ds_nil)
    (ds_cons (ds_if (dt_not (dt_val (dc_all (fun _ => rfl) (fun _ => T.b_all) (da_cons (de_lc 4 (fun _ => rfl) (fun _ => sc__law_looks_of.nd) (di_sq (de_slL (de_var 3) (do_some de_int) do_none)) (fun _ => blkOk_by (N := N__law_looks_of) (sc := defScope s__law_looks_of) (by decide +kernel)) dts_nil (de_cmp (oq_inX fun _ => hr) lk_inX (de_var 4) (de_lst (da_cons de_str (da_cons de_str (da_cons de_str (da_cons de_str da_nil))))) (by rfl)) (fun _ => pg_name (i := 4) sc__law_looks_of.nd rfl (Or.inl rfl))) da_nil))))
    (ds_one (ds_ret de_non))
    ds_nil)
    (ds_one (ds_ret (dc_tuple (fun _ => T.b_tuple) (da_cons (de_lc 4 (fun _ => rfl) (fun _ => sc__law_looks_of.nd) (di_sq (de_slL (de_var 3) (do_some de_int) do_none)) (fun _ => blkOk_by (N := N__law_looks_of) (sc := defScope s__law_looks_of) (by decide +kernel)) dts_nil (de_dget (fun _ => hr) (de_disp (dps_cons de_str de_str (dps_cons de_str de_str (dps_cons de_str de_str (dps_cons de_str de_str dps_nil))))) (de_var 4)) (fun _ => pg_name (i := 4) sc__law_looks_of.nd rfl (Or.inl rfl))) da_nil))))))), fun ds S Q E h => ?_⟩), hm, hk, hb⟩
  obtain ⟨l, i, N, rfl, hl, hi, hN, h⟩ := h
  unfold rowM at h
  walk_at "go"
  refine o_split (by decide) (mid (by omega)) ?_
  have pw : ∀ y ∈ Txt.split l " ", y.length ≤ 2000000 := fun y m => Nat.le_trans (split_part m) hl
  generalize Txt.split l " " = ws at pw h ⊢
  walk_at "go"
  rw [Bool.true_xor, List.length_map]
  by_cases h2 : ws.length = N + 2
  · obtain ⟨a, b, ps, rfl⟩ : ∃ a b ps, ws = a :: b :: ps := by
      match ws, h2 with
      | a :: b :: ps, _ => exact ⟨a, b, ps, rfl⟩
    have hps : ps.length = N := by simpa using h2
    have q : decide ((((a :: b :: ps).length : Nat) : Int) = (N : Int) + 2) = true := decide_eq_true (by simp only [List.length_cons]; omega)
    have h : Q (strsO (if a = "look" ∧ figOf b = some i ∧ ps.length = N then mapO fL ps else none)) S := h
    rw [q]
    walk_at "go"
    rw [Bool.true_xor]
    refine not_if (ifD (fun ca => ?_) (fun ca => ?_))
    · walk_at "go"
      refine ⟨b, rfl, Nat.le_trans (pw b (by simp)) (by decide), ?_⟩
      cases eb : figOf b with
      | none =>
        rw [if_neg (fun z => by rw [eb] at z; cases z.2.1)] at h
        have es : optD none = D.non := rfl
        rw [es]
        walk_at "go"
        refine o_neNI ?_
        walk_at "go"
        exact h
      | some k =>
        have es : optD (some k) = natD k := rfl
        rw [es]
        walk_at "go"
        rw [Bool.true_xor]
        refine not_if (ifD (fun c1 => ?_) (fun c1 => ?_))
        · rw [if_pos ⟨ca, by rw [eb]; congr 1; omega, hps⟩] at h
          walk_at "go"
          have ec : Dy.cutD ((a :: b :: ps).map D.str) (some 2) none = ps.map D.str := cut2
          rw [ec]
          refine o_lcM (fun x => .bl (inS ["s", "n", "e", "a"] x)) rfl (mid (by rw [List.length_map]; omega)) (fun y my Pz hP => ?_) ?_
          · obtain ⟨z, mz, rfl⟩ := List.mem_map.mp my
            walk_at "go"
            refine o_inS (xs := ["s", "n", "e", "a"]) rfl rfl ?_
            rw [Bool.false_xor]
            exact hP
          walk_at "go"
          refine o_all (g := inS ["s", "n", "e", "a"]) ?_
          have e4 : (ps.map D.str).all (inS ["s", "n", "e", "a"]) = (mapO fL ps).isSome := by
            rw [mapO_all, List.all_map]
            congr 1
            funext z
            exact inS_fL
          rw [e4]
          walk_at "go"
          cases em : mapO fL ps with
          | none =>
            rw [em] at h
            walk_at "go"
            exact h
          | some rs =>
            rw [em] at h
            walk_at "go"
            rw [ec]
            refine o_lcM getL rfl (mid (by rw [List.length_map]; omega)) (fun y my Pz hP => ?_) ?_
            · obtain ⟨z, mz, rfl⟩ := List.mem_map.mp my
              obtain ⟨s, es⟩ : ∃ s, fL z = some s := by
                have h3 := mapO_all (f := fL) (ws := ps)
                rw [em] at h3
                exact Option.isSome_iff_exists.mp (List.all_eq_true.mp h3.symm z mz)
              have hP : Pz (((fL z).map D.str).getD .non) S := hP
              rw [es] at hP
              walk_at "go"
              refine ⟨letKV, rfl, by decide, ?_⟩
              rw [merge_let]
              walk_at "go"
              exact o_dget rfl rfl ((let_val z).trans (by rw [es]; rfl)) hP
            have e5 : (ps.map D.str).map getL = rs.map D.str := by
              have e6 : mapO (fun z => (fL z).map D.str) ps = some (rs.map D.str) := by rw [mapO_map, em]; rfl
              exact get_all e6
            rw [e5]
            walk_at "go"
            exact h
        · rw [if_neg (fun z => c1 (by have := z.2.1; rw [eb] at this; have := Option.some.inj this; omega))] at h
          walk_at "go"
          exact h
    · rw [if_neg (fun z => ca z.1)] at h
      walk_at "go"
      exact h
  · have q : decide ((ws.length : Int) = (N : Int) + 2) = false := decide_eq_false (by omega)
    rw [q]
    walk_at "go"
    match ws, h2 with
    | [], _ => exact h
    | [_], _ => exact h
    | a :: b :: ps, h2 =>
      have h : Q (strsO (if a = "look" ∧ figOf b = some i ∧ ps.length = N then mapO fL ps else none)) S := h
      rw [if_neg (fun z => h2 (by simp [z.2.2]))] at h
      exact h
end
open PySem PySem.Spec PyProof.Rows L2 Dy
section
variable {cCopyError cBadText cBook : Addr} {P : Program} {w : World} {K : PySem.W.Frag} {mg : Str → Option Value} {base : Heap} {n : Nat}
def spRowsR : DSp := fun ds S Q E => ∃ (ls : List Str) (N : Nat), ds = [.lst (ls.map .str), natD N] ∧ ls.length ≤ 3000000 ∧ (∀ l ∈ ls, l.length ≤ 2000000) ∧ 1 ≤ N ∧ N ≤ 400 ∧
  (∀ k S', collect (gAll ls N) 1 (3 * N) = .inl k → Grown S S' → Q (.tup [.str "text", natD (k + 1)]) S') ∧
  ∀ rs S' n, collect (gAll ls N) 1 (3 * N) = .inr rs → Grown S S' → S.length ≤ n → S'[n]? = some (.lst (rs.map natsD)) → Q (.tup [.str "told", .ref n]) S'
theorem ok__law_read_rows (T : Txt K mg cCopyError cBadText cBook) (c__law_row_of : Cal P w K mg base "_law_row_of" 3 ["_law_line", "_law_word", "_law_stamp", "_law_many", "_law_wide"] spRowOf) : Cal P w K mg base "_law_read_rows" 4 ["_law_lines", "_law_many"] spRowsR := by
  obtain ⟨f, fd, A, hm, hk, hb⟩ := T.d__law_read_rows
  refine ⟨f, fd, dfn A sc__law_read_rows (by intro ds S Q E h; obtain ⟨_, _, rfl, _⟩ := h; rfl) (fun cdv A outer s H E hr => ⟨_, (ds_cons (ds_set 2 (fun _ => sc__law_read_rows.nd) (de_new da_nil))
    (ds_cons (ds_for (fun _ => bodyHp) (fun _ => rfl) (di_rng1 (by intro _; rfl) (fun _ => T.b_range) (da_cons (de_mul de_int (de_var 1)) da_nil)) (dg_name 3 (fun _ => sc__law_read_rows.nd))
    (ds_cons (ds_asg (de_at (de_lst (da_cons (de_tup (da_cons de_str (da_cons de_int da_nil))) (da_cons (de_tup (da_cons de_str (da_cons de_int da_nil))) (da_cons (de_tup (da_cons de_str (da_cons (de_var 1) da_nil))) da_nil)))) (de_fdiv (de_var 3) (de_var 1))) (dg_tup (n := 2) (fun _ => rfl) (dgs_cons (dg_name 4 (fun _ => sc__law_read_rows.nd)) (dgs_cons (dg_name 5 (fun _ => sc__law_read_rows.nd)) dgs_nil))))
    (ds_cons (ds_set 6 (fun _ => sc__law_read_rows.nd) (de_ifExp (dt_cmp (fun _ => op_lt) lk_lt (de_add (de_var 3) de_int) (dc_len (fun _ => T.b_len) (da_cons (de_var 0) da_nil)) (nomark _)) (de_callC (fun _ => c__law_row_of) (fun _ => hr) (by omega) (fun _ => bodyTk) (da_cons (de_at (de_var 0) (de_add (de_var 3) de_int)) (da_cons (de_var 4) (da_cons (de_mod (dc_int (fun _ => T.b_int) (da_cons (de_var 3) da_nil)) (de_var 1)) (da_cons (de_var 1) (da_cons (de_var 5) da_nil)))))) de_non))
    (ds_cons (ds_if (dt_cmp (fun _ => op_isN) lk_isN (de_var 6) de_non (nomark _))
    (ds_one (ds_ret (de_tup (da_cons de_str (da_cons (de_add (de_var 3) de_int) da_nil)))))
    ds_nil)
    (ds_one (ds_expr (de_append (de_var 2) (da_cons (de_var 6) da_nil))))))))
    (ds_one (ds_ret (de_tup (da_cons de_str (da_cons (de_var 2) da_nil))))))), fun ds S Q E h => ?_⟩), hm, hk, hb⟩
  obtain ⟨ls, N, rfl, hn, hl, n1, n4, hbad, hok⟩ := h
  have gp : (S ++ [SO.lst []])[S.length]? = some (.lst []) := by rw [List.getElem?_append_right (Nat.le_refl _)]; simp
  have g0 : Grown S (S ++ [SO.lst []]) := ⟨by simp, fun m hm => List.getElem?_append_left hm⟩
  walk_at "go"
  generalize S ++ [SO.lst []] = S0 at gp g0 ⊢
  refine ⟨_, rfl, by omega, by omega, ?_⟩
  rw [show ((3 : Int) * (N : Int)).toNat = 3 * N by omega]
  generalize hG : gAll ls N = G at hbad hok
  refine ⟨fun i ρ S' => Grown S S' ∧ i ≤ 3 * N ∧ ∃ acc : List (List Nat), acc.length = i ∧ S'[S.length]? = some (.lst (acc.map natsD)) ∧ collect G 1 (3 * N) = goL acc (collect G (1 + i) (3 * N - i)) ∧ ∃ o3 o4 o5 o6, ρ = [some (.lst (ls.map .str)), some (natD N), some (.ref S.length), o3, o4, o5, o6],
    ⟨g0, Nat.zero_le _, [], rfl, gp, goL_nil.symm, none, none, none, none, rfl⟩, fun _ _ _ _ _ => trivial, ?_, ?_⟩
  · rintro i x ρ S1 hx ⟨g1, hi0, acc, ha, e1, hc, o3, o4, o5, o6, rfl⟩
    obtain ⟨hi, rfl⟩ := rng_nat hx
    have em : 3 * N - i = 3 * N - i - 1 + 1 := by omega
    have bad : G (1 + i) = none → Q (.tup [.str "text", .int ((i : Int) + 2)]) S1 := fun e => by
      have e2 : D.int ((i : Int) + 2) = natD (1 + i + 1) := by
        show D.int _ = D.int _
        congr 1
        omega
      rw [e2]
      refine hbad (1 + i) S1 ?_ g1
      rw [hc, em]
      exact goL_bad e
    have l1 : S.length < S1.length := (List.getElem?_eq_some_iff.mp e1).1
    have ht : i / N < 3 := by rw [Nat.div_lt_iff_lt_mul (by omega)]; exact hi
    have hm : i % N < N := Nat.mod_lt _ (by omega)
    have eg : G (1 + i) = (ls[1 + i]?).bind (rowM (figN N) (wT (i / N)) (wdT N (i / N)) (i % N)) := by
      rw [← hG]
      unfold gAll
      rw [Nat.add_sub_cancel_left]
    have ed : (i : Int) / (N : Int) = ((i / N : Nat) : Int) := (Int.natCast_ediv i N).symm
    have hlg : ((N : Int)).natAbs.log2 < 9000 := log_int (by omega) (by omega)
    have em2 : (i : Int) % (N : Int) = ((i % N : Nat) : Int) := (Int.natCast_emod i N).symm
    walk_at "go"
    rw [ed]
    have ep : atI [D.tup [.str "change", .int 1], D.tup [.str "fork", .int 2], D.tup [.str "join", natD N]] ((i / N : Nat) : Int) = some (.tup [.str (wT (i / N)), natD (wdT N (i / N))]) := by
      generalize i / N = t at ht
      rw [atN]
      match t, ht with
      | 0, _ => rfl
      | 1, _ => rfl
      | 2, _ => rfl
    refine o_ix rfl ep ?_
    walk_at "go"
    rw [List.length_map]
    refine ifD (fun c1 => ?_) (fun c1 => ?_)
    · have hlt : 1 + i < ls.length := by omega
      have pl := hl ls[1 + i] (List.getElem_mem hlt)
      have el : atI (ls.map D.str) ((i : Int) + 1) = some (.str ls[1 + i]) := by
        have : (i : Int) + 1 = ((1 + i : Nat) : Int) := by omega
        rw [this, atN, List.getElem?_map, List.getElem?_eq_getElem hlt]; rfl
      rw [List.getElem?_eq_getElem hlt] at eg
      generalize ls[1 + i] = l at pl el eg
      walk_at "go"
      refine o_ix rfl el ?_
      walk_at "go"
      rw [em2]
      walk_at "go"
      refine ⟨l, wT (i / N), i % N, N, wdT N (i / N), rfl, pl, hm, ?_⟩
      have eg : G (1 + i) = rowM (figN N) (wT (i / N)) (wdT N (i / N)) (i % N) l := eg
      cases er : rowM (figN N) (wT (i / N)) (wdT N (i / N)) (i % N) l with
      | none =>
        walk_at "go"
        exact bad (eg.trans er)
      | some r =>
        walk_at "go"
        refine o_app e1 (Nat.lt_of_lt_of_le (by rw [List.length_map]; omega : (acc.map natsD).length < 10000) (small (by decide))) fun S2 l2 f2 m2 => ?_
        walk_at "go"
        refine ⟨⟨by have := g1.1; omega, fun m hm => (m2 m (by omega)).trans (g1.2 m hm)⟩, by omega, acc ++ [r], by simp [ha], ?_, ?_, _, _, _, _, rfl⟩
        · rw [f2, List.map_append]; rfl
        · rw [hc, em, goL_step (eg.trans er), show 1 + i + 1 = 1 + (i + 1) by omega, show 3 * N - i - 1 = 3 * N - (i + 1) by omega]
    · walk_at "go"
      refine bad (eg.trans ?_)
      rw [List.getElem?_eq_none (by omega)]; rfl
  · rintro ρ S1 ⟨g1, hi0, acc, ha, e1, hc, o3, o4, o5, o6, rfl⟩
    rw [rng_len] at hc ha
    walk_at "go"
    refine hok acc S1 S.length ?_ g1 (Nat.le_refl _) e1
    rw [hc, Nat.sub_self]
    show (Sum.inr (acc ++ []) : Nat ⊕ List (List Nat)) = _
    rw [List.append_nil]
def dueT (z : Str) : D := match readB z with
  | .inl k => .tup [.str "text", natD k]
  | .inr b => .tup [.str "told", b.d]
theorem cut_mid {xs : List D} {a b : Nat} : Dy.cutD xs (some (a : Int)) (some (b : Int)) = (xs.take b).drop a := by
  unfold Dy.cutD
  rw [HT.sIx_nat, HT.sIx_nat, List.drop_take]
  by_cases h1 : a ≤ xs.length
  · rw [Nat.min_eq_left h1]
    by_cases h2 : b ≤ xs.length
    · rw [Nat.min_eq_left h2]
    · rw [Nat.min_eq_right (by omega), List.take_of_length_le (by rw [List.length_drop]; omega), List.take_of_length_le (by rw [List.length_drop]; omega)]
  · have e1 : min a xs.length = xs.length := Nat.min_eq_right (by omega)
    rw [e1, List.drop_length, List.drop_of_length_le (by omega : xs.length ≤ a)]
    simp
theorem if_val {P : Prop} [Decidable P] {i : Nat} {ρ : Rho} {S : Store} {d x : D} {Q : QD} {E : XQ} (hρ : ρ[i]? = some (some d)) (h : Q (if P then d else x) S) : if decide P = true then dVar i ρ S Q E else dC x ρ S Q E := by
  by_cases c : P
  · rw [if_pos (decide_eq_true c)]
    rw [if_pos c] at h
    exact c_var hρ h
  · rw [if_neg (by rw [decide_eq_false c]; decide)]
    rw [if_neg c] at h
    exact h
def spReadL : DSp := fun ds S Q E => ∃ z : Str, ds = [.str z] ∧ z.length ≤ 2000000 ∧ ∀ S', Grown S S' → Q (dueT z) S'
theorem ok__law_read_book (T : Txt K mg cCopyError cBadText cBook) (c__law_first_line : Cal P w K mg base "_law_first_line" 3 ["_law_line"] spFirst) (c__law_read_rows : Cal P w K mg base "_law_read_rows" 4 ["_law_lines", "_law_many"] spRowsR) (c__law_looks_of : Cal P w K mg base "_law_looks_of" 2 ["_law_line", "_law_stamp", "_law_many"] spLooksOf) : Cal P w K mg base "_law_read_book" 5 ["_law_text"] spReadL := by
  obtain ⟨f, fd, A, hm, hk, hb⟩ := T.d__law_read_book
  refine ⟨f, fd, dfn A sc__law_read_book (by intro ds S Q E h; obtain ⟨_, rfl, _⟩ := h; rfl) (fun cdv A outer s H E hr => ⟨_, (ds_cons (ds_if (dt_not (dt_val (dc_isi (T := "str") (by decide) (by decide) (fun _ => T.b_isinstance) (da_cons (de_var 0) (da_cons (de_bltn (by intro _; rfl) (fun _ => T.b_str) bt_str (d := .ty "str") (v := .ty "str") rfl rfl) da_nil)))))
    (ds_one (ds_ret (de_tup (da_cons de_str (da_cons de_int da_nil)))))
    ds_nil)
    (ds_cons (ds_set 1 (fun _ => sc__law_read_book.nd) (de_split (de_var 0) de_str))
    (ds_cons (ds_set 2 (fun _ => sc__law_read_book.nd) (de_callC (fun _ => c__law_first_line) (fun _ => hr) (by omega) (fun _ => bodyTk) (da_cons (de_at (de_var 1) de_int) da_nil)))
    (ds_cons (ds_if (dt_cmp (fun _ => op_isN) lk_isN (de_var 2) de_non (nomark _))
    (ds_one (ds_ret (de_tup (da_cons de_str (da_cons de_int da_nil)))))
    ds_nil)
    (ds_cons (ds_set 3 (fun _ => sc__law_read_book.nd) (de_at (de_var 2) de_int))
    (ds_cons (ds_asg (de_callC (fun _ => c__law_read_rows) (fun _ => hr) (by omega) (fun _ => bodyTk) (da_cons (de_var 1) (da_cons (de_var 3) da_nil))) (dg_tup (n := 2) (fun _ => rfl) (dgs_cons (dg_name 4 (fun _ => sc__law_read_book.nd)) (dgs_cons (dg_name 5 (fun _ => sc__law_read_book.nd)) dgs_nil))))
    (ds_cons (ds_if (dt_cmp (oq_eq fun _ => hr) lk_eq (de_var 4) de_str (nomark _))
    (ds_one (ds_ret (de_tup (da_cons (de_var 4) (da_cons (de_var 5) da_nil)))))
    ds_nil)
    (ds_cons (ds_set 6 (fun _ => sc__law_read_book.nd) (de_new da_nil))
    (ds_cons (ds_for (fun _ => bodyHp) (fun _ => rfl) (di_rng1 (by intro _; rfl) (fun _ => T.b_range) (da_cons (de_ifExp (dt_cmp (fun _ => op_gt) lk_gt (dc_len (fun _ => T.b_len) (da_cons (de_var 1) da_nil)) (de_add (de_mul de_int (de_var 3)) de_int) (nomark _)) (de_var 3) de_int) da_nil)) (dg_name 7 (fun _ => sc__law_read_book.nd))
    (ds_cons (ds_set 8 (fun _ => sc__law_read_book.nd) (de_add (de_add (de_mul de_int (de_var 3)) de_int) (de_var 7)))
    (ds_cons (ds_set 9 (fun _ => sc__law_read_book.nd) (de_ifExp (dt_cmp (fun _ => op_lt) lk_lt (de_var 8) (dc_len (fun _ => T.b_len) (da_cons (de_var 1) da_nil)) (nomark _)) (de_callC (fun _ => c__law_looks_of) (fun _ => hr) (by omega) (fun _ => bodyTk) (da_cons (de_at (de_var 1) (de_var 8)) (da_cons (de_var 7) (da_cons (de_var 3) da_nil)))) de_non))
    (ds_cons (ds_if (dt_cmp (fun _ => op_isN) lk_isN (de_var 9) de_non (nomark _))
    (ds_one (ds_ret (de_tup (da_cons de_str (da_cons (de_add (de_var 8) de_int) da_nil)))))
    ds_nil)
    (ds_one (ds_expr (de_append (de_var 6) (da_cons (de_var 9) da_nil))))))))
    (ds_cons (ds_if (dt_cmp (fun _ => op_gt) lk_gt (dc_len (fun _ => T.b_len) (da_cons (de_var 1) da_nil)) (de_add (de_mul de_int (de_var 3)) de_int) (nomark _))
    (ds_one (ds_ret (de_tup (da_cons de_str (da_cons (de_add (de_mul de_int (de_var 3)) de_int) da_nil)))))
    ds_nil)
    (ds_cons (ds_set 10 (fun _ => sc__law_read_book.nd) (dc_tuple (fun _ => T.b_tuple) (da_cons (de_lc 9 (fun _ => rfl) (fun _ => sc__law_read_book.nd) (di_sq (de_slL (de_var 5) do_none (do_some (de_var 3)))) (fun _ => blkOk_by (N := N__law_read_book) (sc := defScope s__law_read_book) (by decide +kernel)) dts_nil (de_at (de_var 9) de_int) (fun _ => pg_name (i := 9) sc__law_read_book.nd rfl (Or.inl rfl))) da_nil)))
    (ds_cons (ds_set 11 (fun _ => sc__law_read_book.nd) (dc_tuple (fun _ => T.b_tuple) (da_cons (de_slL (de_var 5) (do_some (de_mul de_int (de_var 3))) do_none) da_nil)))
    (ds_one (ds_ret (de_tup (da_cons de_str (da_cons (de_tup (da_cons (de_at (de_var 2) de_int) (da_cons (de_var 10) (da_cons (dc_tuple (fun _ => T.b_tuple) (da_cons (de_slL (de_var 5) (do_some (de_var 3)) (do_some (de_mul de_int (de_var 3)))) da_nil)) (da_cons (de_var 11) (da_cons (de_ifExp (dt_cmp (fun _ => op_gt) lk_gt (dc_len (fun _ => T.b_len) (da_cons (de_var 6) da_nil)) de_int (nomark _)) (dc_tuple (fun _ => T.b_tuple) (da_cons (de_var 6) da_nil)) de_non) da_nil)))))) da_nil))))))))))))))))), fun ds S Q E h => ?_⟩), hm, hk, hb⟩
  obtain ⟨z, rfl, hz, h⟩ := h
  have bad : ∀ k S', readB z = .inl k → Grown S S' → Q (.tup [.str "text", natD k]) S' := fun k S' e g => by
    have h := h S' g
    unfold dueT at h
    rw [e] at h
    exact h
  have good : ∀ b S', readB z = .inr b → Grown S S' → Q (.tup [.str "told", b.d]) S' := fun b S' e g => by
    have h := h S' g
    unfold dueT at h
    rw [e] at h
    exact h
  walk_at "go"
  refine o_split (by decide) (mid (by omega)) ?_
  have er : readB z = readLs (Txt.split z "\n") := rfl
  have hne := split_ne z "\n"
  have pl : ∀ l ∈ Txt.split z "\n", l.length ≤ 2000000 := fun l m => Nat.le_trans (split_part m) hz
  have nl : (Txt.split z "\n").length ≤ 2000002 := Nat.le_trans (split_many _ _) (by omega)
  generalize Txt.split z "\n" = ls at er hne pl nl ⊢
  cases ls with
  | nil => exact absurd rfl hne
  | cons l0 lr =>
  walk_at "go"
  refine ⟨l0, rfl, pl l0 (by simp), ?_⟩
  cases h0 : headOf l0 with
  | none =>
    walk_at "go"
    refine bad 1 S ?_ .refl
    rw [er]
    unfold readLs
    rw [show (l0 :: lr).headD "" = l0 from rfl, h0]
  | some p =>
  obtain ⟨N, f⟩ := p
  obtain ⟨hf, hN⟩ := head_ok h0
  have er : readB z = match collect (gRow (figN N) "change" 1 (l0 :: lr) 1) 1 N with
    | .inl k => .inl (k + 1)
    | .inr cs =>
      match collect (gRow (figN N) "fork" 2 (l0 :: lr) (1 + N)) (1 + N) N with
      | .inl k => .inl (k + 1)
      | .inr ks =>
        match collect (gRow (figN N) "join" N (l0 :: lr) (1 + 2 * N)) (1 + 2 * N) N with
        | .inl k => .inl (k + 1)
        | .inr js =>
          if 1 + 3 * N < (l0 :: lr).length then
            match collect (gRow fL "look" N (l0 :: lr) (1 + 3 * N)) (1 + 3 * N) N with
            | .inl k => .inl (k + 1)
            | .inr lo => if 1 + 4 * N < (l0 :: lr).length then .inl (2 + 4 * N) else .inr ⟨f, cs.map (·.headD 0), ks, js, some lo⟩
          else .inr ⟨f, cs.map (·.headD 0), ks, js, none⟩ := by
    rw [er]
    unfold readLs
    rw [show (l0 :: lr).headD "" = l0 from rfl, h0]
    all_goals rfl
  have r3 := rows3 (ls := l0 :: lr) (N := N) (by omega)
  have ef : firstD (some (N, f)) = .tup [natD N, natD f] := rfl
  rw [ef]
  walk_at "go"
  refine ⟨l0 :: lr, N, rfl, Nat.le_trans nl (by decide), pl, by omega, hN, fun k S' e g => ?_, fun rs S1 nr e g1 hnr e1 => ?_⟩
  · have eb : readB z = .inl (k + 1) := by
      rw [er]
      rw [r3] at e
      cases hC : collect (gRow (figN N) "change" 1 (l0 :: lr) 1) 1 N with
      | inl q => rw [hC] at e; cases e; rfl
      | inr cs =>
        cases hK : collect (gRow (figN N) "fork" 2 (l0 :: lr) (1 + N)) (1 + N) N with
        | inl q => simp only [hC, hK] at e; cases e; simp only [hK]
        | inr ks =>
          cases hJ : collect (gRow (figN N) "join" N (l0 :: lr) (1 + 2 * N)) (1 + 2 * N) N with
          | inl q => simp only [hC, hK, hJ] at e; cases e; simp only [hK, hJ]
          | inr js => simp only [hC, hK, hJ] at e; cases e
    walk_at "go"
    exact bad (k + 1) S' eb g
  · obtain ⟨cs, ks, js, hC, hK, hJ, rfl⟩ : ∃ cs ks js, collect (gRow (figN N) "change" 1 (l0 :: lr) 1) 1 N = .inr cs ∧ collect (gRow (figN N) "fork" 2 (l0 :: lr) (1 + N)) (1 + N) N = .inr ks ∧ collect (gRow (figN N) "join" N (l0 :: lr) (1 + 2 * N)) (1 + 2 * N) N = .inr js ∧ rs = cs ++ (ks ++ js) := by
      rw [r3] at e
      cases hC : collect (gRow (figN N) "change" 1 (l0 :: lr) 1) 1 N with
      | inl q => rw [hC] at e; cases e
      | inr cs =>
        cases hK : collect (gRow (figN N) "fork" 2 (l0 :: lr) (1 + N)) (1 + N) N with
        | inl q => simp only [hC, hK] at e; cases e
        | inr ks =>
          cases hJ : collect (gRow (figN N) "join" N (l0 :: lr) (1 + 2 * N)) (1 + 2 * N) N with
          | inl q => simp only [hC, hK, hJ] at e; cases e
          | inr js => simp only [hC, hK, hJ] at e; cases e; exact ⟨cs, ks, js, rfl, rfl, rfl, rfl⟩
    have er : readB z = if 1 + 3 * N < (l0 :: lr).length then
            match collect (gRow fL "look" N (l0 :: lr) (1 + 3 * N)) (1 + 3 * N) N with
            | .inl k => .inl (k + 1)
            | .inr lo => if 1 + 4 * N < (l0 :: lr).length then .inl (2 + 4 * N) else .inr ⟨f, cs.map (·.headD 0), ks, js, some lo⟩
          else .inr ⟨f, cs.map (·.headD 0), ks, js, none⟩ := by
      rw [er, hC]
      simp only [hK, hJ]
    have lc : cs.length = N := (table_ok hC).1
    have lk : ks.length = N := (table_ok hK).1
    have lj : js.length = N := (table_ok hJ).1
    have nrl : nr < S1.length := (List.getElem?_eq_some_iff.mp e1).1
    walk_at "go"
    refine if_val rfl ?_
    obtain ⟨M, hMe, hM⟩ : ∃ M : Nat, (if 3 * (N : Int) + 1 < (((l0 :: lr).map D.str).length : Nat) then natD N else D.int 0) = natD M ∧ ((1 + 3 * N < (l0 :: lr).length ∧ M = N) ∨ (¬ 1 + 3 * N < (l0 :: lr).length ∧ M = 0)) := by
      rw [List.length_map]
      by_cases c : 1 + 3 * N < (l0 :: lr).length
      · exact ⟨N, if_pos (by omega), .inl ⟨c, rfl⟩⟩
      · exact ⟨0, if_neg (by omega), .inr ⟨c, rfl⟩⟩
    rw [hMe]
    have gp : (S1 ++ [SO.lst []])[S1.length]? = some (.lst []) := by rw [List.getElem?_append_right (Nat.le_refl _)]; simp
    have g0 : Grown S1 (S1 ++ [SO.lst []]) := ⟨by simp, fun m hm => List.getElem?_append_left hm⟩
    generalize S1 ++ [SO.lst []] = S2 at gp g0 ⊢
    have e2 := (g0.2 nr nrl).trans e1
    have gS := g1.trans g0
    have hMN : M ≤ 400 := by omega
    refine ⟨_, rfl, by omega, by omega, ?_⟩
    rw [Int.toNat_natCast]
    generalize hG : gRow fL "look" N (l0 :: lr) (1 + 3 * N) = G at er
    refine ⟨fun i ρ S' => Grown S S' ∧ i ≤ M ∧ S'[nr]? = some (.lst ((cs ++ (ks ++ js)).map natsD)) ∧ ∃ acc : List (List Str), acc.length = i ∧ S'[S1.length]? = some (.lst (acc.map strsD)) ∧ collect G (1 + 3 * N) M = goL acc (collect G (1 + 3 * N + i) (M - i)) ∧ ∃ o7 o8 o9 o10 o11, ρ = [some (.str z), some (.lst ((l0 :: lr).map .str)), some (.tup [natD N, natD f]), some (natD N), some (.str "told"), some (.ref nr), some (.ref S1.length), o7, o8, o9, o10, o11],
      ⟨gS, Nat.zero_le _, e2, [], rfl, gp, goL_nil.symm, none, none, none, none, none, rfl⟩, fun _ _ _ _ _ => trivial, ?_, ?_⟩
    · rintro i x ρ S3 hx ⟨g3, hi0, e3, acc, ha, f3, hc, o7, o8, o9, o10, o11, rfl⟩
      obtain ⟨hi, rfl⟩ := rng_nat hx
      obtain ⟨hlen, rfl⟩ : 1 + 3 * N < (l0 :: lr).length ∧ M = N := by
        rcases hM with hM | hM
        · exact hM
        · omega
      rw [if_pos hlen] at er
      have em : M - i = M - i - 1 + 1 := by omega
      have ea : 3 * (M : Int) + 1 + (i : Int) = ((1 + 3 * M + i : Nat) : Int) := by omega
      have bad2 : G (1 + 3 * M + i) = none → Q (.tup [.str "text", .int (3 * (M : Int) + 1 + (i : Int) + 1)]) S3 := fun e => by
        have e2 : D.int (3 * (M : Int) + 1 + (i : Int) + 1) = natD (1 + 3 * M + i + 1) := by
          show D.int _ = D.int _
          congr 1
          omega
        rw [e2]
        refine bad _ S3 ?_ g3
        rw [er, hc, em, goL_bad e]
      have lt1 : S1.length < S3.length := (List.getElem?_eq_some_iff.mp f3).1
      have g1l := g1.1
      walk_at "go"
      rw [List.length_map]
      refine ifD (fun c1 => ?_) (fun c1 => ?_)
      · have hlt : 1 + 3 * M + i < (l0 :: lr).length := by omega
        have pl := pl (l0 :: lr)[1 + 3 * M + i] (List.getElem_mem hlt)
        have el : atI ((l0 :: lr).map D.str) (3 * (M : Int) + 1 + (i : Int)) = some (.str (l0 :: lr)[1 + 3 * M + i]) := by
          rw [ea, atN, List.getElem?_map, List.getElem?_eq_getElem hlt]; rfl
        have eg : G (1 + 3 * M + i) = rowM fL "look" M i (l0 :: lr)[1 + 3 * M + i] := by
          rw [← hG]
          unfold gRow
          rw [List.getElem?_eq_getElem hlt, Nat.add_sub_cancel_left]; rfl
        generalize (l0 :: lr)[1 + 3 * M + i] = l at pl el eg
        walk_at "go"
        refine o_ix rfl el ?_
        walk_at "go"
        refine ⟨l, i, M, rfl, pl, by omega, by omega, ?_⟩
        cases err : rowM fL "look" M i l with
        | none =>
          have es : strsO none = D.non := rfl
          rw [es]
          walk_at "go"
          exact bad2 (eg.trans err)
        | some r =>
          have es : strsO (some r) = D.tup (r.map D.str) := rfl
          rw [es]
          walk_at "go"
          refine o_app f3 (Nat.lt_of_lt_of_le (by rw [List.length_map]; omega : (acc.map strsD).length < 10000) (small (by decide))) fun S4 l4 f4 m4 => ?_
          walk_at "go"
          refine ⟨⟨by have := g3.1; omega, fun m hm => (m4 m (by omega)).trans (g3.2 m hm)⟩, by omega, (m4 nr (by omega)).trans e3, acc ++ [r], by simp [ha], ?_, ?_, _, _, _, _, _, rfl⟩
          · rw [f4, List.map_append]; rfl
          · rw [hc, em, goL_step (eg.trans err), show 1 + 3 * M + i + 1 = 1 + 3 * M + (i + 1) by omega, show M - i - 1 = M - (i + 1) by omega]
      · walk_at "go"
        refine bad2 ?_
        rw [← hG]
        unfold gRow
        rw [List.getElem?_eq_none (by omega)]; rfl
    · rintro ρ S3 ⟨g3, hi0, e3, acc, ha, f3, hc, o7, o8, o9, o10, o11, rfl⟩
      rw [rng_len] at hc ha
      have hc : collect G (1 + 3 * N) M = .inr acc := by
        rw [hc, Nat.sub_self]
        show (Sum.inr (acc ++ []) : Nat ⊕ List (List Str)) = _
        rw [List.append_nil]
      have n400 : N ≤ 400 := hN
      walk_at "go"
      rw [List.length_map]
      refine ifD (fun c2 => ?_) (fun c2 => ?_)
      · obtain ⟨hlen, rfl⟩ : 1 + 3 * N < (l0 :: lr).length ∧ M = N := by
          rcases hM with hM | hM
          · exact hM
          · omega
        rw [if_pos hlen, hc] at er
        have er : readB z = .inl (2 + 4 * M) := er.trans (if_pos (by omega))
        walk_at "go"
        have e2 : D.int (4 * (M : Int) + 2) = natD (2 + 4 * M) := by
          show D.int _ = D.int _
          congr 1
          omega
        rw [e2]
        exact bad _ S3 er g3
      · have ecut1 : Dy.cutD ((cs ++ (ks ++ js)).map natsD) none (some (N : Int)) = cs.map natsD := by
          rw [cut_take (by omega), Int.toNat_natCast, List.map_append, List.take_append_of_le_length (by rw [List.length_map]; omega), List.take_of_length_le (by rw [List.length_map]; omega)]
        have ecut2 : Dy.cutD ((cs ++ (ks ++ js)).map natsD) (some (2 * (N : Int))) none = js.map natsD := by
          rw [cut_drop (by omega), show (2 * (N : Int)).toNat = 2 * N by omega, ← List.append_assoc, List.map_append, List.drop_append_of_le_length (by rw [List.length_map, List.length_append]; omega), List.drop_of_length_le (by rw [List.length_map, List.length_append]; omega), List.nil_append]
        have ecut3 : Dy.cutD ((cs ++ (ks ++ js)).map natsD) (some (N : Int)) (some (2 * (N : Int))) = ks.map natsD := by
          rw [show (2 * (N : Int)) = ((2 * N : Nat) : Int) by omega, cut_mid, ← List.append_assoc, List.map_append, List.take_append_of_le_length (by rw [List.length_map, List.length_append]; omega), List.take_of_length_le (by rw [List.length_map, List.length_append]; omega), List.map_append, List.drop_append_of_le_length (by rw [List.length_map]; omega), List.drop_of_length_le (by rw [List.length_map]; omega), List.nil_append]
        walk_at "go"
        rw [ecut1]
        refine o_lcM hd1 rfl (mid (by rw [List.length_map]; omega)) (fun x mx Pz hP => ?_) ?_
        · obtain ⟨r, mr, rfl⟩ := List.mem_map.mp mx
          have := ((table_ok hC).2 r mr).1
          match r, this with
          | [a], _ =>
            unfold natsD
            walk_at "go"
            exact hP
        have ec : (cs.map natsD).map hd1 = (cs.map (·.headD 0)).map natD := by
          rw [List.map_map, List.map_map]
          refine List.map_congr_left fun r mr => ?_
          have := ((table_ok hC).2 r mr).1
          match r, this with
          | [a], _ => rfl
        rw [ec]
        walk_at "go"
        rw [ecut2]
        walk_at "go"
        rw [ecut3]
        walk_at "go"
        rcases hM with ⟨hlen, rfl⟩ | ⟨hlen, rfl⟩
        · rw [if_pos hlen, hc] at er
          have er := er.trans (if_neg (by omega))
          refine ifD (fun _ => ?_) (fun c => absurd (by rw [List.length_map, ha]; omega) c)
          walk_at "go"
          exact good _ S3 er g3
        · rw [if_neg hlen] at er
          refine ifD (fun c => by rw [List.length_map, ha] at c; omega) (fun _ => ?_)
          walk_at "go"
          exact good _ S3 er g3
end
open PySem PySem.Spec PyProof.Rows L2 Dy
section
variable {cCopyError cBadText cBook : Addr} {P : Program} {w : World} {K : PySem.W.Frag} {mg : Str → Option Value} {base : Heap} {n : Nat}
def spTold (cBook : Addr) : DSp := fun ds S Q E => ∃ d, ds = [d] ∧ ((Odd cBook S d ∧ Q (.tup [.str "text", .int 0]) S) ∨ ∃ z, d = .str z ∧ z.length ≤ 2000000 ∧ ∀ S', Grown S S' → Q (dueT z) S')
theorem ok__law_told (T : Txt K mg cCopyError cBadText cBook) (c_read_book : Cal P w K mg base "read_book" 8 ["text"] (spRead cBadText cBook)) : Cal P w K mg base "_law_told" 9 ["_law_text"] (spTold cBook) := by
  obtain ⟨f, fd, A, hm, hk, hb⟩ := T.d__law_told
  refine ⟨f, fd, dfn A sc__law_told (by intro ds S Q E h; obtain ⟨_, rfl, _⟩ := h; rfl) (fun cdv A outer s H E hr => ⟨_, (ds_cons (ds_set 1 (fun _ => sc__law_told.nd) (de_tup (da_cons de_str (da_cons de_non da_nil))))
    (ds_cons (ds_tryAs 3 (em_tab T.em_Copy) (fun _ => rfl) (fun _ => rfl) (fun _ => sc__law_told.nd) (fun _ => ⟨rfl, by decide, .inl T.c_CopyError⟩) (fun _ => bodyTk) (fun W2 => (ds_cons (ds_set 2 (fun _ => sc__law_told.nd) (de_callC (fun _ => c_read_book) (fun _ => hr) (by omega) (fun j => tr_tk j) (da_cons (de_var 0) da_nil)))
    (ds_one (ds_set 1 (fun _ => sc__law_told.nd) (de_tup (da_cons de_str (da_cons (de_tup (da_cons (de_fld T.f_first (de_var 2)) (da_cons (de_fld T.f_changes (de_var 2)) (da_cons (de_fld T.f_forks (de_var 2)) (da_cons (de_fld T.f_joins (de_var 2)) (da_cons (de_fld T.f_looks (de_var 2)) da_nil)))))) da_nil)))))))
    (su_only (C := cBadText) (fun a dd => (ds_one (ds_if (DW.dt (dw_and (dt_val (dc_isE T.xiT T.kitT (fun _ => T.b_isinstance) (da_cons (de_var 3) (da_cons (de_glob (by intro _; rfl) (fun _ => T.c_BadText) rfl (d := .cls _) (v := .ref _) rfl) da_nil)))) (dw_and1 (dt_val (dc_isE T.xiT T.kitT (fun _ => T.b_isinstance) (da_cons (de_var 3) (da_cons (de_bltn (by intro _; rfl) (fun _ => T.b_ValueError) bt_ValueError (d := .ty "ValueError") (v := .ty "ValueError") rfl rfl) da_nil)))))))
    (ds_one (ds_set 1 (fun _ => sc__law_told.nd) (de_tup (da_cons de_str (da_cons (de_xe T.xf T.nof (de_var 3)) da_nil)))))
    ds_nil)))))
    (ds_one (ds_ret (de_var 1))))), fun ds S Q E h => ?_⟩), hm, hk, hb⟩
  obtain ⟨d, rfl, hd⟩ := h
  have kT : ktTab [(.ty "ValueError", true), (.cls cBadText, true)] (.cls cBadText) = some true := by unfold ktTab; simp
  have kV : ktTab [(.ty "ValueError", true), (.cls cBadText, true)] (.ty "ValueError") = some true := by unfold ktTab; simp
  walk_at "go"
  rcases hd with ⟨ho, h⟩ | ⟨z, rfl, hz, h⟩
  · refine ⟨d, rfl, .inl ⟨ho, ?_⟩⟩
    refine ⟨true, if_pos (by simp), fun _ a dd hdd => ?_, fun z => by cases z⟩
    cases dd with
    | none => cases hdd
    | some dd =>
      have ev : exV a (some dd) ⟨cBadText, some [("line", .int 0)]⟩ = .exo a dd ["line"] [.int 0] := rfl
      rw [ev]
      walk_at "go"
      refine o_isE kT ?_
      walk_at "go"
      exact h
  · refine ⟨_, rfl, .inr ⟨z, rfl, hz, fun k S' er g => ?_, fun b m S' er g _ e1 => ?_⟩⟩
    · refine ⟨true, if_pos (by simp), fun _ a dd hdd => ?_, fun z => by cases z⟩
      cases dd with
      | none => cases hdd
      | some dd =>
        have ev : exV a (some dd) ⟨cBadText, some [("line", natD k)]⟩ = .exo a dd ["line"] [natD k] := rfl
        rw [ev]
        walk_at "go"
        refine o_isE kT ?_
        walk_at "go"
        have h := h S' g
        have e : dueT z = .tup [.str "text", natD k] := by
          unfold dueT
          rw [er]
        rw [e] at h
        exact h
    · unfold fldB fieldsOf at e1
      walk_at "go"
      have h := h S' g
      have e : dueT z = .tup [.str "told", b.d] := by
        unfold dueT
        rw [er]
      rw [e] at h
      exact h
def spBent : DSp := fun ds S Q E => ∃ n z, ds = [.ref n, .str z] ∧ HandAt S n ∧ z.length ≤ 10000 ∧ ∀ z' S', z'.length ≤ 3 * z.length + 40 → HandAt S' n → KG [n] S S' → Q (.str z') S'
theorem ok__law_bent (T : Txt K mg cCopyError cBadText cBook) (c__law_draw : Cal P w K mg base "_law_draw" 1 ["_law_hand_here", "_law_many"] spDraw) (c__law_some : Cal P w K mg base "_law_some" 2 ["_law_hand_here", "_law_things"] spAny) : Cal P w K mg base "_law_bent" 3 ["_law_hand_here", "_law_text"] spBent := by
  obtain ⟨f, fd, A, hm, hk, hb⟩ := T.d__law_bent
  refine ⟨f, fd, dfn A sc__law_bent (by intro ds S Q E h; obtain ⟨_, _, rfl, _⟩ := h; rfl) (fun cdv A outer s H E hr => ⟨_, (ds_cons (ds_set 2 (fun _ => sc__law_bent.nd) (de_callC (fun _ => c__law_draw) (fun _ => hr) (by omega) (fun _ => bodyTk) (da_cons (de_var 0) (da_cons (de_add (dc_lenS (fun _ => T.b_len) (da_cons (de_var 1) da_nil)) de_int) da_nil))))
    (ds_cons (ds_set 3 (fun _ => sc__law_bent.nd) (de_callC (fun _ => c__law_some) (fun _ => hr) (by omega) (fun _ => bodyTk) (da_cons (de_var 0) (da_cons (de_lst (da_cons de_str (da_cons de_str (da_cons de_str (da_cons de_str (da_cons de_str (da_cons de_str (da_cons de_str (da_cons de_str (da_cons de_str (da_cons de_str (da_cons de_str da_nil)))))))))))) da_nil))))
    (ds_cons (ds_set 4 (fun _ => sc__law_bent.nd) (de_split (de_var 1) de_str))
    (ds_cons (ds_set 5 (fun _ => sc__law_bent.nd) (de_callC (fun _ => c__law_draw) (fun _ => hr) (by omega) (fun _ => bodyTk) (da_cons (de_var 0) (da_cons (dc_len (fun _ => T.b_len) (da_cons (de_var 4) da_nil)) da_nil))))
    (ds_cons (ds_set 6 (fun _ => sc__law_bent.nd) (de_repLN (de_lst (da_cons (de_add (de_add (de_slS (de_var 1) do_none (do_some (de_var 2))) (de_var 3)) (de_slS (de_var 1) (do_some (de_var 2)) do_none)) (da_cons (de_add (de_slS (de_var 1) do_none (do_some (de_var 2))) (de_slS (de_var 1) (do_some (de_add (de_var 2) de_int)) do_none)) (da_cons (de_add (de_add (de_slS (de_var 1) do_none (do_some (de_var 2))) (de_var 3)) (de_slS (de_var 1) (do_some (de_add (de_var 2) de_int)) do_none)) da_nil)))) de_int))
    (ds_cons (ds_expr (de_append (de_var 6) (da_cons (de_join de_str (de_cat (de_slL (de_var 4) do_none (do_some (de_var 5))) (de_slL (de_var 4) (do_some (de_add (de_var 5) de_int)) do_none))) da_nil)))
    (ds_cons (ds_expr (de_append (de_var 6) (da_cons (de_join de_str (de_cat (de_cat (de_slL (de_var 4) do_none (do_some (de_var 5))) (de_slL (de_var 4) (do_some (de_var 5)) (do_some (de_add (de_var 5) de_int)))) (de_slL (de_var 4) (do_some (de_var 5)) do_none))) da_nil)))
    (ds_cons (ds_expr (de_append (de_var 6) (da_cons (de_join de_str (de_slL (de_var 4) do_none (do_some (de_var 5)))) da_nil)))
    (ds_cons (ds_set 7 (fun _ => sc__law_bent.nd) (de_lst (da_cons de_str (da_cons de_str (da_cons de_str (da_cons de_str (da_cons de_str da_nil)))))))
    (ds_cons (ds_set 7 (fun _ => sc__law_bent.nd) (de_callC (fun _ => c__law_some) (fun _ => hr) (by omega) (fun _ => bodyTk) (da_cons (de_var 0) (da_cons (de_var 7) da_nil))))
    (ds_cons (ds_expr (de_append (de_var 6) (da_cons (de_join de_str (de_cat (de_lst (da_cons (de_var 7) da_nil)) (de_slL (de_var 4) (do_some de_int) do_none))) da_nil)))
    (ds_one (ds_ret (de_callC (fun _ => c__law_some) (fun _ => hr) (by omega) (fun _ => bodyTk) (da_cons (de_var 0) (da_cons (de_cat (de_var 6) (de_lst (da_cons (de_add (de_var 1) (de_var 3)) (da_cons (de_slS (de_var 1) do_none (do_some (de_var 2))) (da_cons (de_join de_str (de_revL (de_var 4))) (da_cons (de_add (de_var 1) de_str) da_nil)))))) da_nil)))))))))))))))), fun ds S Q E h => ?_⟩), hm, hk, hb⟩
  obtain ⟨n, z, rfl, hp, hz, h⟩ := h
  have hz' : z.length ≤ sizeLine := small (by omega)
  walk_at "go"
  refine draw_ok hp (by omega) (by omega) fun r S1 r0 r1 hp1 k1 => ?_
  walk_at "go"
  refine any_ok hp1 (by simp) (by simp) fun d S2 md hp2 k2 => ?_
  obtain ⟨sg, rfl, hsg⟩ : ∃ y, d = D.str y ∧ y.length ≤ 10 := by
    simp only [List.mem_cons, List.not_mem_nil, or_false] at md
    rcases md with rfl | rfl | rfl | rfl | rfl | rfl | rfl | rfl | rfl | rfl | rfl <;> exact ⟨_, rfl, by decide⟩
  walk_at "go"
  refine o_split (by decide) (small (by omega)) ?_
  have hsum := split_sum z "\n"
  rw [nl_len1] at hsum
  have hne := split_ne z "\n"
  generalize Txt.split z "\n" = ls at hsum hne ⊢
  have hn0 : 0 < ls.length := List.length_pos_iff.mpr hne
  have hll : (ls.map D.str).length = ls.length := List.length_map _
  walk_at "go"
  refine draw_ok hp2 (by omega) (by omega) fun r' S3 q0 q1 hp3 k3 => ?_
  have hc := fun lo hi => cutS_length z lo hi
  have cut2 : ∀ lo hi lo2 hi2 (y : Str), y.length ≤ 10 → (cutS z lo hi ++ y ++ cutS z lo2 hi2).length ≤ 3 * z.length + 40 := fun lo hi lo2 hi2 y hy => by
    have h1 := hc lo hi
    have h2 := hc lo2 hi2
    rw [app_len, app_len]; omega
  have cut3 : ∀ lo hi lo2 hi2, (cutS z lo hi ++ cutS z lo2 hi2).length ≤ 3 * z.length + 40 := fun lo hi lo2 hi2 => by
    have h1 := hc lo hi
    have h2 := hc lo2 hi2
    rw [app_len]; omega
  have sz1 : ∀ lo hi, (cutS z lo hi).length + sg.length ≤ sizeLine := fun lo hi => small (by have := hc lo hi; omega)
  have sz2 : ∀ lo hi lo2 hi2, (cutS z lo hi ++ sg).length + (cutS z lo2 hi2).length ≤ sizeLine := fun lo hi lo2 hi2 => small (by have := hc lo hi; have := hc lo2 hi2; rw [app_len]; omega)
  have sz3 : ∀ lo hi lo2 hi2, (cutS z lo hi).length + (cutS z lo2 hi2).length ≤ sizeLine := fun lo hi lo2 hi2 => small (by have := hc lo hi; have := hc lo2 hi2; omega)
  walk_at "go"
  refine o_addS (sz1 _ _) ?_
  walk_at "go"
  refine o_addS (sz2 _ _ _ _) ?_
  walk_at "go"
  refine o_addS (sz3 _ _ _ _) ?_
  walk_at "go"
  refine o_addS (sz1 _ _) ?_
  walk_at "go"
  refine o_addS (sz2 _ _ _ _) ?_
  walk_at "go"
  refine o_repLN rfl (by decide) (by decide) (by simp) ?_
  walk_at "go"
  generalize hL : (List.replicate (Int.toNat 2) [D.str (cutS z none (some r) ++ sg ++ cutS z (some r) none), D.str (cutS z none (some r) ++ cutS z (some (r + 1)) none), D.str (cutS z none (some r) ++ sg ++ cutS z (some (r + 1)) none)]).flatten = L0
  have hG : ∀ d ∈ L0, ∃ y, d = D.str y ∧ y.length ≤ 3 * z.length + 40 := fun d m => by
    rw [← hL] at m
    simp only [show Int.toNat 2 = 2 from rfl, List.replicate, List.flatten_cons, List.flatten_nil, List.append_nil, List.cons_append, List.nil_append, List.mem_cons, List.not_mem_nil, or_false] at m
    rcases m with rfl | rfl | rfl | rfl | rfl | rfl
    · exact ⟨_, rfl, cut2 _ _ _ _ _ hsg⟩
    · exact ⟨_, rfl, cut3 _ _ _ _⟩
    · exact ⟨_, rfl, cut2 _ _ _ _ _ hsg⟩
    · exact ⟨_, rfl, cut2 _ _ _ _ _ hsg⟩
    · exact ⟨_, rfl, cut3 _ _ _ _⟩
    · exact ⟨_, rfl, cut2 _ _ _ _ _ hsg⟩
  have hLl : L0.length = 6 := by rw [← hL]; simp [show Int.toNat 2 = 2 from rfl]
  clear hL
  have gp : (S3 ++ [SO.lst L0])[S3.length]? = some (.lst L0) := by rw [List.getElem?_append_right (Nat.le_refl _)]; simp
  have g3 : Grown S3 (S3 ++ [SO.lst L0]) := ⟨by simp, fun m hm => List.getElem?_append_left hm⟩
  generalize hS4 : S3 ++ [SO.lst L0] = S4 at gp g3 ⊢
  have kg3 : KG [n] S S4 := ((k1.kg.trans k2.kg).trans k3.kg).trans g3.kg
  have hp4 := hp3.grown g3
  have lt3 : n < S3.length := hp3.lt
  have jl : ∀ ys : List Str, sumL ys ≤ 3 * sumL ls + 20 → ys.length ≤ 3 * ls.length → (Txt.join "\n" ys).length ≤ 3 * z.length + 40 := fun ys h1 h2 => by
    have := join_len "\n" ys
    rw [nl_len1] at this
    omega
  have js : ∀ ys : List Str, sumL ys ≤ 3 * sumL ls + 20 → ys.length ≤ 3 * ls.length → (ys.map (·.length)).sum + ys.length * ("\n" : Str).length ≤ 16777216 := fun ys h1 h2 => join_size (by rw [nl_len1]; omega)
  obtain ⟨a1, e1, s1, l1⟩ := cut_strs ls none (some r')
  obtain ⟨a2, e2, s2, l2⟩ := cut_strs ls (some (r' + 1)) none
  obtain ⟨a3, e3, s3, l3⟩ := cut_strs ls (some r') (some (r' + 1))
  obtain ⟨a4, e4, s4, l4⟩ := cut_strs ls (some r') none
  refine ⟨⟨L0, ls_ref gp⟩, ?_⟩
  walk_at "go"
  rw [e1, e2]
  refine o_cat rfl rfl (small (by simp; omega)) ?_
  rw [← List.map_append]
  walk_at "go"
  have b1 : sumL (a1 ++ a2) ≤ 3 * sumL ls + 20 := by rw [sum_app]; omega
  have b2 : (a1 ++ a2).length ≤ 3 * ls.length := by rw [List.length_append]; omega
  refine o_join rfl (js _ b1 b2) ?_
  walk_at "go"
  refine o_app gp (Nat.lt_of_lt_of_le (by omega : L0.length < 100) (small (by decide))) fun S5 l5 f5 m5 => ?_
  walk_at "go"
  rw [e1, e3]
  refine o_cat rfl rfl (small (by simp; omega)) ?_
  walk_at "go"
  rw [e4]
  refine o_cat rfl rfl (small (by simp; omega)) ?_
  rw [← List.map_append, ← List.map_append]
  walk_at "go"
  have c1 : sumL (a1 ++ a3 ++ a4) ≤ 3 * sumL ls + 20 := by rw [sum_app, sum_app]; omega
  have c2 : (a1 ++ a3 ++ a4).length ≤ 3 * ls.length := by rw [List.length_append, List.length_append]; omega
  refine o_join rfl (js _ c1 c2) ?_
  walk_at "go"
  refine o_app f5 (Nat.lt_of_lt_of_le (by simp; omega : (L0 ++ [D.str (Txt.join "\n" (a1 ++ a2))]).length < 100) (small (by decide))) fun S6 l6 f6 m6 => ?_
  walk_at "go"
  rw [e1]
  have u1 : sumL a1 ≤ 3 * sumL ls + 20 := by omega
  have u2 : a1.length ≤ 3 * ls.length := by omega
  walk_at "go"
  refine o_join rfl (js _ u1 u2) ?_
  walk_at "go"
  refine o_app f6 (Nat.lt_of_lt_of_le (by simp; omega : (L0 ++ [D.str (Txt.join "\n" (a1 ++ a2))] ++ [D.str (Txt.join "\n" (a1 ++ a3 ++ a4))]).length < 100) (small (by decide))) fun S7 l7 f7 m7 => ?_
  have hp7 : HandAt S7 n := hp3.grown ⟨by have := g3.1; omega, fun m hm => ((m7 m (by omega)).trans ((m6 m (by omega)).trans (m5 m (by omega)))).trans (g3.2 m hm)⟩
  have kg7 : KG [n] S S7 := ((k1.kg.trans k2.kg).trans k3.kg).trans ⟨by have := g3.1; omega, fun m hm hn => ((m7 m (by omega)).trans ((m6 m (by omega)).trans (m5 m (by omega)))).trans (g3.2 m hm)⟩
  walk_at "go"
  refine any_ok hp7 (by simp) (by simp) fun d8 S8 md8 hp8 k8 => ?_
  obtain ⟨hd, rfl, hhd⟩ : ∃ y, d8 = D.str y ∧ y.length ≤ 20 := by
    simp only [List.mem_cons, List.not_mem_nil, or_false] at md8
    rcases md8 with rfl | rfl | rfl | rfl | rfl <;> exact ⟨_, rfl, by decide⟩
  have f8 := (k8.2 S3.length (by simp; omega)).trans f7
  have l8 := k8.1
  obtain ⟨a5, e5, s5, l5'⟩ := cut_strs ls (some 1) none
  walk_at "go"
  rw [e5]
  refine o_cat (ys := a5.map D.str) rfl rfl (small (by simp; omega)) ?_
  have e55 : [D.str hd] ++ a5.map D.str = (hd :: a5).map D.str := rfl
  rw [e55]
  have w1 : sumL (hd :: a5) ≤ 3 * sumL ls + 20 := by
    have : sumL (hd :: a5) = hd.length + sumL a5 := rfl
    omega
  have w2 : (hd :: a5).length ≤ 3 * ls.length := by rw [List.length_cons]; omega
  walk_at "go"
  refine o_join rfl (js _ w1 w2) ?_
  walk_at "go"
  refine o_app f8 (Nat.lt_of_lt_of_le (by simp; omega : (L0 ++ [D.str (Txt.join "
" (a1 ++ a2))] ++ [D.str (Txt.join "
" (a1 ++ a3 ++ a4))] ++ [D.str (Txt.join "
" a1)]).length < 100) (small (by decide))) fun S9 l9 f9 m9 => ?_
  have hp9 : HandAt S9 n := by
    obtain ⟨cs, j, big, st, k, e⟩ := hp8
    exact ⟨cs, j, big, st, k, (m9 n (by omega)).trans e⟩
  have kg9 : KG [n] S S9 := by
    have kk := kg7.trans k8.kg
    have := ((k1.kg.trans k2.kg).trans k3.kg).1
    exact ⟨by have := kk.1; omega, fun m hm hn => (m9 m (by omega)).trans (kk.2 m hm hn)⟩
  walk_at "go"
  refine o_addS (small (by omega)) ?_
  walk_at "go"
  refine ⟨_, rfl, ?_⟩
  rw [← List.map_reverse]
  have d1 : sumL ls.reverse ≤ 3 * sumL ls + 20 := by rw [sum_rev]; omega
  have d2 : ls.reverse.length ≤ 3 * ls.length := by rw [List.length_reverse]; omega
  refine o_join rfl (js _ d1 d2) ?_
  walk_at "go"
  refine o_addS (small (by rw [nl_len1]; omega)) ?_
  walk_at "go"
  refine o_cat (lm_ref f9) rfl (small (by simp; omega)) ?_
  walk_at "go"
  refine any_ok hp9 (by simp) (by simp; omega) fun x S10 mx hp10 k10 => ?_
  have fin : ∀ y : Str, y.length ≤ 3 * z.length + 40 → Q (.str y) S10 := fun y hy => h y S10 hy hp10 (kg9.trans k10.kg)
  simp only [List.mem_append, List.mem_cons, List.not_mem_nil, or_false] at mx
  rcases mx with ((((mx | mx) | mx) | mx) | mx) | mx | mx | mx | mx
  · obtain ⟨y, rfl, hy⟩ := hG x mx
    exact fin y hy
  · rw [mx]; exact fin _ (jl _ b1 b2)
  · rw [mx]; exact fin _ (jl _ c1 c2)
  · rw [mx]; exact fin _ (jl _ u1 u2)
  · rw [mx]; exact fin _ (jl _ w1 w2)
  · rw [mx]; exact fin _ (by rw [app_len]; omega)
  · rw [mx]; exact fin _ (by have := hc none (some r); omega)
  · rw [mx]; exact fin _ (jl _ d1 d2)
  · rw [mx]; exact fin _ (by rw [app_len, nl_len1]; omega)
end
open PySem PySem.Spec PyProof.Rows L2 Dy
section
variable {cCopyError cBadText cBook : Addr} {P : Program} {w : World} {K : PySem.W.Frag} {mg : Str → Option Value} {base : Heap} {n : Nat}
theorem o_rep1 {x : D} {m : Int} {S : Store} {Q : QD} (h2 : 2 ≤ m) (h : m ≤ 1000) (k : Q (.tup (List.replicate m.toNat x)) S) : dRepT (.tup [x]) (.int m) S Q := by
  refine ⟨[x], m, rfl, rfl, by simp, by omega, by omega, by simp, ?_⟩
  have e : (List.replicate m.toNat [x]).flatten = List.replicate m.toNat x := by
    generalize m.toNat = j
    induction j with
    | zero => rfl
    | succ n ih => simp [List.flatten_replicate_singleton]
  rw [e]; exact k
def nxF : D → D
  | .int i => .int ((i + 1) % 400)
  | d => d
def repF : D → D
  | d => .tup (List.replicate 400 d)
def wd4 (c : Nat) : Str := bwords.getD (c % 4) "same"
theorem wd4_in {c : Nat} : wd4 c ∈ bwords := by
  unfold wd4
  have : c % 4 < 4 := Nat.mod_lt _ (by decide)
  generalize c % 4 = t at this
  match t, this with
  | 0, _ => simp [bwords]
  | 1, _ => simp [bwords]
  | 2, _ => simp [bwords]
  | 3, _ => simp [bwords]
def repW : D → D
  | .int i => .tup (List.replicate 400 (.str (wd4 i.toNat)))
  | d => d
def pairF : D → D
  | d => .tup [d, d]
theorem nats_rep {c : Nat} : natsD (List.replicate 400 c) = .tup (List.replicate 400 (natD c)) := by
  unfold natsD
  rw [List.map_replicate]
theorem strs_rep {s : Str} : strsD (List.replicate 400 s) = .tup (List.replicate 400 (.str s)) := by
  unfold strsD
  rw [List.map_replicate]
theorem okD_book {b : Bk} : okD 3 b.d = true := by
  have h1 : okD 2 (natsD b.cs) = true := by
    show (b.cs.map natD).all (okD 1) = true
    refine List.all_eq_true.mpr fun x m => ?_
    obtain ⟨c, _, rfl⟩ := List.mem_map.mp m
    rfl
  have h2 : okD 2 (looksD b.ls) = true := by
    cases b.ls with
    | none => rfl
    | some t => exact okD_looks
  show ([natD b.f, natsD b.cs, rowsD b.ks, rowsD b.js, looksD b.ls] : List D).all (okD 2) = true
  have h0 : okD 2 (natD b.f) = true := rfl
  simp only [List.all_cons, List.all_nil, h0, h1, h2, okD_row, Bool.and_true]
def spGreat : DSp := fun ds S Q E => ∃ n, ds = [.ref n] ∧ HandAt S n ∧ ∀ S', Q (.bl true) S'
theorem ok__law_great_right (T : Txt K mg cCopyError cBadText cBook) (c__law_words : Cal P w K mg base "_law_words" 1 [] spLWords) (c__law_draw : Cal P w K mg base "_law_draw" 1 ["_law_hand_here", "_law_many"] spDraw) (c__law_book_text : Cal P w K mg base "_law_book_text" 1 ["_law_parts_here"] spLText) (c_book_text : Cal P w K mg base "book_text" 5 ["book"] (spBookT cBook)) (c__law_book : Cal P w K mg base "_law_book" 8 ["_law_parts_here"] (spLBook cBook)) (c__law_told : Cal P w K mg base "_law_told" 9 ["_law_text"] (spTold cBook)) : Cal P w K mg base "_law_great_right" 12 ["_law_hand_here"] spGreat := by
  obtain ⟨f, fd, A, hm, hk, hb⟩ := T.d__law_great_right
  refine ⟨f, fd, dfn A sc__law_great_right (by intro ds S Q E h; obtain ⟨_, rfl, _⟩ := h; rfl) (fun cdv A outer s H E hr => ⟨_, (ds_cons (ds_set 1 (fun _ => sc__law_great_right.nd) (dc_tuple (fun _ => T.b_tuple) (da_cons (de_lc 6 (fun _ => rfl) (fun _ => sc__law_great_right.nd) (di_rng1 (by intro _; rfl) (fun _ => T.b_range) (da_cons de_int da_nil)) (fun _ => blkOk_by (N := N__law_great_right) (sc := defScope s__law_great_right) (by decide +kernel)) dts_nil (de_mod (dc_int (fun _ => T.b_int) (da_cons (de_add (de_var 6) de_int) da_nil)) de_int) (fun _ => pg_name (i := 6) sc__law_great_right.nd rfl (Or.inl rfl))) da_nil)))
    (ds_cons (ds_set 2 (fun _ => sc__law_great_right.nd) (dc_tuple (fun _ => T.b_tuple) (da_cons (de_lc 6 (fun _ => rfl) (fun _ => sc__law_great_right.nd) (di_sq (de_var 1)) (fun _ => blkOk_by (N := N__law_great_right) (sc := defScope s__law_great_right) (by decide +kernel)) dts_nil (de_repT (de_tup (da_cons (de_var 6) da_nil)) de_int) (fun _ => pg_name (i := 6) sc__law_great_right.nd rfl (Or.inl rfl))) da_nil)))
    (ds_cons (ds_set 3 (fun _ => sc__law_great_right.nd) (dc_tuple (fun _ => T.b_tuple) (da_cons (de_lc 6 (fun _ => rfl) (fun _ => sc__law_great_right.nd) (di_sq (de_var 1)) (fun _ => blkOk_by (N := N__law_great_right) (sc := defScope s__law_great_right) (by decide +kernel)) dts_nil (de_repT (de_tup (da_cons (de_at (de_callC0 (fun _ => c__law_words) (fun _ => hr) (by omega) (fun _ => takes0)) (de_mod (dc_int (fun _ => T.b_int) (da_cons (de_var 6) da_nil)) de_int)) da_nil)) de_int) (fun _ => pg_name (i := 6) sc__law_great_right.nd rfl (Or.inl rfl))) da_nil)))
    (ds_cons (ds_set 4 (fun _ => sc__law_great_right.nd) (de_tup (da_cons (de_callC (fun _ => c__law_draw) (fun _ => hr) (by omega) (fun _ => bodyTk) (da_cons (de_var 0) (da_cons de_int da_nil))) (da_cons (de_var 1) (da_cons (dc_tuple (fun _ => T.b_tuple) (da_cons (de_lc 6 (fun _ => rfl) (fun _ => sc__law_great_right.nd) (di_sq (de_var 1)) (fun _ => blkOk_by (N := N__law_great_right) (sc := defScope s__law_great_right) (by decide +kernel)) dts_nil (de_tup (da_cons (de_var 6) (da_cons (de_var 6) da_nil))) (fun _ => pg_name (i := 6) sc__law_great_right.nd rfl (Or.inl rfl))) da_nil)) (da_cons (de_var 2) (da_cons (de_var 3) da_nil)))))))
    (ds_cons (ds_if (dt_cmp (oq_eq fun _ => hr) lk_eq (de_callC (fun _ => c__law_draw) (fun _ => hr) (by omega) (fun _ => bodyTk) (da_cons (de_var 0) (da_cons de_int da_nil))) de_int (nomark _))
    (ds_one (ds_set 4 (fun _ => sc__law_great_right.nd) (de_add (de_slT (de_var 4) do_none (do_some de_int)) (de_tup (da_cons de_non da_nil)))))
    ds_nil)
    (ds_cons (ds_set 5 (fun _ => sc__law_great_right.nd) (de_callC (fun _ => c__law_book_text) (fun _ => hr) (by omega) (fun _ => bodyTk) (da_cons (de_var 4) da_nil)))
    (ds_one (ds_ret (de_and (de_cmp (oq_eq fun _ => hr) lk_eq (de_callC (fun _ => c_book_text) (fun _ => hr) (by omega) (fun _ => bodyTk) (da_cons (de_callC (fun _ => c__law_book) (fun _ => hr) (by omega) (fun _ => bodyTk) (da_cons (de_var 4) da_nil)) da_nil)) (de_var 5) (nomark _)) (de_one (de_cmp (oq_eq fun _ => hr) lk_eq (de_callC (fun _ => c__law_told) (fun _ => hr) (by omega) (fun _ => bodyTk) (da_cons (de_var 5) da_nil)) (de_tup (da_cons de_str (da_cons (de_var 4) da_nil))) (nomark _)))))))))))), fun ds S Q E h => ?_⟩), hm, hk, hb⟩
  obtain ⟨n, rfl, hp, h⟩ := h
  walk_at "go"
  refine ⟨400, rfl, by decide, by decide, ?_⟩
  rw [show Int.toNat 400 = 400 from rfl]
  refine o_lcM nxF trivial (mid (by rw [rng_len]; decide)) (fun x mx Pz hP => ?_) ?_
  · obtain ⟨k, mk, rfl⟩ := List.mem_map.mp mx
    walk_at "go"
    exact hP
  obtain ⟨cs, ecs, lcs, hcs⟩ : ∃ cs : List Nat, (rngD 0 400).map nxF = cs.map natD ∧ cs.length = 400 ∧ ∀ x ∈ cs, x < 400 := by
    refine ⟨(List.range 400).map fun k => (k + 1) % 400, ?_, by rw [List.length_map, List.length_range], fun x m => ?_⟩
    · unfold rngD
      rw [List.map_map, List.map_map]
      refine List.map_congr_left fun k _ => ?_
      show D.int ((0 + (k : Int) + 1) % 400) = D.int (((k + 1) % 400 : Nat) : Int)
      congr 1
      omega
    · obtain ⟨k, _, rfl⟩ := List.mem_map.mp m
      exact Nat.mod_lt _ (by decide)
  rw [ecs]
  have mcs : (cs.map natD).length ≤ 4000000 := by rw [List.length_map, lcs]; decide
  walk_at "go"
  refine o_lcM repF rfl (mid mcs) (fun x mx Pz hP => ?_) ?_
  · walk_at "go"
    exact o_rep1 (by decide) (by decide) hP
  walk_at "go"
  refine o_lcM repW rfl (mid mcs) (fun x mx Pz hP => ?_) ?_
  · obtain ⟨c, mc, rfl⟩ := List.mem_map.mp mx
    walk_at "go"
    refine ⟨rfl, ?_⟩
    walk_at "go"
    have ex : atI (bwords.map D.str) ((c : Int) % 4) = some (.str (wd4 c)) := by
      have e4 : (c : Int) % 4 = ((c % 4 : Nat) : Int) := by omega
      have : c % 4 < 4 := Nat.mod_lt _ (by decide)
      rw [e4, atN]
      unfold wd4
      generalize c % 4 = t at this
      match t, this with
      | 0, _ => rfl
      | 1, _ => rfl
      | 2, _ => rfl
      | 3, _ => rfl
    refine o_ix rfl ex ?_
    walk_at "go"
    exact o_rep1 (by decide) (by decide) hP
  walk_at "go"
  refine draw_ok hp (by decide) (by decide) fun f S1 f0 f1 hp1 k1 => ?_
  obtain ⟨f, rfl⟩ := Int.eq_ofNat_of_zero_le f0
  walk_at "go"
  refine o_lcM pairF rfl (mid mcs) (fun x mx Pz hP => ?_) ?_
  · walk_at "go"
    exact hP
  have ek : (cs.map natD).map pairF = (cs.map fun c => [c, c]).map natsD := by rw [List.map_map, List.map_map]; rfl
  have ej : (cs.map natD).map repF = (cs.map fun c => List.replicate 400 c).map natsD := by
    rw [List.map_map, List.map_map]
    exact List.map_congr_left fun c _ => nats_rep.symm
  have el : (cs.map natD).map repW = (cs.map fun c => List.replicate 400 (wd4 c)).map strsD := by
    rw [List.map_map, List.map_map]
    exact List.map_congr_left fun c _ => strs_rep.symm
  rw [ek, ej, el]
  have ok : ∀ lo, (lo = none ∨ lo = some (cs.map fun c => List.replicate 400 (wd4 c))) → (⟨f, cs, cs.map fun c => [c, c], cs.map fun c => List.replicate 400 c, lo⟩ : Bk).Ok 400 := fun lo hlo =>
    ⟨by decide, by decide, by show f < 400; omega, lcs, hcs, by show (cs.map _).length = 400; rw [List.length_map]; exact lcs, fun r m => by
      obtain ⟨c, mc, rfl⟩ := List.mem_map.mp m
      refine ⟨rfl, fun x mx => ?_⟩
      simp only [List.mem_cons, List.not_mem_nil, or_false, or_self] at mx
      rw [mx]; exact hcs c mc, by show (cs.map _).length = 400; rw [List.length_map]; exact lcs, fun r m => by
      obtain ⟨c, mc, rfl⟩ := List.mem_map.mp m
      exact ⟨List.length_replicate, fun x mx => by rw [List.eq_of_mem_replicate mx]; exact hcs c mc⟩, fun t e => by
      rcases hlo with rfl | rfl
      · cases e
      · cases e
        exact ⟨by rw [List.length_map]; exact lcs, fun r m => by
          obtain ⟨c, mc, rfl⟩ := List.mem_map.mp m
          exact ⟨List.length_replicate, fun x mx => by rw [List.eq_of_mem_replicate mx]; exact wd4_in⟩⟩⟩
  have ok1 := ok none (.inl rfl)
  have ok2 := ok _ (.inr rfl)
  clear ok
  generalize (cs.map fun c => [c, c]) = ks at ok1 ok2 ⊢
  generalize (cs.map fun c => List.replicate 400 c) = js at ok1 ok2 ⊢
  generalize (cs.map fun c => List.replicate 400 (wd4 c)) = ls at ok2 ⊢
  walk_at "go"
  refine draw_ok hp1 (by decide) (by decide) fun q S2 q0 q1 hp2 k2 => ?_
  walk_at "go"
  rw [Bool.false_xor]
  refine ifD (fun _ => ?_) (fun _ => ?_)
  · walk_at "go"
    refine o_addT (mid (by show 4 + 1 ≤ 4000000; decide)) ?_
    walk_at "go"
    refine ⟨⟨f, cs, ks, js, none⟩, 400, rfl, ok1, fun S3 g3 => ?_⟩
    walk_at "go"
    refine ⟨⟨f, cs, ks, js, none⟩, 400, rfl, ok1, fun S4 nb g4 _ e4 => ?_⟩
    walk_at "go"
    refine ⟨nb, ⟨f, cs, ks, js, none⟩, 400, rfl, e4, ok1, fun S5 g5 => ?_⟩
    walk_at "go"
    refine ⟨_, rfl, .inr ⟨_, rfl, Nat.le_trans ok1.text_len (by decide), fun S6 g6 => ?_⟩⟩
    have ed : dueT (Bk.text ⟨f, cs, ks, js, none⟩) = .tup [.str "told", Bk.d ⟨f, cs, ks, js, none⟩] := by
      unfold dueT
      rw [read_text ok1]
    rw [ed]
    walk_at "go"
    refine o_eqT (n := 4) (xs := [.str "told", Bk.d ⟨f, cs, ks, js, none⟩]) ?_ (by decide) (h S6)
    show ([.str "told", Bk.d ⟨f, cs, ks, js, none⟩] : List D).all (okD 3) = true
    simp only [List.all_cons, List.all_nil, okD_book, Bool.and_true]
    rfl
  · walk_at "go"
    refine ⟨⟨f, cs, ks, js, some ls⟩, 400, rfl, ok2, fun S3 g3 => ?_⟩
    walk_at "go"
    refine ⟨⟨f, cs, ks, js, some ls⟩, 400, rfl, ok2, fun S4 nb g4 _ e4 => ?_⟩
    walk_at "go"
    refine ⟨nb, ⟨f, cs, ks, js, some ls⟩, 400, rfl, e4, ok2, fun S5 g5 => ?_⟩
    walk_at "go"
    refine ⟨_, rfl, .inr ⟨_, rfl, Nat.le_trans ok2.text_len (by decide), fun S6 g6 => ?_⟩⟩
    have ed : dueT (Bk.text ⟨f, cs, ks, js, some ls⟩) = .tup [.str "told", Bk.d ⟨f, cs, ks, js, some ls⟩] := by
      unfold dueT
      rw [read_text ok2]
    rw [ed]
    walk_at "go"
    refine o_eqT (n := 4) (xs := [.str "told", Bk.d ⟨f, cs, ks, js, some ls⟩]) ?_ (by decide) (h S6)
    show ([.str "told", Bk.d ⟨f, cs, ks, js, some ls⟩] : List D).all (okD 3) = true
    simp only [List.all_cons, List.all_nil, okD_book, Bool.and_true]
    rfl
end
open PySem PySem.Spec PyProof.Rows L2 Dy
section
variable {cCopyError cBadText cBook : Addr} {P : Program} {w : World} {K : PySem.W.Frag} {mg : Str → Option Value} {base : Heap} {n : Nat}
theorem okI_nats {r : List Nat} (h : r.length ≤ 10000) : okI 1 (natsD r) = true := by
  show (decide ((r.map natD).length ≤ 10000) && (r.map natD).all (okI 0)) = true
  rw [decide_eq_true (by rw [List.length_map]; exact h), List.all_eq_true.mpr fun x m => by
    obtain ⟨c, _, rfl⟩ := List.mem_map.mp m
    rfl]
  rfl
theorem okI_rows {t : List (List Nat)} (hl : t.length ≤ 10000) (h : ∀ r ∈ t, r.length ≤ 10000) : okI 2 (rowsD t) = true := by
  show (decide ((t.map natsD).length ≤ 10000) && (t.map natsD).all (okI 1)) = true
  rw [decide_eq_true (by rw [List.length_map]; exact hl), List.all_eq_true.mpr fun x m => by
    obtain ⟨r, mr, rfl⟩ := List.mem_map.mp m
    exact okI_nats (h r mr)]
  rfl
theorem okI_looks {t : List (List Str)} (hl : t.length ≤ 10000) (h : ∀ r ∈ t, r.length ≤ 10000) : okI 2 (.tup (t.map strsD)) = true := by
  show (decide ((t.map strsD).length ≤ 10000) && (t.map strsD).all (okI 1)) = true
  rw [decide_eq_true (by rw [List.length_map]; exact hl), List.all_eq_true.mpr fun x m => by
    obtain ⟨r, mr, rfl⟩ := List.mem_map.mp m
    show (decide ((r.map D.str).length ≤ 10000) && (r.map D.str).all (okI 0)) = true
    rw [decide_eq_true (by rw [List.length_map]; exact h r mr), List.all_eq_true.mpr fun y my => by
      obtain ⟨c, _, rfl⟩ := List.mem_map.mp my
      rfl]
    rfl]
  rfl
theorem okI_book {b : Bk} {N : Nat} (h : b.Ok N) : okI 3 b.d = true := by
  have n4 := h.n4
  have h1 : okI 2 (natsD b.cs) = true := okI_mono 1 _ (okI_nats (by rw [h.cl]; omega))
  have h2 : okI 2 (rowsD b.ks) = true := okI_rows (by rw [h.kl]; omega) fun r m => by rw [(h.k r m).1]; decide
  have h3 : okI 2 (rowsD b.js) = true := okI_rows (by rw [h.jl]; omega) fun r m => by rw [(h.j r m).1]; omega
  have h4 : okI 2 (looksD b.ls) = true := by
    cases e : b.ls with
    | none => rfl
    | some t =>
      have ht := h.l t e
      exact okI_looks (by rw [ht.1]; omega) fun r m => by rw [(ht.2 r m).1]; omega
  have h0 : okI 2 (natD b.f) = true := rfl
  show (decide (5 ≤ 10000) && ([natD b.f, natsD b.cs, rowsD b.ks, rowsD b.js, looksD b.ls] : List D).all (okI 2)) = true
  simp only [List.all_cons, List.all_nil, h0, h1, h2, h3, h4, Bool.and_true]
  rfl
theorem okI_told {b : Bk} {N : Nat} (h : b.Ok N) : okI 4 (.tup [.str "told", b.d]) = true := by
  show (decide (2 ≤ 10000) && ([.str "told", b.d] : List D).all (okI 3)) = true
  simp only [List.all_cons, List.all_nil, okI_book h, Bool.and_true]
  rfl
theorem okI_due {z : Str} : okI 4 (dueT z) = true := by
  unfold dueT
  cases e : readB z with
  | inl k => rfl
  | inr b =>
    obtain ⟨N, h⟩ := readLs_ok e
    exact okI_told h
theorem is_ok {d : D} {S : Store} {Q : QD} {E : XQ} (h : okI 4 d = true) (q : Q (.bl true) S) : spIs 5 [d, d] S Q E := ⟨d, rfl, h, q⟩
theorem deep_0 : ∃ y, deepD 0 28 = .lst [y] := ⟨deepD 0 27, rfl⟩
def spLaw : DSp := fun ds S Q E => ∃ ns : List Int, ds = [.frz (ns.map .int)] ∧ S = [] ∧ ∀ S', Q (.bl true) S'
theorem okF_law (T : Txt K mg cCopyError cBadText cBook) (c__law_hand : Cal P w K mg base "_law_hand" 1 ["_law_script"] spHand) (c__law_draw : Cal P w K mg base "_law_draw" 1 ["_law_hand_here", "_law_many"] spDraw) (c__law_great_right : Cal P w K mg base "_law_great_right" 12 ["_law_hand_here"] spGreat) (c__law_parts : Cal P w K mg base "_law_parts" 3 ["_law_hand_here", "_law_many"] spParts) (c__law_book_text : Cal P w K mg base "_law_book_text" 1 ["_law_parts_here"] spLText) (c__law_book : Cal P w K mg base "_law_book" 8 ["_law_parts_here"] (spLBook cBook)) (c__law_is : Cal P w K mg base "_law_is" 6 ["_law_told_here", "_law_due"] (spIs 5)) (c_book_text : Cal P w K mg base "book_text" 5 ["book"] (spBookT cBook)) (c_read_book : Cal P w K mg base "read_book" 8 ["text"] (spRead cBadText cBook)) (c__law_told : Cal P w K mg base "_law_told" 9 ["_law_text"] (spTold cBook)) (c__law_bent : Cal P w K mg base "_law_bent" 3 ["_law_hand_here", "_law_text"] spBent) (c__law_read_book : Cal P w K mg base "_law_read_book" 5 ["_law_text"] spReadL) (c__law_some : Cal P w K mg base "_law_some" 2 ["_law_hand_here", "_law_things"] spAny) (c__law_deep : Cal P w K mg base "_law_deep" 1 ["_law_kind"] spDeep) (q_Book : CalEq P w K mg base cBook 1 (spEq cBook)) {f : Addr} {fd : FuncData} (A : Fun K "law" "law" s_law f fd) : FnOk P w K mg base (L2.CX P w) 60 f fd ["_law_script"] (liftSp K spLaw) := by
  refine dfn A sc_law (by intro ds S Q E h; obtain ⟨_, rfl, _⟩ := h; rfl) (fun cdv A outer s H E hr => ⟨_, (ds_cons (ds_set 1 (fun _ => sc_law.nd) (de_callC (fun _ => c__law_hand) (fun _ => hr) (by omega) (fun _ => bodyTk) (da_cons (de_var 0) da_nil)))
    (ds_cons (ds_if (dt_cmp (oq_eq fun _ => hr) lk_eq (de_callC (fun _ => c__law_draw) (fun _ => hr) (by omega) (fun _ => bodyTk) (da_cons (de_var 1) (da_cons de_int da_nil))) de_int (nomark _))
    (ds_one (ds_ret (de_callC (fun _ => c__law_great_right) (fun _ => hr) (by omega) (fun _ => bodyTk) (da_cons (de_var 1) da_nil))))
    ds_nil)
    (ds_cons (ds_for (fun _ => bodyHp) (fun _ => rfl) (di_rng1 (by intro _; rfl) (fun _ => T.b_range) (da_cons de_int da_nil)) (dg_name 2 (fun _ => sc_law.nd))
    (ds_cons (ds_set 3 (fun _ => sc_law.nd) (de_add de_int (de_callC (fun _ => c__law_draw) (fun _ => hr) (by omega) (fun _ => bodyTk) (da_cons (de_var 1) (da_cons de_int da_nil)))))
    (ds_cons (ds_if (DW.dt (dw_and (dt_cmp (oq_eq fun _ => hr) lk_eq (de_var 2) de_int (nomark _)) (dw_and1 (dt_cmp (oq_eq fun _ => hr) lk_eq (de_callC (fun _ => c__law_draw) (fun _ => hr) (by omega) (fun _ => bodyTk) (da_cons (de_var 1) (da_cons de_int da_nil))) de_int (nomark _)))))
    (ds_one (ds_set 3 (fun _ => sc_law.nd) de_int))
    ds_nil)
    (ds_cons (ds_set 4 (fun _ => sc_law.nd) (de_callC (fun _ => c__law_parts) (fun _ => hr) (by omega) (fun _ => bodyTk) (da_cons (de_var 1) (da_cons (de_var 3) da_nil))))
    (ds_cons (ds_if (dt_cmp (oq_eq fun _ => hr) lk_eq (de_callC (fun _ => c__law_draw) (fun _ => hr) (by omega) (fun _ => bodyTk) (da_cons (de_var 1) (da_cons de_int da_nil))) de_int (nomark _))
    (ds_one (ds_set 4 (fun _ => sc_law.nd) (de_add (de_slT (de_var 4) do_none (do_some de_int)) (de_tup (da_cons de_non da_nil)))))
    ds_nil)
    (ds_cons (ds_set 5 (fun _ => sc_law.nd) (de_callC (fun _ => c__law_book_text) (fun _ => hr) (by omega) (fun _ => bodyTk) (da_cons (de_var 4) da_nil)))
    (ds_cons (ds_set 6 (fun _ => sc_law.nd) (de_callC (fun _ => c__law_book) (fun _ => hr) (by omega) (fun _ => bodyTk) (da_cons (de_var 4) da_nil)))
    (ds_cons (ds_if (DW.dt (dw_or (dt_not (dt_val (de_callC (fun _ => c__law_is) (fun _ => hr) (by omega) (fun _ => bodyTk) (da_cons (de_callC (fun _ => c_book_text) (fun _ => hr) (by omega) (fun _ => bodyTk) (da_cons (de_var 6) da_nil)) (da_cons (de_var 5) da_nil))))) (dw_or1 (dt_cmp (oq_neIns (P2 := fun C2 => C2 = cBook) (fun _ => q_Book) (fun _ => hr) (by omega) (fun C2 e => e ▸ T.n_Book)) lk_insEq (de_callC (fun _ => c_read_book) (fun _ => hr) (by omega) (fun _ => bodyTk) (da_cons (de_var 5) da_nil)) (de_var 6) (nomark _)))))
    (ds_one (ds_ret de_bl))
    ds_nil)
    (ds_cons (ds_if (dt_not (dt_val (de_callC (fun _ => c__law_is) (fun _ => hr) (by omega) (fun _ => bodyTk) (da_cons (de_callC (fun _ => c__law_told) (fun _ => hr) (by omega) (fun _ => bodyTk) (da_cons (de_var 5) da_nil)) (da_cons (de_tup (da_cons de_str (da_cons (de_var 4) da_nil))) da_nil)))))
    (ds_one (ds_ret de_bl))
    ds_nil)
    (ds_cons (ds_set 7 (fun _ => sc_law.nd) (de_join de_str (de_slL (de_split (de_var 5) de_str) do_none (do_some (de_add (de_mul de_int (de_var 3)) de_int)))))
    (ds_cons (ds_if (dt_not (dt_val (de_callC (fun _ => c__law_is) (fun _ => hr) (by omega) (fun _ => bodyTk) (da_cons (de_callC (fun _ => c__law_told) (fun _ => hr) (by omega) (fun _ => bodyTk) (da_cons (de_var 7) da_nil)) (da_cons (de_tup (da_cons de_str (da_cons (de_add (de_slT (de_var 4) do_none (do_some de_int)) (de_tup (da_cons de_non da_nil))) da_nil))) da_nil)))))
    (ds_one (ds_ret de_bl))
    ds_nil)
    (ds_cons (ds_for (fun _ => bodyHp) (fun _ => rfl) (di_rng1 (by intro _; rfl) (fun _ => T.b_range) (da_cons de_int da_nil)) (dg_name 8 (fun _ => sc_law.nd))
    (ds_cons (ds_set 9 (fun _ => sc_law.nd) (de_var 5))
    (ds_cons (ds_for (fun _ => bodyHp) (fun _ => rfl) (di_rng1 (by intro _; rfl) (fun _ => T.b_range) (da_cons (de_add de_int (de_callC (fun _ => c__law_draw) (fun _ => hr) (by omega) (fun _ => bodyTk) (da_cons (de_var 1) (da_cons de_int da_nil)))) da_nil)) (dg_name 10 (fun _ => sc_law.nd))
    (ds_one (ds_set 9 (fun _ => sc_law.nd) (de_callC (fun _ => c__law_bent) (fun _ => hr) (by omega) (fun _ => bodyTk) (da_cons (de_var 1) (da_cons (de_var 9) da_nil))))))
    (ds_one (ds_if (dt_not (dt_val (de_callC (fun _ => c__law_is) (fun _ => hr) (by omega) (fun _ => bodyTk) (da_cons (de_callC (fun _ => c__law_told) (fun _ => hr) (by omega) (fun _ => bodyTk) (da_cons (de_var 9) da_nil)) (da_cons (de_callC (fun _ => c__law_read_book) (fun _ => hr) (by omega) (fun _ => bodyTk) (da_cons (de_var 9) da_nil)) da_nil)))))
    (ds_one (ds_ret de_bl))
    ds_nil)))))
    (ds_cons (ds_set 11 (fun _ => sc_law.nd) (de_callC (fun _ => c__law_some) (fun _ => hr) (by omega) (fun _ => bodyTk) (da_cons (de_var 1) (da_cons (de_lst (da_cons de_non (da_cons de_int (da_cons de_bl (da_cons (de_lst (da_cons (de_var 5) da_nil)) (da_cons (de_tup (da_cons (de_var 5) da_nil)) (da_cons de_dnil (da_cons (de_var 6) (da_cons (de_callC (fun _ => c__law_deep) (fun _ => hr) (by omega) (fun _ => bodyTk) (da_cons de_int da_nil)) (da_cons (de_pow de_int de_int) da_nil)))))))))) da_nil))))
    (ds_one (ds_if (dt_not (dt_val (de_callC (fun _ => c__law_is) (fun _ => hr) (by omega) (fun _ => bodyTk) (da_cons (de_callC (fun _ => c__law_told) (fun _ => hr) (by omega) (fun _ => bodyTk) (da_cons (de_var 11) da_nil)) (da_cons (de_tup (da_cons de_str (da_cons de_int da_nil))) da_nil)))))
    (ds_one (ds_ret de_bl))
    ds_nil)))))))))))))))
    (ds_one (ds_ret de_bl))))), fun ds S Q E h => ?_⟩)
  obtain ⟨ns, rfl, rfl, h⟩ := h
  walk_at "go"
  refine ⟨ns, rfl, fun S0 n hp0 _ _ _ => ?_⟩
  walk_at "go"
  refine draw_ok hp0 (by decide) (by decide) fun q S1 q0 q1 hp1 k1 => ?_
  walk_at "go"
  rw [Bool.false_xor]
  refine ifD (fun _ => ?_) (fun _ => ?_)
  · walk_at "go"
    refine ⟨n, rfl, hp1, fun S2 => ?_⟩
    walk_at "go"
    exact h S2
  walk_at "go"
  refine ⟨2, rfl, by decide, by decide, ?_⟩
  refine ⟨fun i ρ S' => HandAt S' n ∧ ∃ (o2 o3 o4 o5 o6 o7 o8 o9 o10 o11 : Option D), ρ = [some (.frz (ns.map .int)), some (.ref n), o2, o3, o4, o5, o6, o7, o8, o9, o10, o11], ⟨hp1, none, none, none, none, none, none, none, none, none, none, rfl⟩, fun _ _ _ _ _ => trivial, ?_, ?_⟩
  · rintro iT x ρ S2 hx ⟨hp2, o2, o3, o4, o5, o6, o7, o8, o9, o10, o11, rfl⟩
    obtain ⟨hi, rfl⟩ := rng_nat hx
    walk_at "go"
    refine draw_ok hp2 (by decide) (by decide) fun r S3 r0 r1 hp3 k3 => ?_
    obtain ⟨r, rfl⟩ := Int.eq_ofNat_of_zero_le r0
    walk_at "go1"
    walk_at "go1"
    refine with_nx (fun NX => ∀ (N : Nat) S', 1 ≤ N → N ≤ 11 → HandAt S' n → NX [some (.frz (ns.map .int)), some (.ref n), some (natD iT), some (natD N), o4, o5, o6, o7, o8, o9, o10, o11] S') (fun NX hN => ?_) ?_
    · walk_at "go"
      rw [Bool.false_xor]
      refine ifD (fun _ => ?_) (fun _ => ?_)
      · walk_at "go"
        refine draw_ok hp3 (by decide) (by decide) fun q S4 _ _ hp4 k4 => ?_
        walk_at "go"
        rw [Bool.false_xor]
        refine ifD (fun _ => ?_) (fun _ => ?_)
        · walk_at "go"
          exact hN 11 S4 (by decide) (by decide) hp4
        · walk_at "go"
          exact hN (1 + r) S4 (by omega) (by omega) hp4
      · walk_at "go"
        exact hN (1 + r) S3 (by omega) (by omega) hp3
    intro N S4 h1 h11 hp4
    walk_at "go"
    refine ⟨n, N, rfl, hp4, h1, by omega, fun b0 S5 ok0 hp5 k5 => ?_⟩
    walk_at "go1"
    refine with_nx (fun NX => ∀ (b : Bk) S', b.Ok N → HandAt S' n → NX [some (.frz (ns.map .int)), some (.ref n), some (natD iT), some (natD N), some b.d, o5, o6, o7, o8, o9, o10, o11] S') (fun NX hN => ?_) ?_
    · walk_at "go"
      refine draw_ok hp5 (by decide) (by decide) fun q S6 _ _ hp6 k6 => ?_
      walk_at "go"
      rw [Bool.false_xor]
      refine ifD (fun _ => ?_) (fun _ => ?_)
      · unfold Bk.d Bk.parts
        walk_at "go"
        refine o_addT (mid (by show 4 + 1 ≤ 4000000; decide)) ?_
        exact hN b0.bare S6 ok0.bare hp6
      · walk_at "go"
        exact hN b0 S6 ok0 hp6
    intro b S6 ok hp6
    have rt := read_text ok
    have rtb := read_text ok.bare
    have tl1 := ok.text_11 h11
    have tl2 := ok.bare.text_11 h11
    have dt : dueT b.text = .tup [.str "told", b.d] := by unfold dueT; rw [rt]
    have dtb : dueT b.bare.text = .tup [.str "told", b.bare.d] := by unfold dueT; rw [rtb]
    walk_at "go"
    refine ⟨b, N, rfl, ok, fun S7 g7 => ?_⟩
    walk_at "go"
    refine ⟨b, N, rfl, ok, fun S8 nb g8 _ e8 => ?_⟩
    have lnb : nb < S8.length := (List.getElem?_eq_some_iff.mp e8).1
    have hp8 := (hp6.grown g7).grown g8
    have hne : nb ≠ n := fun e => by
      obtain ⟨cs, j, big, st, k, e9⟩ := hp8
      rw [e, e9] at e8
      cases e8
    walk_at "go"
    refine ⟨nb, b, N, rfl, e8, ok, fun S9 g9 => ?_⟩
    walk_at "go"
    refine is_ok rfl ?_
    walk_at "go"
    refine ⟨_, rfl, .inr ⟨b.text, rfl, by omega, fun k S' e _ => (by rw [rt] at e; cases e), fun b' m S10 e g10 hm e10 => ?_⟩⟩
    rw [rt] at e
    cases e
    have g80 := g9.trans g10
    have e8' := (g80.2 nb lnb).trans e8
    have hp10 := hp8.grown g80
    walk_at "go"
    refine ⟨m, nb, _, _, _, rfl, rfl, e10, e8', rfl, ?_⟩
    refine ⟨m, nb, b, rfl, e10, e8', ⟨true, rfl, ?_⟩⟩
    walk_at "go"
    refine ⟨_, rfl, .inr ⟨b.text, rfl, by omega, fun S11 g11 => ?_⟩⟩
    rw [dt]
    have e11 := (g11.2 nb (Nat.lt_of_lt_of_le lnb g80.1)).trans e8'
    have hp11 := hp10.grown g11
    walk_at "go"
    refine is_ok (okI_told ok) ?_
    walk_at "go"
    refine o_split (by decide) (mid (by omega)) ?_
    rw [text_lines]
    have bl := bare_lines ok
    have ecut : Dy.cutD (b.lines.map D.str) none (some (3 * (N : Int) + 1)) = b.bare.lines.map D.str := by
      rw [cut_take (by omega), show (3 * (N : Int) + 1).toNat = 3 * N + 1 by omega, ← List.map_take, bl]
    walk_at "go"
    rw [ecut]
    have big := ok.bare.big
    refine o_join rfl (join_size (by rw [nl_len1]; omega)) ?_
    have ejoin : Txt.join "\n" b.bare.lines = b.bare.text := rfl
    rw [ejoin]
    walk_at "go"
    refine ⟨_, rfl, .inr ⟨b.bare.text, rfl, by omega, fun S12 g12 => ?_⟩⟩
    rw [dtb]
    have e12 := (g12.2 nb (List.getElem?_eq_some_iff.mp e11).1).trans e11
    have hp12 := hp11.grown g12
    walk_at "go"
    refine o_slT (xs := b.parts) ?_
    walk_at "go"
    refine o_addT (mid (by show 4 + 1 ≤ 4000000; decide)) ?_
    have ec : D.tup (Dy.cutD b.parts none (some 4) ++ [D.non]) = b.bare.d := rfl
    rw [ec]
    walk_at "go"
    refine is_ok (okI_told ok.bare) ?_
    walk_at "go"
    refine ⟨4, rfl, by decide, by decide, ?_⟩
    refine ⟨fun i2 ρ S' => HandAt S' n ∧ S'[nb]? = some (.ins cBook (fldB b)) ∧ ∃ (o8 o9 o10 : Option D), ρ = [some (.frz (ns.map .int)), some (.ref n), some (natD iT), some (natD N), some b.d, some (.str b.text), some (.ref nb), some (.str b.bare.text), o8, o9, o10, o11], ⟨hp12, e12, _, _, _, rfl⟩, fun _ _ _ _ _ => trivial, ?_, ?_⟩
    · rintro i2 x2 ρ S13 hx2 ⟨hp13, e13, o8, o9, o10, rfl⟩
      walk_at "go"
      refine draw_ok hp13 (by decide) (by decide) fun q S14 q0 q1 hp14 k14 => ?_
      have e14 := (k14.2 nb (by simpa using hne)).trans e13
      walk_at "go"
      refine ⟨_, rfl, by omega, by omega, ?_⟩
      refine ⟨fun i ρ S' => HandAt S' n ∧ S'[nb]? = some (.ins cBook (fldB b)) ∧ ∃ (z : Str) (o10 : Option D), z.length ≤ (if i = 0 then 1700 else if i = 1 then 5140 else 15460) ∧ ρ = [some (.frz (ns.map .int)), some (.ref n), some (natD iT), some (natD N), some b.d, some (.str b.text), some (.ref nb), some (.str b.bare.text), some x2, some (.str z), o10, o11], ⟨hp14, e14, b.text, o10, by rw [if_pos rfl]; exact tl1, rfl⟩, fun _ _ _ _ _ => trivial, ?_, ?_⟩
      · rintro i3 x3 ρ S15 hx3 ⟨hp15, e15, z, o10, hz, rfl⟩
        have hi3 : i3 < 2 := by
          have := (List.getElem?_eq_some_iff.mp hx3).1
          rw [rng_len] at this
          omega
        have l15 := (List.getElem?_eq_some_iff.mp e15).1
        walk_at "go"
        refine ⟨n, z, rfl, hp15, by split at hz <;> (try split at hz) <;> omega, fun z' S16 hz' hp16 kg16 => ?_⟩
        walk_at "go"
        refine ⟨hp16, (kg16.2 nb l15 (by simpa using hne)).trans e15, z', _, ?_, rfl⟩
        obtain rfl | rfl : i3 = 0 ∨ i3 = 1 := by omega
        · rw [if_pos rfl] at hz
          show z'.length ≤ 5140
          omega
        · have hz : z.length ≤ 5140 := hz
          show z'.length ≤ 15460
          omega
      · rintro ρ S15 ⟨hp15, e15, z, o10, hz, rfl⟩
        have hz5 : z.length ≤ 20000 := by split at hz <;> (try split at hz) <;> omega
        have l15 := (List.getElem?_eq_some_iff.mp e15).1
        walk_at "go"
        refine ⟨_, rfl, .inr ⟨z, rfl, by omega, fun S16 g16 => ?_⟩⟩
        walk_at "go"
        refine ⟨z, rfl, by omega, fun S17 g17 => ?_⟩
        walk_at "go"
        refine is_ok okI_due ?_
        walk_at "go"
        have gg := g16.trans g17
        exact ⟨hp15.grown gg, (gg.2 nb l15).trans e15, _, _, _, rfl⟩
    · rintro ρ S13 ⟨hp13, e13, o8, o9, o10, rfl⟩
      walk_at "go"
      refine ⟨0, rfl, ?_⟩
      obtain ⟨dp, edp⟩ := deep_0
      rw [edp]
      walk_at "go"
      refine any_ok hp13 (by simp) (by simp) fun dd S14 md hp14 k14 => ?_
      have e14 := (k14.2 nb (by simpa using hne)).trans e13
      have odd : Odd cBook S14 dd := by
        simp only [List.mem_cons, List.not_mem_nil, or_false] at md
        rcases md with rfl | rfl | rfl | rfl | rfl | rfl | rfl | rfl | rfl
        · exact .inl ⟨rfl, by intro z e; cases e⟩
        · exact .inl ⟨rfl, by intro z e; cases e⟩
        · exact .inl ⟨rfl, by intro z e; cases e⟩
        · exact .inl ⟨rfl, by intro z e; cases e⟩
        · exact .inl ⟨rfl, by intro z e; cases e⟩
        · exact .inl ⟨rfl, by intro z e; cases e⟩
        · exact .inr ⟨nb, _, rfl, e14⟩
        · exact .inl ⟨rfl, by intro z e; cases e⟩
        · exact .inl ⟨rfl, by intro z e; cases e⟩
      walk_at "go"
      refine ⟨dd, rfl, .inl ⟨odd, ?_⟩⟩
      walk_at "go"
      refine is_ok rfl ?_
      walk_at "go"
      exact ⟨hp14, _, _, _, _, _, _, _, _, _, _, rfl⟩
  · rintro ρ S2 ⟨hp2, o2, o3, o4, o5, o6, o7, o8, o9, o10, o11, rfl⟩
    walk_at "go"
    exact h S2
end
open PySem PySem.Spec PyProof.Rows L2 Dy
theorem kit_self {K : PySem.W.Frag} {C : Addr} : PySem.W.kitOne K (.ref C) (.ref C) = some true := by
  unfold PySem.W.kitOne
  rw [if_pos (by simp)]
theorem kit_str {K : PySem.W.Frag} {C : Addr} (h : PySem.W.subIn K (.ref C) (.type "str") = some false) : PySem.W.kitOne K (.ref C) (.type "str") = some false := by
  unfold PySem.W.kitOne
  have q : (Value.ref C == Value.type "str") = false := by rfl
  rw [q, if_neg Bool.false_ne_true]
  unfold PySem.W.kitCls
  exact (if_pos (by decide +kernel)).trans h
theorem all_mk {l : PySem.W.OpenLaw} {w : World} {K : PySem.W.Frag} {h : Heap} {mg : Str → Option Value} {fa : Addr} (X : K.In h) (G : h.Ns mainGlobals mg) (hfa : mg "law" = some (.ref fa))
    {od_is_integer an_is_integer : Option Addr} {sl_is_integer : Array (Option Value)} {oc_is_integer kV_is_integer dc_is_integer pm_is_integer cd_is_integer ct_is_integer : Value} {f_is_integer : Addr}
    {od_is_between an_is_between : Option Addr} {sl_is_between : Array (Option Value)} {oc_is_between kV_is_between dc_is_between pm_is_between cd_is_between ct_is_between : Value} {f_is_between : Addr}
    {od_is_tuple_of an_is_tuple_of : Option Addr} {sl_is_tuple_of : Array (Option Value)} {oc_is_tuple_of kV_is_tuple_of dc_is_tuple_of pm_is_tuple_of cd_is_tuple_of ct_is_tuple_of : Value} {f_is_tuple_of : Addr}
    {od_are_stamps an_are_stamps : Option Addr} {sl_are_stamps : Array (Option Value)} {oc_are_stamps kV_are_stamps dc_are_stamps pm_are_stamps cd_are_stamps ct_are_stamps : Value} {f_are_stamps : Addr}
    {od_are_rows an_are_rows : Option Addr} {sl_are_rows : Array (Option Value)} {oc_are_rows kV_are_rows dc_are_rows pm_are_rows cd_are_rows ct_are_rows : Value} {f_are_rows : Addr}
    {od_are_words an_are_words : Option Addr} {sl_are_words : Array (Option Value)} {oc_are_words kV_are_words dc_are_words pm_are_words cd_are_words ct_are_words : Value} {f_are_words : Addr}
    {od_are_looks an_are_looks : Option Addr} {sl_are_looks : Array (Option Value)} {oc_are_looks kV_are_looks dc_are_looks pm_are_looks cd_are_looks ct_are_looks : Value} {f_are_looks : Addr}
    {od_wrong_part an_wrong_part : Option Addr} {sl_wrong_part : Array (Option Value)} {oc_wrong_part kV_wrong_part dc_wrong_part pm_wrong_part cd_wrong_part ct_wrong_part : Value} {f_wrong_part : Addr}
    {od_line_of an_line_of : Option Addr} {sl_line_of : Array (Option Value)} {oc_line_of kV_line_of dc_line_of pm_line_of cd_line_of ct_line_of : Value} {f_line_of : Addr}
    {od_table_lines an_table_lines : Option Addr} {sl_table_lines : Array (Option Value)} {oc_table_lines kV_table_lines dc_table_lines pm_table_lines cd_table_lines ct_table_lines : Value} {f_table_lines : Addr}
    {od_book_text an_book_text : Option Addr} {sl_book_text : Array (Option Value)} {oc_book_text kV_book_text dc_book_text pm_book_text cd_book_text ct_book_text : Value} {f_book_text : Addr}
    {od_check_text an_check_text : Option Addr} {sl_check_text : Array (Option Value)} {oc_check_text kV_check_text dc_check_text pm_check_text cd_check_text ct_check_text : Value} {f_check_text : Addr}
    {od_number_in an_number_in : Option Addr} {sl_number_in : Array (Option Value)} {oc_number_in kV_number_in dc_number_in pm_number_in cd_number_in ct_number_in : Value} {f_number_in : Addr}
    {od_read_head an_read_head : Option Addr} {sl_read_head : Array (Option Value)} {oc_read_head kV_read_head dc_read_head pm_read_head cd_read_head ct_read_head : Value} {f_read_head : Addr}
    {od_read_table an_read_table : Option Addr} {sl_read_table : Array (Option Value)} {oc_read_table kV_read_table dc_read_table pm_read_table cd_read_table ct_read_table : Value} {f_read_table : Addr}
    {od_read_book an_read_book : Option Addr} {sl_read_book : Array (Option Value)} {oc_read_book kV_read_book dc_read_book pm_read_book cd_read_book ct_read_book : Value} {f_read_book : Addr}
    {od__law_hand an__law_hand : Option Addr} {sl__law_hand : Array (Option Value)} {oc__law_hand kV__law_hand dc__law_hand pm__law_hand cd__law_hand ct__law_hand : Value} {f__law_hand : Addr}
    {od__law_draw an__law_draw : Option Addr} {sl__law_draw : Array (Option Value)} {oc__law_draw kV__law_draw dc__law_draw pm__law_draw cd__law_draw ct__law_draw : Value} {f__law_draw : Addr}
    {od__law_some an__law_some : Option Addr} {sl__law_some : Array (Option Value)} {oc__law_some kV__law_some dc__law_some pm__law_some cd__law_some ct__law_some : Value} {f__law_some : Addr}
    {od__law_is an__law_is : Option Addr} {sl__law_is : Array (Option Value)} {oc__law_is kV__law_is dc__law_is pm__law_is cd__law_is ct__law_is : Value} {f__law_is : Addr}
    {od__law_deep an__law_deep : Option Addr} {sl__law_deep : Array (Option Value)} {oc__law_deep kV__law_deep dc__law_deep pm__law_deep cd__law_deep ct__law_deep : Value} {f__law_deep : Addr}
    {od__law_words an__law_words : Option Addr} {sl__law_words : Array (Option Value)} {oc__law_words kV__law_words dc__law_words pm__law_words cd__law_words ct__law_words : Value} {f__law_words : Addr}
    {od__law_parts an__law_parts : Option Addr} {sl__law_parts : Array (Option Value)} {oc__law_parts kV__law_parts dc__law_parts pm__law_parts cd__law_parts ct__law_parts : Value} {f__law_parts : Addr}
    {od__law_book an__law_book : Option Addr} {sl__law_book : Array (Option Value)} {oc__law_book kV__law_book dc__law_book pm__law_book cd__law_book ct__law_book : Value} {f__law_book : Addr}
    {od__law_number an__law_number : Option Addr} {sl__law_number : Array (Option Value)} {oc__law_number kV__law_number dc__law_number pm__law_number cd__law_number ct__law_number : Value} {f__law_number : Addr}
    {od__law_numbers an__law_numbers : Option Addr} {sl__law_numbers : Array (Option Value)} {oc__law_numbers kV__law_numbers dc__law_numbers pm__law_numbers cd__law_numbers ct__law_numbers : Value} {f__law_numbers : Addr}
    {od__law_book_text an__law_book_text : Option Addr} {sl__law_book_text : Array (Option Value)} {oc__law_book_text kV__law_book_text dc__law_book_text pm__law_book_text cd__law_book_text ct__law_book_text : Value} {f__law_book_text : Addr}
    {od__law_first_line an__law_first_line : Option Addr} {sl__law_first_line : Array (Option Value)} {oc__law_first_line kV__law_first_line dc__law_first_line pm__law_first_line cd__law_first_line ct__law_first_line : Value} {f__law_first_line : Addr}
    {od__law_row_of an__law_row_of : Option Addr} {sl__law_row_of : Array (Option Value)} {oc__law_row_of kV__law_row_of dc__law_row_of pm__law_row_of cd__law_row_of ct__law_row_of : Value} {f__law_row_of : Addr}
    {od__law_looks_of an__law_looks_of : Option Addr} {sl__law_looks_of : Array (Option Value)} {oc__law_looks_of kV__law_looks_of dc__law_looks_of pm__law_looks_of cd__law_looks_of ct__law_looks_of : Value} {f__law_looks_of : Addr}
    {od__law_read_rows an__law_read_rows : Option Addr} {sl__law_read_rows : Array (Option Value)} {oc__law_read_rows kV__law_read_rows dc__law_read_rows pm__law_read_rows cd__law_read_rows ct__law_read_rows : Value} {f__law_read_rows : Addr}
    {od__law_read_book an__law_read_book : Option Addr} {sl__law_read_book : Array (Option Value)} {oc__law_read_book kV__law_read_book dc__law_read_book pm__law_read_book cd__law_read_book ct__law_read_book : Value} {f__law_read_book : Addr}
    {od__law_told an__law_told : Option Addr} {sl__law_told : Array (Option Value)} {oc__law_told kV__law_told dc__law_told pm__law_told cd__law_told ct__law_told : Value} {f__law_told : Addr}
    {od__law_bent an__law_bent : Option Addr} {sl__law_bent : Array (Option Value)} {oc__law_bent kV__law_bent dc__law_bent pm__law_bent cd__law_bent ct__law_bent : Value} {f__law_bent : Addr}
    {od__law_great_right an__law_great_right : Option Addr} {sl__law_great_right : Array (Option Value)} {oc__law_great_right kV__law_great_right dc__law_great_right pm__law_great_right cd__law_great_right ct__law_great_right : Value} {f__law_great_right : Addr}
    {od_law an_law : Option Addr} {sl_law : Array (Option Value)} {oc_law kV_law dc_law pm_law cd_law ct_law : Value} {f_law : Addr}
    {cCopyError : Addr}
    {cBadText : Addr}
    {cBook : Addr}
    {od_Book___init__ an_Book___init__ : Option Addr} {sl_Book___init__ : Array (Option Value)} {oc_Book___init__ kV_Book___init__ dc_Book___init__ pm_Book___init__ cd_Book___init__ ct_Book___init__ : Value} {f_Book___init__ : Addr}
    {nm_BadText q_BadText : Str} {N_BadText : Addr} {bs_BadText sub_BadText : List Value} {sn_BadText : List Str} {ab_BadText : Bool} {col_BadText : Option Bool} {dd_BadText : Option Addr} {m0_BadText m1_BadText m2_BadText m3_BadText m5_BadText : Option Value} {bm_BadText : List Value}
    {od_BadText___init__ an_BadText___init__ : Option Addr} {sl_BadText___init__ : Array (Option Value)} {oc_BadText___init__ kV_BadText___init__ dc_BadText___init__ pm_BadText___init__ cd_BadText___init__ ct_BadText___init__ : Value} {f_BadText___init__ : Addr}
    {tDI tMF tM : Tok} {aW : Addr} {odW : Option Addr} {w1 w2 w3 w4 : Tok} {nW : Nat} {slW : Array (Option Value)}
    {od_Book___eq__ an_Book___eq__ : Option Addr} {sl_Book___eq__ : Array (Option Value)} {oc_Book___eq__ kV_Book___eq__ dc_Book___eq__ pm_Book___eq__ cd_Book___eq__ ct_Book___eq__ : Value} {f_Book___eq__ : Addr}
    (z_ValueError : PySem.W.nsIn K mainGlobals "ValueError" = some none)
    (z_abs : PySem.W.nsIn K mainGlobals "abs" = some none)
    (z_all : PySem.W.nsIn K mainGlobals "all" = some none)
    (z_any : PySem.W.nsIn K mainGlobals "any" = some none)
    (z_bool : PySem.W.nsIn K mainGlobals "bool" = some none)
    (z_dict : PySem.W.nsIn K mainGlobals "dict" = some none)
    (z_enumerate : PySem.W.nsIn K mainGlobals "enumerate" = some none)
    (z_int : PySem.W.nsIn K mainGlobals "int" = some none)
    (z_isinstance : PySem.W.nsIn K mainGlobals "isinstance" = some none)
    (z_len : PySem.W.nsIn K mainGlobals "len" = some none)
    (z_list : PySem.W.nsIn K mainGlobals "list" = some none)
    (z_max : PySem.W.nsIn K mainGlobals "max" = some none)
    (z_min : PySem.W.nsIn K mainGlobals "min" = some none)
    (z_range : PySem.W.nsIn K mainGlobals "range" = some none)
    (z_set : PySem.W.nsIn K mainGlobals "set" = some none)
    (z_sorted : PySem.W.nsIn K mainGlobals "sorted" = some none)
    (z_str : PySem.W.nsIn K mainGlobals "str" = some none)
    (z_sum : PySem.W.nsIn K mainGlobals "sum" = some none)
    (z_tuple : PySem.W.nsIn K mainGlobals "tuple" = some none)
    (z_type : PySem.W.nsIn K mainGlobals "type" = some none)
    (a_is_integer : PySem.W.nsIn K mainGlobals "is_integer" = some (some (.ref f_is_integer)))
    (l_is_integer : K.lookup f_is_integer = some ⟨oc_is_integer, od_is_integer, .func (PySem.W.fnOf "is_integer" "is_integer" (defArgs s_is_integer) (defBody s_is_integer) (defScope s_is_integer) .none kV_is_integer dc_is_integer pm_is_integer an_is_integer cd_is_integer ct_is_integer), sl_is_integer⟩)
    (c_is_integer : PySem.W.codeIn K cd_is_integer "is_integer" = true)
    (k_is_integer : PySem.W.keepIn K (.ref f_is_integer) = true)
    (a_is_between : PySem.W.nsIn K mainGlobals "is_between" = some (some (.ref f_is_between)))
    (l_is_between : K.lookup f_is_between = some ⟨oc_is_between, od_is_between, .func (PySem.W.fnOf "is_between" "is_between" (defArgs s_is_between) (defBody s_is_between) (defScope s_is_between) .none kV_is_between dc_is_between pm_is_between an_is_between cd_is_between ct_is_between), sl_is_between⟩)
    (c_is_between : PySem.W.codeIn K cd_is_between "is_between" = true)
    (k_is_between : PySem.W.keepIn K (.ref f_is_between) = true)
    (a_is_tuple_of : PySem.W.nsIn K mainGlobals "is_tuple_of" = some (some (.ref f_is_tuple_of)))
    (l_is_tuple_of : K.lookup f_is_tuple_of = some ⟨oc_is_tuple_of, od_is_tuple_of, .func (PySem.W.fnOf "is_tuple_of" "is_tuple_of" (defArgs s_is_tuple_of) (defBody s_is_tuple_of) (defScope s_is_tuple_of) .none kV_is_tuple_of dc_is_tuple_of pm_is_tuple_of an_is_tuple_of cd_is_tuple_of ct_is_tuple_of), sl_is_tuple_of⟩)
    (c_is_tuple_of : PySem.W.codeIn K cd_is_tuple_of "is_tuple_of" = true)
    (k_is_tuple_of : PySem.W.keepIn K (.ref f_is_tuple_of) = true)
    (a_are_stamps : PySem.W.nsIn K mainGlobals "are_stamps" = some (some (.ref f_are_stamps)))
    (l_are_stamps : K.lookup f_are_stamps = some ⟨oc_are_stamps, od_are_stamps, .func (PySem.W.fnOf "are_stamps" "are_stamps" (defArgs s_are_stamps) (defBody s_are_stamps) (defScope s_are_stamps) .none kV_are_stamps dc_are_stamps pm_are_stamps an_are_stamps cd_are_stamps ct_are_stamps), sl_are_stamps⟩)
    (c_are_stamps : PySem.W.codeIn K cd_are_stamps "are_stamps" = true)
    (k_are_stamps : PySem.W.keepIn K (.ref f_are_stamps) = true)
    (a_are_rows : PySem.W.nsIn K mainGlobals "are_rows" = some (some (.ref f_are_rows)))
    (l_are_rows : K.lookup f_are_rows = some ⟨oc_are_rows, od_are_rows, .func (PySem.W.fnOf "are_rows" "are_rows" (defArgs s_are_rows) (defBody s_are_rows) (defScope s_are_rows) .none kV_are_rows dc_are_rows pm_are_rows an_are_rows cd_are_rows ct_are_rows), sl_are_rows⟩)
    (c_are_rows : PySem.W.codeIn K cd_are_rows "are_rows" = true)
    (k_are_rows : PySem.W.keepIn K (.ref f_are_rows) = true)
    (a_are_words : PySem.W.nsIn K mainGlobals "are_words" = some (some (.ref f_are_words)))
    (l_are_words : K.lookup f_are_words = some ⟨oc_are_words, od_are_words, .func (PySem.W.fnOf "are_words" "are_words" (defArgs s_are_words) (defBody s_are_words) (defScope s_are_words) .none kV_are_words dc_are_words pm_are_words an_are_words cd_are_words ct_are_words), sl_are_words⟩)
    (c_are_words : PySem.W.codeIn K cd_are_words "are_words" = true)
    (k_are_words : PySem.W.keepIn K (.ref f_are_words) = true)
    (a_are_looks : PySem.W.nsIn K mainGlobals "are_looks" = some (some (.ref f_are_looks)))
    (l_are_looks : K.lookup f_are_looks = some ⟨oc_are_looks, od_are_looks, .func (PySem.W.fnOf "are_looks" "are_looks" (defArgs s_are_looks) (defBody s_are_looks) (defScope s_are_looks) .none kV_are_looks dc_are_looks pm_are_looks an_are_looks cd_are_looks ct_are_looks), sl_are_looks⟩)
    (c_are_looks : PySem.W.codeIn K cd_are_looks "are_looks" = true)
    (k_are_looks : PySem.W.keepIn K (.ref f_are_looks) = true)
    (a_wrong_part : PySem.W.nsIn K mainGlobals "wrong_part" = some (some (.ref f_wrong_part)))
    (l_wrong_part : K.lookup f_wrong_part = some ⟨oc_wrong_part, od_wrong_part, .func (PySem.W.fnOf "wrong_part" "wrong_part" (defArgs s_wrong_part) (defBody s_wrong_part) (defScope s_wrong_part) .none kV_wrong_part dc_wrong_part pm_wrong_part an_wrong_part cd_wrong_part ct_wrong_part), sl_wrong_part⟩)
    (c_wrong_part : PySem.W.codeIn K cd_wrong_part "wrong_part" = true)
    (k_wrong_part : PySem.W.keepIn K (.ref f_wrong_part) = true)
    (a_line_of : PySem.W.nsIn K mainGlobals "line_of" = some (some (.ref f_line_of)))
    (l_line_of : K.lookup f_line_of = some ⟨oc_line_of, od_line_of, .func (PySem.W.fnOf "line_of" "line_of" (defArgs s_line_of) (defBody s_line_of) (defScope s_line_of) .none kV_line_of dc_line_of pm_line_of an_line_of cd_line_of ct_line_of), sl_line_of⟩)
    (c_line_of : PySem.W.codeIn K cd_line_of "line_of" = true)
    (k_line_of : PySem.W.keepIn K (.ref f_line_of) = true)
    (a_table_lines : PySem.W.nsIn K mainGlobals "table_lines" = some (some (.ref f_table_lines)))
    (l_table_lines : K.lookup f_table_lines = some ⟨oc_table_lines, od_table_lines, .func (PySem.W.fnOf "table_lines" "table_lines" (defArgs s_table_lines) (defBody s_table_lines) (defScope s_table_lines) .none kV_table_lines dc_table_lines pm_table_lines an_table_lines cd_table_lines ct_table_lines), sl_table_lines⟩)
    (c_table_lines : PySem.W.codeIn K cd_table_lines "table_lines" = true)
    (k_table_lines : PySem.W.keepIn K (.ref f_table_lines) = true)
    (a_book_text : PySem.W.nsIn K mainGlobals "book_text" = some (some (.ref f_book_text)))
    (l_book_text : K.lookup f_book_text = some ⟨oc_book_text, od_book_text, .func (PySem.W.fnOf "book_text" "book_text" (defArgs s_book_text) (defBody s_book_text) (defScope s_book_text) .none kV_book_text dc_book_text pm_book_text an_book_text cd_book_text ct_book_text), sl_book_text⟩)
    (c_book_text : PySem.W.codeIn K cd_book_text "book_text" = true)
    (k_book_text : PySem.W.keepIn K (.ref f_book_text) = true)
    (a_check_text : PySem.W.nsIn K mainGlobals "check_text" = some (some (.ref f_check_text)))
    (l_check_text : K.lookup f_check_text = some ⟨oc_check_text, od_check_text, .func (PySem.W.fnOf "check_text" "check_text" (defArgs s_check_text) (defBody s_check_text) (defScope s_check_text) .none kV_check_text dc_check_text pm_check_text an_check_text cd_check_text ct_check_text), sl_check_text⟩)
    (c_check_text : PySem.W.codeIn K cd_check_text "check_text" = true)
    (k_check_text : PySem.W.keepIn K (.ref f_check_text) = true)
    (a_number_in : PySem.W.nsIn K mainGlobals "number_in" = some (some (.ref f_number_in)))
    (l_number_in : K.lookup f_number_in = some ⟨oc_number_in, od_number_in, .func (PySem.W.fnOf "number_in" "number_in" (defArgs s_number_in) (defBody s_number_in) (defScope s_number_in) .none kV_number_in dc_number_in pm_number_in an_number_in cd_number_in ct_number_in), sl_number_in⟩)
    (c_number_in : PySem.W.codeIn K cd_number_in "number_in" = true)
    (k_number_in : PySem.W.keepIn K (.ref f_number_in) = true)
    (a_read_head : PySem.W.nsIn K mainGlobals "read_head" = some (some (.ref f_read_head)))
    (l_read_head : K.lookup f_read_head = some ⟨oc_read_head, od_read_head, .func (PySem.W.fnOf "read_head" "read_head" (defArgs s_read_head) (defBody s_read_head) (defScope s_read_head) .none kV_read_head dc_read_head pm_read_head an_read_head cd_read_head ct_read_head), sl_read_head⟩)
    (c_read_head : PySem.W.codeIn K cd_read_head "read_head" = true)
    (k_read_head : PySem.W.keepIn K (.ref f_read_head) = true)
    (a_read_table : PySem.W.nsIn K mainGlobals "read_table" = some (some (.ref f_read_table)))
    (l_read_table : K.lookup f_read_table = some ⟨oc_read_table, od_read_table, .func (PySem.W.fnOf "read_table" "read_table" (defArgs s_read_table) (defBody s_read_table) (defScope s_read_table) .none kV_read_table dc_read_table pm_read_table an_read_table cd_read_table ct_read_table), sl_read_table⟩)
    (c_read_table : PySem.W.codeIn K cd_read_table "read_table" = true)
    (k_read_table : PySem.W.keepIn K (.ref f_read_table) = true)
    (a_read_book : PySem.W.nsIn K mainGlobals "read_book" = some (some (.ref f_read_book)))
    (l_read_book : K.lookup f_read_book = some ⟨oc_read_book, od_read_book, .func (PySem.W.fnOf "read_book" "read_book" (defArgs s_read_book) (defBody s_read_book) (defScope s_read_book) .none kV_read_book dc_read_book pm_read_book an_read_book cd_read_book ct_read_book), sl_read_book⟩)
    (c_read_book : PySem.W.codeIn K cd_read_book "read_book" = true)
    (k_read_book : PySem.W.keepIn K (.ref f_read_book) = true)
    (a__law_hand : PySem.W.nsIn K mainGlobals "_law_hand" = some (some (.ref f__law_hand)))
    (l__law_hand : K.lookup f__law_hand = some ⟨oc__law_hand, od__law_hand, .func (PySem.W.fnOf "_law_hand" "_law_hand" (defArgs s__law_hand) (defBody s__law_hand) (defScope s__law_hand) .none kV__law_hand dc__law_hand pm__law_hand an__law_hand cd__law_hand ct__law_hand), sl__law_hand⟩)
    (c__law_hand : PySem.W.codeIn K cd__law_hand "_law_hand" = true)
    (k__law_hand : PySem.W.keepIn K (.ref f__law_hand) = true)
    (a__law_draw : PySem.W.nsIn K mainGlobals "_law_draw" = some (some (.ref f__law_draw)))
    (l__law_draw : K.lookup f__law_draw = some ⟨oc__law_draw, od__law_draw, .func (PySem.W.fnOf "_law_draw" "_law_draw" (defArgs s__law_draw) (defBody s__law_draw) (defScope s__law_draw) .none kV__law_draw dc__law_draw pm__law_draw an__law_draw cd__law_draw ct__law_draw), sl__law_draw⟩)
    (c__law_draw : PySem.W.codeIn K cd__law_draw "_law_draw" = true)
    (k__law_draw : PySem.W.keepIn K (.ref f__law_draw) = true)
    (a__law_some : PySem.W.nsIn K mainGlobals "_law_some" = some (some (.ref f__law_some)))
    (l__law_some : K.lookup f__law_some = some ⟨oc__law_some, od__law_some, .func (PySem.W.fnOf "_law_some" "_law_some" (defArgs s__law_some) (defBody s__law_some) (defScope s__law_some) .none kV__law_some dc__law_some pm__law_some an__law_some cd__law_some ct__law_some), sl__law_some⟩)
    (c__law_some : PySem.W.codeIn K cd__law_some "_law_some" = true)
    (k__law_some : PySem.W.keepIn K (.ref f__law_some) = true)
    (a__law_is : PySem.W.nsIn K mainGlobals "_law_is" = some (some (.ref f__law_is)))
    (l__law_is : K.lookup f__law_is = some ⟨oc__law_is, od__law_is, .func (PySem.W.fnOf "_law_is" "_law_is" (defArgs s__law_is) (defBody s__law_is) (defScope s__law_is) .none kV__law_is dc__law_is pm__law_is an__law_is cd__law_is ct__law_is), sl__law_is⟩)
    (c__law_is : PySem.W.codeIn K cd__law_is "_law_is" = true)
    (k__law_is : PySem.W.keepIn K (.ref f__law_is) = true)
    (a__law_deep : PySem.W.nsIn K mainGlobals "_law_deep" = some (some (.ref f__law_deep)))
    (l__law_deep : K.lookup f__law_deep = some ⟨oc__law_deep, od__law_deep, .func (PySem.W.fnOf "_law_deep" "_law_deep" (defArgs s__law_deep) (defBody s__law_deep) (defScope s__law_deep) .none kV__law_deep dc__law_deep pm__law_deep an__law_deep cd__law_deep ct__law_deep), sl__law_deep⟩)
    (c__law_deep : PySem.W.codeIn K cd__law_deep "_law_deep" = true)
    (k__law_deep : PySem.W.keepIn K (.ref f__law_deep) = true)
    (a__law_words : PySem.W.nsIn K mainGlobals "_law_words" = some (some (.ref f__law_words)))
    (l__law_words : K.lookup f__law_words = some ⟨oc__law_words, od__law_words, .func (PySem.W.fnOf "_law_words" "_law_words" (defArgs s__law_words) (defBody s__law_words) (defScope s__law_words) .none kV__law_words dc__law_words pm__law_words an__law_words cd__law_words ct__law_words), sl__law_words⟩)
    (c__law_words : PySem.W.codeIn K cd__law_words "_law_words" = true)
    (k__law_words : PySem.W.keepIn K (.ref f__law_words) = true)
    (a__law_parts : PySem.W.nsIn K mainGlobals "_law_parts" = some (some (.ref f__law_parts)))
    (l__law_parts : K.lookup f__law_parts = some ⟨oc__law_parts, od__law_parts, .func (PySem.W.fnOf "_law_parts" "_law_parts" (defArgs s__law_parts) (defBody s__law_parts) (defScope s__law_parts) .none kV__law_parts dc__law_parts pm__law_parts an__law_parts cd__law_parts ct__law_parts), sl__law_parts⟩)
    (c__law_parts : PySem.W.codeIn K cd__law_parts "_law_parts" = true)
    (k__law_parts : PySem.W.keepIn K (.ref f__law_parts) = true)
    (a__law_book : PySem.W.nsIn K mainGlobals "_law_book" = some (some (.ref f__law_book)))
    (l__law_book : K.lookup f__law_book = some ⟨oc__law_book, od__law_book, .func (PySem.W.fnOf "_law_book" "_law_book" (defArgs s__law_book) (defBody s__law_book) (defScope s__law_book) .none kV__law_book dc__law_book pm__law_book an__law_book cd__law_book ct__law_book), sl__law_book⟩)
    (c__law_book : PySem.W.codeIn K cd__law_book "_law_book" = true)
    (k__law_book : PySem.W.keepIn K (.ref f__law_book) = true)
    (a__law_number : PySem.W.nsIn K mainGlobals "_law_number" = some (some (.ref f__law_number)))
    (l__law_number : K.lookup f__law_number = some ⟨oc__law_number, od__law_number, .func (PySem.W.fnOf "_law_number" "_law_number" (defArgs s__law_number) (defBody s__law_number) (defScope s__law_number) .none kV__law_number dc__law_number pm__law_number an__law_number cd__law_number ct__law_number), sl__law_number⟩)
    (c__law_number : PySem.W.codeIn K cd__law_number "_law_number" = true)
    (k__law_number : PySem.W.keepIn K (.ref f__law_number) = true)
    (a__law_numbers : PySem.W.nsIn K mainGlobals "_law_numbers" = some (some (.ref f__law_numbers)))
    (l__law_numbers : K.lookup f__law_numbers = some ⟨oc__law_numbers, od__law_numbers, .func (PySem.W.fnOf "_law_numbers" "_law_numbers" (defArgs s__law_numbers) (defBody s__law_numbers) (defScope s__law_numbers) .none kV__law_numbers dc__law_numbers pm__law_numbers an__law_numbers cd__law_numbers ct__law_numbers), sl__law_numbers⟩)
    (c__law_numbers : PySem.W.codeIn K cd__law_numbers "_law_numbers" = true)
    (k__law_numbers : PySem.W.keepIn K (.ref f__law_numbers) = true)
    (a__law_book_text : PySem.W.nsIn K mainGlobals "_law_book_text" = some (some (.ref f__law_book_text)))
    (l__law_book_text : K.lookup f__law_book_text = some ⟨oc__law_book_text, od__law_book_text, .func (PySem.W.fnOf "_law_book_text" "_law_book_text" (defArgs s__law_book_text) (defBody s__law_book_text) (defScope s__law_book_text) .none kV__law_book_text dc__law_book_text pm__law_book_text an__law_book_text cd__law_book_text ct__law_book_text), sl__law_book_text⟩)
    (c__law_book_text : PySem.W.codeIn K cd__law_book_text "_law_book_text" = true)
    (k__law_book_text : PySem.W.keepIn K (.ref f__law_book_text) = true)
    (a__law_first_line : PySem.W.nsIn K mainGlobals "_law_first_line" = some (some (.ref f__law_first_line)))
    (l__law_first_line : K.lookup f__law_first_line = some ⟨oc__law_first_line, od__law_first_line, .func (PySem.W.fnOf "_law_first_line" "_law_first_line" (defArgs s__law_first_line) (defBody s__law_first_line) (defScope s__law_first_line) .none kV__law_first_line dc__law_first_line pm__law_first_line an__law_first_line cd__law_first_line ct__law_first_line), sl__law_first_line⟩)
    (c__law_first_line : PySem.W.codeIn K cd__law_first_line "_law_first_line" = true)
    (k__law_first_line : PySem.W.keepIn K (.ref f__law_first_line) = true)
    (a__law_row_of : PySem.W.nsIn K mainGlobals "_law_row_of" = some (some (.ref f__law_row_of)))
    (l__law_row_of : K.lookup f__law_row_of = some ⟨oc__law_row_of, od__law_row_of, .func (PySem.W.fnOf "_law_row_of" "_law_row_of" (defArgs s__law_row_of) (defBody s__law_row_of) (defScope s__law_row_of) .none kV__law_row_of dc__law_row_of pm__law_row_of an__law_row_of cd__law_row_of ct__law_row_of), sl__law_row_of⟩)
    (c__law_row_of : PySem.W.codeIn K cd__law_row_of "_law_row_of" = true)
    (k__law_row_of : PySem.W.keepIn K (.ref f__law_row_of) = true)
    (a__law_looks_of : PySem.W.nsIn K mainGlobals "_law_looks_of" = some (some (.ref f__law_looks_of)))
    (l__law_looks_of : K.lookup f__law_looks_of = some ⟨oc__law_looks_of, od__law_looks_of, .func (PySem.W.fnOf "_law_looks_of" "_law_looks_of" (defArgs s__law_looks_of) (defBody s__law_looks_of) (defScope s__law_looks_of) .none kV__law_looks_of dc__law_looks_of pm__law_looks_of an__law_looks_of cd__law_looks_of ct__law_looks_of), sl__law_looks_of⟩)
    (c__law_looks_of : PySem.W.codeIn K cd__law_looks_of "_law_looks_of" = true)
    (k__law_looks_of : PySem.W.keepIn K (.ref f__law_looks_of) = true)
    (a__law_read_rows : PySem.W.nsIn K mainGlobals "_law_read_rows" = some (some (.ref f__law_read_rows)))
    (l__law_read_rows : K.lookup f__law_read_rows = some ⟨oc__law_read_rows, od__law_read_rows, .func (PySem.W.fnOf "_law_read_rows" "_law_read_rows" (defArgs s__law_read_rows) (defBody s__law_read_rows) (defScope s__law_read_rows) .none kV__law_read_rows dc__law_read_rows pm__law_read_rows an__law_read_rows cd__law_read_rows ct__law_read_rows), sl__law_read_rows⟩)
    (c__law_read_rows : PySem.W.codeIn K cd__law_read_rows "_law_read_rows" = true)
    (k__law_read_rows : PySem.W.keepIn K (.ref f__law_read_rows) = true)
    (a__law_read_book : PySem.W.nsIn K mainGlobals "_law_read_book" = some (some (.ref f__law_read_book)))
    (l__law_read_book : K.lookup f__law_read_book = some ⟨oc__law_read_book, od__law_read_book, .func (PySem.W.fnOf "_law_read_book" "_law_read_book" (defArgs s__law_read_book) (defBody s__law_read_book) (defScope s__law_read_book) .none kV__law_read_book dc__law_read_book pm__law_read_book an__law_read_book cd__law_read_book ct__law_read_book), sl__law_read_book⟩)
    (c__law_read_book : PySem.W.codeIn K cd__law_read_book "_law_read_book" = true)
    (k__law_read_book : PySem.W.keepIn K (.ref f__law_read_book) = true)
    (a__law_told : PySem.W.nsIn K mainGlobals "_law_told" = some (some (.ref f__law_told)))
    (l__law_told : K.lookup f__law_told = some ⟨oc__law_told, od__law_told, .func (PySem.W.fnOf "_law_told" "_law_told" (defArgs s__law_told) (defBody s__law_told) (defScope s__law_told) .none kV__law_told dc__law_told pm__law_told an__law_told cd__law_told ct__law_told), sl__law_told⟩)
    (c__law_told : PySem.W.codeIn K cd__law_told "_law_told" = true)
    (k__law_told : PySem.W.keepIn K (.ref f__law_told) = true)
    (a__law_bent : PySem.W.nsIn K mainGlobals "_law_bent" = some (some (.ref f__law_bent)))
    (l__law_bent : K.lookup f__law_bent = some ⟨oc__law_bent, od__law_bent, .func (PySem.W.fnOf "_law_bent" "_law_bent" (defArgs s__law_bent) (defBody s__law_bent) (defScope s__law_bent) .none kV__law_bent dc__law_bent pm__law_bent an__law_bent cd__law_bent ct__law_bent), sl__law_bent⟩)
    (c__law_bent : PySem.W.codeIn K cd__law_bent "_law_bent" = true)
    (k__law_bent : PySem.W.keepIn K (.ref f__law_bent) = true)
    (a__law_great_right : PySem.W.nsIn K mainGlobals "_law_great_right" = some (some (.ref f__law_great_right)))
    (l__law_great_right : K.lookup f__law_great_right = some ⟨oc__law_great_right, od__law_great_right, .func (PySem.W.fnOf "_law_great_right" "_law_great_right" (defArgs s__law_great_right) (defBody s__law_great_right) (defScope s__law_great_right) .none kV__law_great_right dc__law_great_right pm__law_great_right an__law_great_right cd__law_great_right ct__law_great_right), sl__law_great_right⟩)
    (c__law_great_right : PySem.W.codeIn K cd__law_great_right "_law_great_right" = true)
    (k__law_great_right : PySem.W.keepIn K (.ref f__law_great_right) = true)
    (a_law : PySem.W.nsIn K mainGlobals "law" = some (some (.ref f_law)))
    (l_law : K.lookup f_law = some ⟨oc_law, od_law, .func (PySem.W.fnOf "law" "law" (defArgs s_law) (defBody s_law) (defScope s_law) .none kV_law dc_law pm_law an_law cd_law ct_law), sl_law⟩)
    (c_law : PySem.W.codeIn K cd_law "law" = true)
    (k_law : PySem.W.keepIn K (.ref f_law) = true)
    (g_CopyError : PySem.W.nsIn K mainGlobals "CopyError" = some (some (.ref cCopyError)))
    (g_BadText : PySem.W.nsIn K mainGlobals "BadText" = some (some (.ref cBadText)))
    (g_Book : PySem.W.nsIn K mainGlobals "Book" = some (some (.ref cBook)))
    (pg_Book : PySem.W.plainGet K cBook Str.empty = true)
    (hd_Book : PySem.W.hasDictIn K cBook = true)
    (po_Book : PySem.W.plainOver K cBook = true)
    (sa_Book : PySem.W.findIn K (.ref cBook) "__setattr__" = some (some (.builtin "object.__setattr__")))
    (mk_Book : PySem.W.makesIn K cBook = true)
    (kc_Book : PySem.W.keepIn K (.ref cBook) = true)
    (no_Book_first : PySem.W.findIn K (.ref cBook) "first" = some none)
    (no_Book_changes : PySem.W.findIn K (.ref cBook) "changes" = some none)
    (no_Book_forks : PySem.W.findIn K (.ref cBook) "forks" = some none)
    (no_Book_joins : PySem.W.findIn K (.ref cBook) "joins" = some none)
    (no_Book_looks : PySem.W.findIn K (.ref cBook) "looks" = some none)
    (a_Book___init__ : PySem.W.findIn K (.ref cBook) "__init__" = some (some (.ref f_Book___init__)))
    (l_Book___init__ : K.lookup f_Book___init__ = some ⟨oc_Book___init__, od_Book___init__, .func (PySem.W.fnOf "__init__" "Book.__init__" (defArgs s_Book___init__) (defBody s_Book___init__) (defScope s_Book___init__) .none kV_Book___init__ dc_Book___init__ pm_Book___init__ an_Book___init__ cd_Book___init__ ct_Book___init__), sl_Book___init__⟩)
    (c_Book___init__ : PySem.W.codeIn K cd_Book___init__ "Book.__init__" = true)
    (k_Book___init__ : PySem.W.keepIn K (.ref f_Book___init__) = true)
    (i_Book___init__ : PySem.W.isFn K (.ref f_Book___init__) = true)
    (x_BadText : K.lookup cBadText = some (excClassObj nm_BadText q_BadText cBadText N_BadText bs_BadText bm_BadText true sn_BadText sub_BadText ab_BadText col_BadText dd_BadText m0_BadText m1_BadText m2_BadText m3_BadText m5_BadText "ValueError.__new__"))
    (sa_BadText : PySem.W.findIn K (.ref cBadText) "__setattr__" = some (some (.builtin "object.__setattr__")))
    (ga_BadText : PySem.W.findIn K (.ref cBadText) "__getattribute__" = some (some (.builtin "BaseException.__getattribute__")))
    (gg_BadText : PySem.W.findIn K (.ref cBadText) "__getattr__" = some none)
    (nb_BadText : PySem.W.findIn K (.ref cBadText) "line" = some none)
    (kC_BadText : PySem.W.keepIn K (.ref cBadText) = true)
    (eC_BadText : PySem.W.subIn K (.ref cBadText) (.type "BaseException") = some true)
    (tC_BadText : PySem.W.typeIn K (.ref cBadText) = some (.type "type"))
    (hC_BadText : PySem.W.hasDictIn K cBadText = true)
    (iC_BadText : PySem.W.isClsIn K cBadText = true)
    (sC_BadText : PySem.W.subIn K (.ref cBadText) (.ref cBadText) = some true)
    (vC_BadText : PySem.W.subIn K (.ref cBadText) (.type "ValueError") = some true)
    (ca_BadText : PySem.W.findIn K (.ref cBadText) "__class__" = some (some (.builtin "object.__class__")))
    (cn_BadText : PySem.W.specialIn K (.builtin "object.__class__") "__get__" = some (some (.builtin "getset_descriptor.__get__")))
    (ck_BadText : PySem.W.takesIn K (.builtin "object.__class__") = some true)
    (cm_BadText : PySem.W.mroIn K cBadText (.type "object") = some true)
    (rv_BadText : PySem.HandSPX.refsVE bm_BadText = true)
    (a_BadText___init__ : PySem.W.findIn K (.ref cBadText) "__init__" = some (some (.ref f_BadText___init__)))
    (l_BadText___init__ : K.lookup f_BadText___init__ = some ⟨oc_BadText___init__, od_BadText___init__, .func (PySem.W.fnOf "__init__" "BadText.__init__" (defArgs s_BadText___init__) (defBody s_BadText___init__) (defScope s_BadText___init__) .none kV_BadText___init__ dc_BadText___init__ pm_BadText___init__ an_BadText___init__ cd_BadText___init__ ct_BadText___init__), sl_BadText___init__⟩)
    (c_BadText___init__ : PySem.W.codeIn K cd_BadText___init__ "BadText.__init__" = true)
    (k_BadText___init__ : PySem.W.keepIn K (.ref f_BadText___init__) = true)
    (t_BadText___init__ : PySem.W.typeIn K (.ref f_BadText___init__) = some (.type "function"))
    (g_WORDS : PySem.W.nsIn K mainGlobals "WORDS" = some (some (.ref aW)))
    (x_WORDS : K.lookup aW = some ⟨.type "tuple", odW, .seq #[.str "same" w1, .str "newer" w2, .str "elder" w3, .str "apart" w4] nW, slW⟩)
    (g_MOST : PySem.W.nsIn K mainGlobals "MOST_STAMPS" = some (some (.int 400 tM)))
    (g_DI : PySem.W.nsIn K mainGlobals "DIGITS" = some (some (.str "0123456789" tDI)))
    (g_MF : PySem.W.nsIn K mainGlobals "MOST_FIGURES" = some (some (.int 9 tMF)))
    (a_Book___eq__ : PySem.W.findIn K (.ref cBook) "__eq__" = some (some (.ref f_Book___eq__)))
    (l_Book___eq__ : K.lookup f_Book___eq__ = some ⟨oc_Book___eq__, od_Book___eq__, .func (PySem.W.fnOf "__eq__" "Book.__eq__" (defArgs s_Book___eq__) (defBody s_Book___eq__) (defScope s_Book___eq__) .none kV_Book___eq__ dc_Book___eq__ pm_Book___eq__ an_Book___eq__ cd_Book___eq__ ct_Book___eq__), sl_Book___eq__⟩)
    (c_Book___eq__ : PySem.W.codeIn K cd_Book___eq__ "Book.__eq__" = true)
    (k_Book___eq__ : PySem.W.keepIn K (.ref f_Book___eq__) = true)
    (i_Book___eq__ : PySem.W.isFn K (.ref f_Book___eq__) = true)
    (cm_Book : PySem.W.mroIn K cBook (.type "object") = some true)
    (ne_Book : PySem.W.findIn K (.ref cBook) "__ne__" = some (some (.builtin "object.__ne__")))
    (ca_Book : PySem.W.findIn K (.ref cBook) "__class__" = some (some (.builtin "object.__class__")))
    (cn_Book : PySem.W.specialIn K (.builtin "object.__class__") "__get__" = some (some (.builtin "getset_descriptor.__get__")))
    (ck_Book : PySem.W.takesIn K (.builtin "object.__class__") = some true)
    (st_Book : PySem.W.subIn K (.ref cBook) (.type "str") = some false)
    (eC_CopyError : PySem.W.subIn K (.ref cCopyError) (.type "BaseException") = some true)
    (tC_CopyError : PySem.W.typeIn K (.ref cCopyError) = some (.type "type"))
    (iC_CopyError : PySem.W.isClsIn K cCopyError = true)
    (s_BadText_CopyError : PySem.W.subIn K (.ref cBadText) (.ref cCopyError) = some true) :
    ∃ fd : FuncData, (∀ (s : Shared) (u : Value), BindsTo s fd ⟨[u], []⟩ [("_law_script", u)]) ∧ ∀ base : Heap, K.In base → base.Ns mainGlobals mg → FnOk l.prog w K mg base (L2.CX l.prog w) 60 fa fd ["_law_script"] (liftSp K spLaw) := by
  have e := hfa.symm.trans (PySem.W.mg_of X G a_law)
  cases e
  have F_is_integer := fun_mk (st := s_is_integer) l_is_integer c_is_integer k_is_integer
  have b_is_integer := F_is_integer.binds (ps := ["thing"]) fun _ _ _ _ _ _ us hl => match us, hl with | [_], _ => rfl
  have F_is_between := fun_mk (st := s_is_between) l_is_between c_is_between k_is_between
  have b_is_between := F_is_between.binds (ps := ["thing", "least", "most"]) fun _ _ _ _ _ _ us hl => match us, hl with | [_, _, _], _ => rfl
  have F_is_tuple_of := fun_mk (st := s_is_tuple_of) l_is_tuple_of c_is_tuple_of k_is_tuple_of
  have b_is_tuple_of := F_is_tuple_of.binds (ps := ["thing", "length"]) fun _ _ _ _ _ _ us hl => match us, hl with | [_, _], _ => rfl
  have F_are_stamps := fun_mk (st := s_are_stamps) l_are_stamps c_are_stamps k_are_stamps
  have b_are_stamps := F_are_stamps.binds (ps := ["thing", "length", "many"]) fun _ _ _ _ _ _ us hl => match us, hl with | [_, _, _], _ => rfl
  have F_are_rows := fun_mk (st := s_are_rows) l_are_rows c_are_rows k_are_rows
  have b_are_rows := F_are_rows.binds (ps := ["thing", "length", "many"]) fun _ _ _ _ _ _ us hl => match us, hl with | [_, _, _], _ => rfl
  have F_are_words := fun_mk (st := s_are_words) l_are_words c_are_words k_are_words
  have b_are_words := F_are_words.binds (ps := ["thing", "length"]) fun _ _ _ _ _ _ us hl => match us, hl with | [_, _], _ => rfl
  have F_are_looks := fun_mk (st := s_are_looks) l_are_looks c_are_looks k_are_looks
  have b_are_looks := F_are_looks.binds (ps := ["thing", "many"]) fun _ _ _ _ _ _ us hl => match us, hl with | [_, _], _ => rfl
  have F_wrong_part := fun_mk (st := s_wrong_part) l_wrong_part c_wrong_part k_wrong_part
  have b_wrong_part := F_wrong_part.binds (ps := ["first", "changes", "forks", "joins", "looks"]) fun _ _ _ _ _ _ us hl => match us, hl with | [_, _, _, _, _], _ => rfl
  have F_line_of := fun_mk (st := s_line_of) l_line_of c_line_of k_line_of
  have b_line_of := F_line_of.binds (ps := ["words"]) fun _ _ _ _ _ _ us hl => match us, hl with | [_], _ => rfl
  have F_table_lines := fun_mk (st := s_table_lines) l_table_lines c_table_lines k_table_lines
  have b_table_lines := F_table_lines.binds (ps := ["word", "rows"]) fun _ _ _ _ _ _ us hl => match us, hl with | [_, _], _ => rfl
  have F_book_text := fun_mk (st := s_book_text) l_book_text c_book_text k_book_text
  have b_book_text := F_book_text.binds (ps := ["book"]) fun _ _ _ _ _ _ us hl => match us, hl with | [_], _ => rfl
  have F_check_text := fun_mk (st := s_check_text) l_check_text c_check_text k_check_text
  have b_check_text := F_check_text.binds (ps := ["thing"]) fun _ _ _ _ _ _ us hl => match us, hl with | [_], _ => rfl
  have F_number_in := fun_mk (st := s_number_in) l_number_in c_number_in k_number_in
  have b_number_in := F_number_in.binds (ps := ["word"]) fun _ _ _ _ _ _ us hl => match us, hl with | [_], _ => rfl
  have F_read_head := fun_mk (st := s_read_head) l_read_head c_read_head k_read_head
  have b_read_head := F_read_head.binds (ps := ["line"]) fun _ _ _ _ _ _ us hl => match us, hl with | [_], _ => rfl
  have F_read_table := fun_mk (st := s_read_table) l_read_table c_read_table k_read_table
  have b_read_table := F_read_table.binds (ps := ["lines", "begin", "word", "length", "meanings", "many"]) fun _ _ _ _ _ _ us hl => match us, hl with | [_, _, _, _, _, _], _ => rfl
  have F_read_book := fun_mk (st := s_read_book) l_read_book c_read_book k_read_book
  have b_read_book := F_read_book.binds (ps := ["text"]) fun _ _ _ _ _ _ us hl => match us, hl with | [_], _ => rfl
  have F__law_hand := fun_mk (st := s__law_hand) l__law_hand c__law_hand k__law_hand
  have b__law_hand := F__law_hand.binds (ps := ["_law_script"]) fun _ _ _ _ _ _ us hl => match us, hl with | [_], _ => rfl
  have F__law_draw := fun_mk (st := s__law_draw) l__law_draw c__law_draw k__law_draw
  have b__law_draw := F__law_draw.binds (ps := ["_law_hand_here", "_law_many"]) fun _ _ _ _ _ _ us hl => match us, hl with | [_, _], _ => rfl
  have F__law_some := fun_mk (st := s__law_some) l__law_some c__law_some k__law_some
  have b__law_some := F__law_some.binds (ps := ["_law_hand_here", "_law_things"]) fun _ _ _ _ _ _ us hl => match us, hl with | [_, _], _ => rfl
  have F__law_is := fun_mk (st := s__law_is) l__law_is c__law_is k__law_is
  have b__law_is := F__law_is.binds (ps := ["_law_told_here", "_law_due"]) fun _ _ _ _ _ _ us hl => match us, hl with | [_, _], _ => rfl
  have F__law_deep := fun_mk (st := s__law_deep) l__law_deep c__law_deep k__law_deep
  have b__law_deep := F__law_deep.binds (ps := ["_law_kind"]) fun _ _ _ _ _ _ us hl => match us, hl with | [_], _ => rfl
  have F__law_words := fun_mk (st := s__law_words) l__law_words c__law_words k__law_words
  have b__law_words := F__law_words.binds (ps := []) fun _ _ _ _ _ _ us hl => match us, hl with | [], _ => rfl
  have F__law_parts := fun_mk (st := s__law_parts) l__law_parts c__law_parts k__law_parts
  have b__law_parts := F__law_parts.binds (ps := ["_law_hand_here", "_law_many"]) fun _ _ _ _ _ _ us hl => match us, hl with | [_, _], _ => rfl
  have F__law_book := fun_mk (st := s__law_book) l__law_book c__law_book k__law_book
  have b__law_book := F__law_book.binds (ps := ["_law_parts_here"]) fun _ _ _ _ _ _ us hl => match us, hl with | [_], _ => rfl
  have F__law_number := fun_mk (st := s__law_number) l__law_number c__law_number k__law_number
  have b__law_number := F__law_number.binds (ps := ["_law_word"]) fun _ _ _ _ _ _ us hl => match us, hl with | [_], _ => rfl
  have F__law_numbers := fun_mk (st := s__law_numbers) l__law_numbers c__law_numbers k__law_numbers
  have b__law_numbers := F__law_numbers.binds (ps := ["_law_words_here", "_law_many"]) fun _ _ _ _ _ _ us hl => match us, hl with | [_, _], _ => rfl
  have F__law_book_text := fun_mk (st := s__law_book_text) l__law_book_text c__law_book_text k__law_book_text
  have b__law_book_text := F__law_book_text.binds (ps := ["_law_parts_here"]) fun _ _ _ _ _ _ us hl => match us, hl with | [_], _ => rfl
  have F__law_first_line := fun_mk (st := s__law_first_line) l__law_first_line c__law_first_line k__law_first_line
  have b__law_first_line := F__law_first_line.binds (ps := ["_law_line"]) fun _ _ _ _ _ _ us hl => match us, hl with | [_], _ => rfl
  have F__law_row_of := fun_mk (st := s__law_row_of) l__law_row_of c__law_row_of k__law_row_of
  have b__law_row_of := F__law_row_of.binds (ps := ["_law_line", "_law_word", "_law_stamp", "_law_many", "_law_wide"]) fun _ _ _ _ _ _ us hl => match us, hl with | [_, _, _, _, _], _ => rfl
  have F__law_looks_of := fun_mk (st := s__law_looks_of) l__law_looks_of c__law_looks_of k__law_looks_of
  have b__law_looks_of := F__law_looks_of.binds (ps := ["_law_line", "_law_stamp", "_law_many"]) fun _ _ _ _ _ _ us hl => match us, hl with | [_, _, _], _ => rfl
  have F__law_read_rows := fun_mk (st := s__law_read_rows) l__law_read_rows c__law_read_rows k__law_read_rows
  have b__law_read_rows := F__law_read_rows.binds (ps := ["_law_lines", "_law_many"]) fun _ _ _ _ _ _ us hl => match us, hl with | [_, _], _ => rfl
  have F__law_read_book := fun_mk (st := s__law_read_book) l__law_read_book c__law_read_book k__law_read_book
  have b__law_read_book := F__law_read_book.binds (ps := ["_law_text"]) fun _ _ _ _ _ _ us hl => match us, hl with | [_], _ => rfl
  have F__law_told := fun_mk (st := s__law_told) l__law_told c__law_told k__law_told
  have b__law_told := F__law_told.binds (ps := ["_law_text"]) fun _ _ _ _ _ _ us hl => match us, hl with | [_], _ => rfl
  have F__law_bent := fun_mk (st := s__law_bent) l__law_bent c__law_bent k__law_bent
  have b__law_bent := F__law_bent.binds (ps := ["_law_hand_here", "_law_text"]) fun _ _ _ _ _ _ us hl => match us, hl with | [_, _], _ => rfl
  have F__law_great_right := fun_mk (st := s__law_great_right) l__law_great_right c__law_great_right k__law_great_right
  have b__law_great_right := F__law_great_right.binds (ps := ["_law_hand_here"]) fun _ _ _ _ _ _ us hl => match us, hl with | [_], _ => rfl
  have F_law := fun_mk (st := s_law) l_law c_law k_law
  have b_law := F_law.binds (ps := ["_law_script"]) fun _ _ _ _ _ _ us hl => match us, hl with | [_], _ => rfl
  have F_Book___init__ := fun_mk (st := s_Book___init__) l_Book___init__ c_Book___init__ k_Book___init__
  have b_Book___init__ := F_Book___init__.binds (ps := ["self", "first", "changes", "forks", "joins", "looks"]) fun _ _ _ _ _ _ us hl => match us, hl with | [_, _, _, _, _, _], _ => rfl
  have F_BadText___init__ := fun_mk (st := s_BadText___init__) l_BadText___init__ c_BadText___init__ k_BadText___init__
  have b_BadText___init__ := F_BadText___init__.binds (ps := ["self", "line"]) fun _ _ _ _ _ _ us hl => match us, hl with | [_, _], _ => rfl
  have F_Book___eq__ := fun_mk (st := s_Book___eq__) l_Book___eq__ c_Book___eq__ k_Book___eq__
  have b_Book___eq__ := F_Book___eq__.binds (ps := ["self", "other"]) fun _ _ _ _ _ _ us hl => match us, hl with | [_, _], _ => rfl
  have T : Txt K mg cCopyError cBadText cBook := {
    b_ValueError := PySem.W.mg_none_of X G z_ValueError,
    b_abs := PySem.W.mg_none_of X G z_abs,
    b_all := PySem.W.mg_none_of X G z_all,
    b_any := PySem.W.mg_none_of X G z_any,
    b_bool := PySem.W.mg_none_of X G z_bool,
    b_dict := PySem.W.mg_none_of X G z_dict,
    b_enumerate := PySem.W.mg_none_of X G z_enumerate,
    b_int := PySem.W.mg_none_of X G z_int,
    b_isinstance := PySem.W.mg_none_of X G z_isinstance,
    b_len := PySem.W.mg_none_of X G z_len,
    b_list := PySem.W.mg_none_of X G z_list,
    b_max := PySem.W.mg_none_of X G z_max,
    b_min := PySem.W.mg_none_of X G z_min,
    b_range := PySem.W.mg_none_of X G z_range,
    b_set := PySem.W.mg_none_of X G z_set,
    b_sorted := PySem.W.mg_none_of X G z_sorted,
    b_str := PySem.W.mg_none_of X G z_str,
    b_sum := PySem.W.mg_none_of X G z_sum,
    b_tuple := PySem.W.mg_none_of X G z_tuple,
    b_type := PySem.W.mg_none_of X G z_type,
    d_is_integer := ⟨_, _, F_is_integer, PySem.W.mg_of X G a_is_integer, k_is_integer, b_is_integer⟩,
    d_is_between := ⟨_, _, F_is_between, PySem.W.mg_of X G a_is_between, k_is_between, b_is_between⟩,
    d_is_tuple_of := ⟨_, _, F_is_tuple_of, PySem.W.mg_of X G a_is_tuple_of, k_is_tuple_of, b_is_tuple_of⟩,
    d_are_stamps := ⟨_, _, F_are_stamps, PySem.W.mg_of X G a_are_stamps, k_are_stamps, b_are_stamps⟩,
    d_are_rows := ⟨_, _, F_are_rows, PySem.W.mg_of X G a_are_rows, k_are_rows, b_are_rows⟩,
    d_are_words := ⟨_, _, F_are_words, PySem.W.mg_of X G a_are_words, k_are_words, b_are_words⟩,
    d_are_looks := ⟨_, _, F_are_looks, PySem.W.mg_of X G a_are_looks, k_are_looks, b_are_looks⟩,
    d_wrong_part := ⟨_, _, F_wrong_part, PySem.W.mg_of X G a_wrong_part, k_wrong_part, b_wrong_part⟩,
    d_line_of := ⟨_, _, F_line_of, PySem.W.mg_of X G a_line_of, k_line_of, b_line_of⟩,
    d_table_lines := ⟨_, _, F_table_lines, PySem.W.mg_of X G a_table_lines, k_table_lines, b_table_lines⟩,
    d_book_text := ⟨_, _, F_book_text, PySem.W.mg_of X G a_book_text, k_book_text, b_book_text⟩,
    d_check_text := ⟨_, _, F_check_text, PySem.W.mg_of X G a_check_text, k_check_text, b_check_text⟩,
    d_number_in := ⟨_, _, F_number_in, PySem.W.mg_of X G a_number_in, k_number_in, b_number_in⟩,
    d_read_head := ⟨_, _, F_read_head, PySem.W.mg_of X G a_read_head, k_read_head, b_read_head⟩,
    d_read_table := ⟨_, _, F_read_table, PySem.W.mg_of X G a_read_table, k_read_table, b_read_table⟩,
    d_read_book := ⟨_, _, F_read_book, PySem.W.mg_of X G a_read_book, k_read_book, b_read_book⟩,
    d__law_hand := ⟨_, _, F__law_hand, PySem.W.mg_of X G a__law_hand, k__law_hand, b__law_hand⟩,
    d__law_draw := ⟨_, _, F__law_draw, PySem.W.mg_of X G a__law_draw, k__law_draw, b__law_draw⟩,
    d__law_some := ⟨_, _, F__law_some, PySem.W.mg_of X G a__law_some, k__law_some, b__law_some⟩,
    d__law_is := ⟨_, _, F__law_is, PySem.W.mg_of X G a__law_is, k__law_is, b__law_is⟩,
    d__law_deep := ⟨_, _, F__law_deep, PySem.W.mg_of X G a__law_deep, k__law_deep, b__law_deep⟩,
    d__law_words := ⟨_, _, F__law_words, PySem.W.mg_of X G a__law_words, k__law_words, b__law_words⟩,
    d__law_parts := ⟨_, _, F__law_parts, PySem.W.mg_of X G a__law_parts, k__law_parts, b__law_parts⟩,
    d__law_book := ⟨_, _, F__law_book, PySem.W.mg_of X G a__law_book, k__law_book, b__law_book⟩,
    d__law_number := ⟨_, _, F__law_number, PySem.W.mg_of X G a__law_number, k__law_number, b__law_number⟩,
    d__law_numbers := ⟨_, _, F__law_numbers, PySem.W.mg_of X G a__law_numbers, k__law_numbers, b__law_numbers⟩,
    d__law_book_text := ⟨_, _, F__law_book_text, PySem.W.mg_of X G a__law_book_text, k__law_book_text, b__law_book_text⟩,
    d__law_first_line := ⟨_, _, F__law_first_line, PySem.W.mg_of X G a__law_first_line, k__law_first_line, b__law_first_line⟩,
    d__law_row_of := ⟨_, _, F__law_row_of, PySem.W.mg_of X G a__law_row_of, k__law_row_of, b__law_row_of⟩,
    d__law_looks_of := ⟨_, _, F__law_looks_of, PySem.W.mg_of X G a__law_looks_of, k__law_looks_of, b__law_looks_of⟩,
    d__law_read_rows := ⟨_, _, F__law_read_rows, PySem.W.mg_of X G a__law_read_rows, k__law_read_rows, b__law_read_rows⟩,
    d__law_read_book := ⟨_, _, F__law_read_book, PySem.W.mg_of X G a__law_read_book, k__law_read_book, b__law_read_book⟩,
    d__law_told := ⟨_, _, F__law_told, PySem.W.mg_of X G a__law_told, k__law_told, b__law_told⟩,
    d__law_bent := ⟨_, _, F__law_bent, PySem.W.mg_of X G a__law_bent, k__law_bent, b__law_bent⟩,
    d__law_great_right := ⟨_, _, F__law_great_right, PySem.W.mg_of X G a__law_great_right, k__law_great_right, b__law_great_right⟩,
    d_law := ⟨_, _, F_law, PySem.W.mg_of X G a_law, k_law, b_law⟩,
    f_first := fun C e => by rw [e]; exact ⟨⟨pg_Book, hd_Book, po_Book, sa_Book⟩, no_Book_first⟩,
    f_changes := fun C e => by rw [e]; exact ⟨⟨pg_Book, hd_Book, po_Book, sa_Book⟩, no_Book_changes⟩,
    f_forks := fun C e => by rw [e]; exact ⟨⟨pg_Book, hd_Book, po_Book, sa_Book⟩, no_Book_forks⟩,
    f_joins := fun C e => by rw [e]; exact ⟨⟨pg_Book, hd_Book, po_Book, sa_Book⟩, no_Book_joins⟩,
    f_looks := fun C e => by rw [e]; exact ⟨⟨pg_Book, hd_Book, po_Book, sa_Book⟩, no_Book_looks⟩,
    d_Book___init__ := ⟨_, _, F_Book___init__, ⟨mk_Book, a_Book___init__, i_Book___init__, kc_Book⟩, PySem.W.mg_of X G g_Book, b_Book___init__⟩,
    d_BadText___init__ := ⟨_, _, F_BadText___init__, ⟨⟨kC_BadText, eC_BadText, tC_BadText⟩, ⟨_, _, _, _, _, _, _, _, _, _, _, _, _, _, _, x_BadText, rv_BadText⟩, sa_BadText, nb_BadText, a_BadText___init__, t_BadText___init__⟩, b_BadText___init__⟩,
    c_BadText := PySem.W.mg_of X G g_BadText,
    k_WORDS := ⟨.ref aW, .ref aW, PySem.W.mg_of X G g_WORDS, rfl, fun φ H => by rw [RD]; exact ⟨aW, [.str "same", .str "newer", .str "elder", .str "apart"], rfl, .inr ⟨_, _, _, x_WORDS, rfl, rfl, small (Nat.le_of_ble_eq_true rfl), .cons ⟨_, rfl⟩ (.cons ⟨_, rfl⟩ (.cons ⟨_, rfl⟩ (.cons ⟨_, rfl⟩ .nil)))⟩, by simp only [List.map_cons, List.map_nil, RDs, RD]; exact ⟨_, _, rfl, rfl, _, _, rfl, rfl, _, _, rfl, rfl, _, _, rfl, rfl, rfl⟩⟩⟩,
    k_MOST_STAMPS := ⟨.int 400, .int 400 tM, PySem.W.mg_of X G g_MOST, ⟨tM, rfl⟩, fun φ H => by rw [RD]⟩,
    k_DIGITS := ⟨.str "0123456789", .str "0123456789" tDI, PySem.W.mg_of X G g_DI, ⟨tDI, rfl⟩, fun φ H => by rw [RD]⟩,
    k_MOST_FIGURES := ⟨.int 9, .int 9 tMF, PySem.W.mg_of X G g_MF, ⟨tMF, rfl⟩, fun φ H => by rw [RD]⟩,
    d_Book___eq__ := ⟨_, _, F_Book___eq__, a_Book___eq__, i_Book___eq__, b_Book___eq__, cm_Book, ne_Book⟩,
    c_Book := PySem.W.mg_of X G g_Book,
    o_Book := ⟨⟨pg_Book, hd_Book, po_Book, sa_Book⟩, ca_Book, cn_Book, ck_Book, cm_Book, kit_self⟩,
    s_Book := ⟨⟨pg_Book, hd_Book, po_Book, sa_Book⟩, ca_Book, cn_Book, ck_Book, cm_Book, kit_str st_Book⟩,
    n_Book := by unfold PySem.W.notFirst; simp,
    c_CopyError := PySem.W.mg_of X G g_CopyError,
    em_Copy := fun C hC => by
      simp only [List.mem_cons, List.not_mem_nil, or_false] at hC
      rw [hC]; exact exm_of eC_CopyError iC_CopyError tC_CopyError s_BadText_CopyError,
    xiT := ⟨iC_BadText, ga_BadText, gg_BadText, eC_BadText, ca_BadText, cn_BadText, ck_BadText, cm_BadText⟩,
    kitT := kt_tab (fun n b hm => by
        simp only [List.mem_cons, Prod.mk.injEq, D.ty.injEq, reduceCtorEq, false_and, or_false, List.not_mem_nil] at hm
        rw [hm.1, hm.2]
        exact kit_ty_of vC_BadText) (fun n b hm => by
        simp only [List.mem_cons, Prod.mk.injEq, D.cls.injEq, reduceCtorEq, false_and, false_or, or_false, List.not_mem_nil] at hm
        rw [hm.1, hm.2]
        exact kit_self),
    xf := ⟨ga_BadText, gg_BadText, eC_BadText, hC_BadText⟩,
    nof := nb_BadText }
  exact ⟨PySem.W.fnOf "law" "law" (defArgs s_law) (defBody s_law) (defScope s_law) .none kV_law dc_law pm_law an_law cd_law ct_law, fun s u => .of_eq rfl, fun base _ _ => okF_law T (ok__law_hand T) (ok__law_draw T) (ok__law_great_right T (ok__law_words T) (ok__law_draw T) (ok__law_book_text T) (ok_book_text T (ok_table_lines T (ok_line_of T))) (ok__law_book T (ok_Book___init__ T (ok_wrong_part T (ok_are_stamps T (ok_is_tuple_of T) (ok_is_between T (ok_is_integer T))) (ok_is_between T (ok_is_integer T)) (ok_are_rows T (ok_is_tuple_of T) (ok_are_stamps T (ok_is_tuple_of T) (ok_is_between T (ok_is_integer T)))) (ok_are_looks T (ok_is_tuple_of T) (ok_are_words T (ok_is_tuple_of T)))))) (ok__law_told T (ok_read_book T (ok_check_text T (ok_BadText T)) (ok_read_head T (ok_number_in T) (ok_BadText T)) (ok_read_table T (ok_BadText T)) (ok_BadText T) (ok_Book___init__ T (ok_wrong_part T (ok_are_stamps T (ok_is_tuple_of T) (ok_is_between T (ok_is_integer T))) (ok_is_between T (ok_is_integer T)) (ok_are_rows T (ok_is_tuple_of T) (ok_are_stamps T (ok_is_tuple_of T) (ok_is_between T (ok_is_integer T)))) (ok_are_looks T (ok_is_tuple_of T) (ok_are_words T (ok_is_tuple_of T)))))))) (ok__law_parts T (ok__law_draw T) (ok__law_words T) (ok__law_some T (ok__law_draw T))) (ok__law_book_text T) (ok__law_book T (ok_Book___init__ T (ok_wrong_part T (ok_are_stamps T (ok_is_tuple_of T) (ok_is_between T (ok_is_integer T))) (ok_is_between T (ok_is_integer T)) (ok_are_rows T (ok_is_tuple_of T) (ok_are_stamps T (ok_is_tuple_of T) (ok_is_between T (ok_is_integer T)))) (ok_are_looks T (ok_is_tuple_of T) (ok_are_words T (ok_is_tuple_of T)))))) (ok_is T 5) (ok_book_text T (ok_table_lines T (ok_line_of T))) (ok_read_book T (ok_check_text T (ok_BadText T)) (ok_read_head T (ok_number_in T) (ok_BadText T)) (ok_read_table T (ok_BadText T)) (ok_BadText T) (ok_Book___init__ T (ok_wrong_part T (ok_are_stamps T (ok_is_tuple_of T) (ok_is_between T (ok_is_integer T))) (ok_is_between T (ok_is_integer T)) (ok_are_rows T (ok_is_tuple_of T) (ok_are_stamps T (ok_is_tuple_of T) (ok_is_between T (ok_is_integer T)))) (ok_are_looks T (ok_is_tuple_of T) (ok_are_words T (ok_is_tuple_of T)))))) (ok__law_told T (ok_read_book T (ok_check_text T (ok_BadText T)) (ok_read_head T (ok_number_in T) (ok_BadText T)) (ok_read_table T (ok_BadText T)) (ok_BadText T) (ok_Book___init__ T (ok_wrong_part T (ok_are_stamps T (ok_is_tuple_of T) (ok_is_between T (ok_is_integer T))) (ok_is_between T (ok_is_integer T)) (ok_are_rows T (ok_is_tuple_of T) (ok_are_stamps T (ok_is_tuple_of T) (ok_is_between T (ok_is_integer T)))) (ok_are_looks T (ok_is_tuple_of T) (ok_are_words T (ok_is_tuple_of T))))))) (ok__law_bent T (ok__law_draw T) (ok__law_some T (ok__law_draw T))) (ok__law_read_book T (ok__law_first_line T (ok__law_number T) (ok__law_numbers T (ok__law_number T))) (ok__law_read_rows T (ok__law_row_of T (ok__law_numbers T (ok__law_number T)))) (ok__law_looks_of T (ok__law_number T))) (ok__law_some T (ok__law_draw T)) (ok__law_deep T) (ok_Book___eq__ T) F_law⟩
end K54
open PySem PySem.W PyProof.Rows in
set_option maxRecDepth 100000 in
set_option maxHeartbeats 0 in
theorem PySem.Challenge.cw_threecopies_k54_whole_texts_of_books_holds : PySem.Challenge.rw_threecopies_k54_whole_texts_of_books.Holds := by
  w_on; o_law; k_head; (case hw => w_witness2)
  k_fill
  refine Dy.dy_walkX "_law_script" (l := PySem.Challenge.rw_threecopies_k54_whole_texts_of_books) (k := 60) rfl rfl ⟨rfl, by decide, by decide⟩ (fun w h Y => PySem.W.kIn_of Y) ?F
  case F =>
    intro w mg fa h KX G hmg
    refine' K54.all_mk KX G hmg ?z_ValueError ?z_abs ?z_all ?z_any ?z_bool ?z_dict ?z_enumerate ?z_int ?z_isinstance ?z_len ?z_list ?z_max ?z_min ?z_range ?z_set ?z_sorted ?z_str ?z_sum ?z_tuple ?z_type ?a_is_integer ?l_is_integer ?c_is_integer ?k_is_integer ?a_is_between ?l_is_between ?c_is_between ?k_is_between ?a_is_tuple_of ?l_is_tuple_of ?c_is_tuple_of ?k_is_tuple_of ?a_are_stamps ?l_are_stamps ?c_are_stamps ?k_are_stamps ?a_are_rows ?l_are_rows ?c_are_rows ?k_are_rows ?a_are_words ?l_are_words ?c_are_words ?k_are_words ?a_are_looks ?l_are_looks ?c_are_looks ?k_are_looks ?a_wrong_part ?l_wrong_part ?c_wrong_part ?k_wrong_part ?a_line_of ?l_line_of ?c_line_of ?k_line_of ?a_table_lines ?l_table_lines ?c_table_lines ?k_table_lines ?a_book_text ?l_book_text ?c_book_text ?k_book_text ?a_check_text ?l_check_text ?c_check_text ?k_check_text ?a_number_in ?l_number_in ?c_number_in ?k_number_in ?a_read_head ?l_read_head ?c_read_head ?k_read_head ?a_read_table ?l_read_table ?c_read_table ?k_read_table ?a_read_book ?l_read_book ?c_read_book ?k_read_book ?a__law_hand ?l__law_hand ?c__law_hand ?k__law_hand ?a__law_draw ?l__law_draw ?c__law_draw ?k__law_draw ?a__law_some ?l__law_some ?c__law_some ?k__law_some ?a__law_is ?l__law_is ?c__law_is ?k__law_is ?a__law_deep ?l__law_deep ?c__law_deep ?k__law_deep ?a__law_words ?l__law_words ?c__law_words ?k__law_words ?a__law_parts ?l__law_parts ?c__law_parts ?k__law_parts ?a__law_book ?l__law_book ?c__law_book ?k__law_book ?a__law_number ?l__law_number ?c__law_number ?k__law_number ?a__law_numbers ?l__law_numbers ?c__law_numbers ?k__law_numbers ?a__law_book_text ?l__law_book_text ?c__law_book_text ?k__law_book_text ?a__law_first_line ?l__law_first_line ?c__law_first_line ?k__law_first_line ?a__law_row_of ?l__law_row_of ?c__law_row_of ?k__law_row_of ?a__law_looks_of ?l__law_looks_of ?c__law_looks_of ?k__law_looks_of ?a__law_read_rows ?l__law_read_rows ?c__law_read_rows ?k__law_read_rows ?a__law_read_book ?l__law_read_book ?c__law_read_book ?k__law_read_book ?a__law_told ?l__law_told ?c__law_told ?k__law_told ?a__law_bent ?l__law_bent ?c__law_bent ?k__law_bent ?a__law_great_right ?l__law_great_right ?c__law_great_right ?k__law_great_right ?a_law ?l_law ?c_law ?k_law ?g_CopyError ?g_BadText ?g_Book ?pg_Book ?hd_Book ?po_Book ?sa_Book ?mk_Book ?kc_Book ?no_Book_first ?no_Book_changes ?no_Book_forks ?no_Book_joins ?no_Book_looks ?a_Book___init__ ?l_Book___init__ ?c_Book___init__ ?k_Book___init__ ?i_Book___init__ ?x_BadText ?sa_BadText ?ga_BadText ?gg_BadText ?nb_BadText ?kC_BadText ?eC_BadText ?tC_BadText ?hC_BadText ?iC_BadText ?sC_BadText ?vC_BadText ?ca_BadText ?cn_BadText ?ck_BadText ?cm_BadText ?rv_BadText ?a_BadText___init__ ?l_BadText___init__ ?c_BadText___init__ ?k_BadText___init__ ?t_BadText___init__ ?g_WORDS ?x_WORDS ?g_MOST ?g_DI ?g_MF ?a_Book___eq__ ?l_Book___eq__ ?c_Book___eq__ ?k_Book___eq__ ?i_Book___eq__ ?cm_Book ?ne_Book ?ca_Book ?cn_Book ?ck_Book ?st_Book ?eC_CopyError ?tC_CopyError ?iC_CopyError ?s_BadText_CopyError
    (case z_ValueError => k_is)
    (case z_abs => k_is)
    (case z_all => k_is)
    (case z_any => k_is)
    (case z_bool => k_is)
    (case z_dict => k_is)
    (case z_enumerate => k_is)
    (case z_int => k_is)
    (case z_isinstance => k_is)
    (case z_len => k_is)
    (case z_list => k_is)
    (case z_max => k_is)
    (case z_min => k_is)
    (case z_range => k_is)
    (case z_set => k_is)
    (case z_sorted => k_is)
    (case z_str => k_is)
    (case z_sum => k_is)
    (case z_tuple => k_is)
    (case z_type => k_is)
    (case a_is_integer => k_is)
    (case l_is_integer => k_is)
    (case c_is_integer => k_is)
    (case k_is_integer => k_is)
    (case a_is_between => k_is)
    (case l_is_between => k_is)
    (case c_is_between => k_is)
    (case k_is_between => k_is)
    (case a_is_tuple_of => k_is)
    (case l_is_tuple_of => k_is)
    (case c_is_tuple_of => k_is)
    (case k_is_tuple_of => k_is)
    (case a_are_stamps => k_is)
    (case l_are_stamps => k_is)
    (case c_are_stamps => k_is)
    (case k_are_stamps => k_is)
    (case a_are_rows => k_is)
    (case l_are_rows => k_is)
    (case c_are_rows => k_is)
    (case k_are_rows => k_is)
    (case a_are_words => k_is)
    (case l_are_words => k_is)
    (case c_are_words => k_is)
    (case k_are_words => k_is)
    (case a_are_looks => k_is)
    (case l_are_looks => k_is)
    (case c_are_looks => k_is)
    (case k_are_looks => k_is)
    (case a_wrong_part => k_is)
    (case l_wrong_part => k_is)
    (case c_wrong_part => k_is)
    (case k_wrong_part => k_is)
    (case a_line_of => k_is)
    (case l_line_of => k_is)
    (case c_line_of => k_is)
    (case k_line_of => k_is)
    (case a_table_lines => k_is)
    (case l_table_lines => k_is)
    (case c_table_lines => k_is)
    (case k_table_lines => k_is)
    (case a_book_text => k_is)
    (case l_book_text => k_is)
    (case c_book_text => k_is)
    (case k_book_text => k_is)
    (case a_check_text => k_is)
    (case l_check_text => k_is)
    (case c_check_text => k_is)
    (case k_check_text => k_is)
    (case a_number_in => k_is)
    (case l_number_in => k_is)
    (case c_number_in => k_is)
    (case k_number_in => k_is)
    (case a_read_head => k_is)
    (case l_read_head => k_is)
    (case c_read_head => k_is)
    (case k_read_head => k_is)
    (case a_read_table => k_is)
    (case l_read_table => k_is)
    (case c_read_table => k_is)
    (case k_read_table => k_is)
    (case a_read_book => k_is)
    (case l_read_book => k_is)
    (case c_read_book => k_is)
    (case k_read_book => k_is)
    (case a__law_hand => k_is)
    (case l__law_hand => k_is)
    (case c__law_hand => k_is)
    (case k__law_hand => k_is)
    (case a__law_draw => k_is)
    (case l__law_draw => k_is)
    (case c__law_draw => k_is)
    (case k__law_draw => k_is)
    (case a__law_some => k_is)
    (case l__law_some => k_is)
    (case c__law_some => k_is)
    (case k__law_some => k_is)
    (case a__law_is => k_is)
    (case l__law_is => k_is)
    (case c__law_is => k_is)
    (case k__law_is => k_is)
    (case a__law_deep => k_is)
    (case l__law_deep => k_is)
    (case c__law_deep => k_is)
    (case k__law_deep => k_is)
    (case a__law_words => k_is)
    (case l__law_words => k_is)
    (case c__law_words => k_is)
    (case k__law_words => k_is)
    (case a__law_parts => k_is)
    (case l__law_parts => k_is)
    (case c__law_parts => k_is)
    (case k__law_parts => k_is)
    (case a__law_book => k_is)
    (case l__law_book => k_is)
    (case c__law_book => k_is)
    (case k__law_book => k_is)
    (case a__law_number => k_is)
    (case l__law_number => k_is)
    (case c__law_number => k_is)
    (case k__law_number => k_is)
    (case a__law_numbers => k_is)
    (case l__law_numbers => k_is)
    (case c__law_numbers => k_is)
    (case k__law_numbers => k_is)
    (case a__law_book_text => k_is)
    (case l__law_book_text => k_is)
    (case c__law_book_text => k_is)
    (case k__law_book_text => k_is)
    (case a__law_first_line => k_is)
    (case l__law_first_line => k_is)
    (case c__law_first_line => k_is)
    (case k__law_first_line => k_is)
    (case a__law_row_of => k_is)
    (case l__law_row_of => k_is)
    (case c__law_row_of => k_is)
    (case k__law_row_of => k_is)
    (case a__law_looks_of => k_is)
    (case l__law_looks_of => k_is)
    (case c__law_looks_of => k_is)
    (case k__law_looks_of => k_is)
    (case a__law_read_rows => k_is)
    (case l__law_read_rows => k_is)
    (case c__law_read_rows => k_is)
    (case k__law_read_rows => k_is)
    (case a__law_read_book => k_is)
    (case l__law_read_book => k_is)
    (case c__law_read_book => k_is)
    (case k__law_read_book => k_is)
    (case a__law_told => k_is)
    (case l__law_told => k_is)
    (case c__law_told => k_is)
    (case k__law_told => k_is)
    (case a__law_bent => k_is)
    (case l__law_bent => k_is)
    (case c__law_bent => k_is)
    (case k__law_bent => k_is)
    (case a__law_great_right => k_is)
    (case l__law_great_right => k_is)
    (case c__law_great_right => k_is)
    (case k__law_great_right => k_is)
    (case a_law => k_is)
    (case l_law => k_is)
    (case c_law => k_is)
    (case k_law => k_is)
    (case g_CopyError => k_is)
    (case g_BadText => k_is)
    (case g_Book => k_is)
    (case pg_Book => k_is)
    (case hd_Book => k_is)
    (case po_Book => k_is)
    (case sa_Book => k_is)
    (case mk_Book => k_is)
    (case kc_Book => k_is)
    (case no_Book_first => k_is)
    (case no_Book_changes => k_is)
    (case no_Book_forks => k_is)
    (case no_Book_joins => k_is)
    (case no_Book_looks => k_is)
    (case a_Book___init__ => k_is)
    (case l_Book___init__ => k_is)
    (case c_Book___init__ => k_is)
    (case k_Book___init__ => k_is)
    (case i_Book___init__ => k_is)
    (case x_BadText => k_is)
    (case sa_BadText => k_is)
    (case ga_BadText => k_is)
    (case gg_BadText => k_is)
    (case nb_BadText => k_is)
    (case kC_BadText => k_is)
    (case eC_BadText => k_is)
    (case tC_BadText => k_is)
    (case hC_BadText => k_is)
    (case iC_BadText => k_is)
    (case sC_BadText => k_is)
    (case vC_BadText => k_is)
    (case ca_BadText => k_is)
    (case cn_BadText => k_is)
    (case ck_BadText => k_is)
    (case cm_BadText => k_is)
    (case rv_BadText => decide +kernel)
    (case a_BadText___init__ => k_is)
    (case l_BadText___init__ => k_is)
    (case c_BadText___init__ => k_is)
    (case k_BadText___init__ => k_is)
    (case t_BadText___init__ => k_is)
    (case g_WORDS => k_is)
    (case x_WORDS => k_is)
    (case g_MOST => k_is)
    (case g_DI => k_is)
    (case g_MF => k_is)
    (case a_Book___eq__ => k_is)
    (case l_Book___eq__ => k_is)
    (case c_Book___eq__ => k_is)
    (case k_Book___eq__ => k_is)
    (case i_Book___eq__ => k_is)
    (case cm_Book => k_is)
    (case ne_Book => k_is)
    (case ca_Book => k_is)
    (case cn_Book => k_is)
    (case ck_Book => k_is)
    (case st_Book => k_is)
    (case eC_CopyError => k_is)
    (case tC_CopyError => k_is)
    (case iC_CopyError => k_is)
    (case s_BadText_CopyError => k_is)
