import PyProof.Rows.All
import Wide.All
import OpenK.AllK
import Wide.FinOn
import HandS.ForMost
import HandS.WordsExc
import HandS.ExcInit
import HandS.IsInst
import HandS.Nested
import HandS.Wide
import HandS.TupAny
import HandS.TupMul
import HandS.TryOnly
import HandS.ExcField
import HandS.Style
import HandS.SetFor
import HandS.Small
import HandS.ExcIs
import KE.KExcIs
import KE.DataEq
import KE.Datum
import PyProof.EqKinds
import HandS.Dict
import HandS.More
import HandS.Conv
import HandS.SortInts
import HandS.Iter
import KE.GoesMore
import KE.GoesEnum
import HandS.Strs
import HandS.WrittenGet
import HandS.NamedTupSort
import HandS.TupSets
import PyProof.TupleOfSeq
import HandS.Text
import HandS.OwnEq
import PyProof.InstEq
import HandS.DictComp
import HandS.WideBits
import HandS.Steps
import HandS.Star
import PyProof.StrBlock2
import HandS.NestedK
import HandS.EndTab
import HandS.ExcValue
import HandS.HotCalls
import HandS.ExcCtx
import PySem.Challenge.RW_threecopies_k00_errors_of_the_package
set_option Elab.async false
set_option linter.all false
set_option maxRecDepth 100000
set_option maxHeartbeats 4000000
namespace Dy
open PySem PySem.Spec PyProof.Rows L2
/-- a value as a tree; exo: a caught error at a, its own dict at d; lst, dic: a list, a dict that is never changed any more; ref: the n-th object that may change -/
inductive D where
  | non | bl (b : Bool) | int (i : Int) | str (x : Str) | ty (n : String)
  | tup (xs : List D) | lst (xs : List D) | frz (xs : List D) | dic (ks : List Key) (xs : List D) | ref (n : Nat) | cls (C : Addr)
  | exo (a d : Addr) (ks : List Str) (xs : List D)
  | im (T : Addr → List (Addr × HO) → List V → Prop) (xs : List D)
/-- l: the objects that may change; b: lists that are being made -/
structure Al where
  l : List Addr
  b : List Addr
abbrev Al.push (φ : Al) (p : Addr) : Al := ⟨φ.l ++ [p], φ.b⟩
/-- a list that is read and never changed -/
def LsF (φ : Al) (H : Hp) (a : Addr) (vs : List V) : Prop := H a = some (.lst vs) ∧ a ∉ φ.l ∧ a ∉ φ.b
/-- a list that nobody can change: the script, a constant of the module -/
def FrF (K : PySem.W.Frag) (H : Hp) (a : Addr) (vs : List V) : Prop := (∃ o, H a = some (.frz o (.lst vs))) ∨ SqL K (fun _ => none) a vs
def DcF (φ : Al) (H : Hp) (a : Addr) (kvs : List (Key × V)) : Prop := H a = some (.dK kvs) ∧ a ∉ φ.l ∧ a ∉ φ.b
/-- an object that is looked after and never changed -/
def KpF (φ : Al) (H : Hp) (p : Addr × HO) : Prop := H p.1 = some p.2 ∧ p.1 ∉ φ.l ∧ p.1 ∉ φ.b
mutual
def RD (K : PySem.W.Frag) (φ : Al) (H : Hp) : D → V → Prop
  | .non, v => v = .non
  | .bl b, v => v = .bl b
  | .int i, v => v = .int i
  | .str x, v => v = .str x
  | .ty n, v => v = .ty n
  | .tup xs, v => ∃ a vs, v = .ref a ∧ SqT K H a vs ∧ RDs K φ H xs vs
  | .lst xs, v => ∃ a vs, v = .ref a ∧ LsF φ H a vs ∧ RDs K φ H xs vs
  | .frz xs, v => ∃ a vs, v = .ref a ∧ FrF K H a vs ∧ RDs K φ H xs vs
  | .dic ks xs, v => ∃ a vs, v = .ref a ∧ DcF φ H a (ks.zip vs) ∧ ks.length = vs.length ∧ RDs K φ H xs vs
  | .ref n, v => ∃ a, v = .ref a ∧ φ.l[n]? = some a
  | .cls C, v => v = .ref C
  | .exo a d ks xs, v => ∃ vs, v = .ref a ∧ H d = some (.xd (ks.zip vs)) ∧ ks.length = vs.length ∧ RDs K φ H xs vs
  | .im T xs, v => ∃ a os vs, v = .ref a ∧ (∀ p ∈ os, KpF φ H p) ∧ T a os vs ∧ RDs K φ H xs vs
def RDs (K : PySem.W.Frag) (φ : Al) (H : Hp) : List D → List V → Prop
  | [], vs => vs = []
  | x :: xs, vs => ∃ v r, vs = v :: r ∧ RD K φ H x v ∧ RDs K φ H xs r
end
/-- from one state to a later one, but for what is being made -/
structure StepW (φ φ' : Al) (H H' : Hp) : Prop where
  pre : ∃ ψ, φ'.l = φ.l ++ ψ
  bs : ∀ a, a ∈ φ'.b → a ∉ φ.b → a ∉ φ.l → H a = none
  keep : ∀ a o, H a = some o → a ∉ φ.l → a ∉ φ.b → H' a = some o
  new : ∀ a, a ∈ φ'.l → a ∉ φ.l → a ∉ φ.b → H a = none
/-- from one state to a later one -/
structure Step (φ φ' : Al) (H H' : Hp) : Prop where
  pre : ∃ ψ, φ'.l = φ.l ++ ψ
  bs : ∀ a, a ∈ φ'.b → a ∉ φ.b → a ∉ φ.l → H a = none
  sub : ∀ a, a ∈ φ.b → a ∈ φ'.b
  keep : ∀ a o, H a = some o → a ∉ φ.l → H' a = some o
  new : ∀ a, a ∈ φ'.l → a ∉ φ.l → H a = none
/-- what may stand in the store -/
def MutT : Option HO → Prop
  | some (.tbl _) => True
  | some (.frz _ (.dK _)) => True
  | o => Mut o
def Muts (φ : Al) (H : Hp) : Prop := ∀ a, a ∈ φ.l → MutT (H a)
def MutB (φ : Al) (H : Hp) : Prop := ∀ a, a ∈ φ.b → (∃ xs, H a = some (.lst xs)) ∨ ∃ kvs, H a = some (.dK kvs)
section
variable {K : PySem.W.Frag} {φ φ' φ1 φ2 : Al} {H H' H1 H2 : Hp}
theorem Step.w (s : Step φ φ' H H') : StepW φ φ' H H' := ⟨s.pre, s.bs, fun a o h n _ => s.keep a o h n, fun a m n _ => s.new a m n⟩
theorem Step.refl : Step φ φ H H := ⟨⟨[], by simp⟩, fun _ h n _ => absurd h n, fun _ h => h, fun _ _ h _ => h, fun _ h n => absurd h n⟩
theorem Step.mem (s : Step φ φ' H H') {a : Addr} (h : a ∈ φ.l) : a ∈ φ'.l := by
  obtain ⟨ψ, e⟩ := s.pre
  rw [e]
  exact List.mem_append_left _ h
theorem Step.trans (s : Step φ φ1 H H1) (t : Step φ1 φ2 H1 H2) : Step φ φ2 H H2 := by
  refine ⟨?_, fun a h n nl => ?_, fun a h => t.sub a (s.sub a h), fun a o h n => ?_, fun a h n => ?_⟩
  · obtain ⟨ψ, e⟩ := s.pre
    obtain ⟨χ, e2⟩ := t.pre
    exact ⟨ψ ++ χ, by rw [e2, e]; simp⟩
  · by_cases m : a ∈ φ1.b
    · exact s.bs a m n nl
    · by_cases ml : a ∈ φ1.l
      · exact s.new a ml nl
      · have q := t.bs a h m ml
        cases e : H a with
        | none => rfl
        | some o => rw [s.keep a o e nl] at q; cases q
  · refine t.keep a o (s.keep a o h n) fun m => ?_
    have := s.new a m n
    rw [this] at h; cases h
  · by_cases m : a ∈ φ1.l
    · exact s.new a m n
    · have q := t.new a h m
      cases e : H a with
      | none => rfl
      | some o => rw [s.keep a o e n] at q; cases q
theorem StepW.at (s : StepW φ φ' H H') {n : Nat} {a : Addr} (h : φ.l[n]? = some a) : φ'.l[n]? = some a := by
  obtain ⟨ψ, e⟩ := s.pre
  rw [e]
  exact List.getElem?_append_left (List.getElem?_eq_some_iff.mp h).1 |>.trans h
theorem Step.at (s : Step φ φ' H H') {n : Nat} {a : Addr} (h : φ.l[n]? = some a) : φ'.l[n]? = some a := s.w.at h
theorem StepW.rd (s : StepW φ φ' H H') {a : Addr} {u : HO} (h : Rd H a u) (nm : a ∉ φ.l) (nb : a ∉ φ.b) : Rd H' a u := by
  rcases h with h | ⟨o, h⟩
  · exact .inl (s.keep _ _ h nm nb)
  · exact .inr ⟨o, s.keep _ _ h nm nb⟩
theorem Muts.tup (M : Muts φ H) {a : Addr} {xs : List V} (h : Rd H a (.tup xs)) : a ∉ φ.l := fun m => by
  have q := M a m
  rcases h with h | ⟨o, h⟩ <;> rw [h] at q <;> exact q
theorem MutB.tup (M : MutB φ H) {a : Addr} {xs : List V} (h : Rd H a (.tup xs)) : a ∉ φ.b := fun m => by
  rcases M a m with ⟨ys, q⟩ | ⟨ys, q⟩ <;> rcases h with h | ⟨o, h⟩ <;> rw [h] at q <;> cases q
theorem StepW.sqT (s : StepW φ φ' H H') (M : Muts φ H) (N : MutB φ H) {a : Addr} {xs : List V} (h : SqT K H a xs) : SqT K H' a xs := by
  rcases h with h | h
  · exact .inl (s.rd h (M.tup h) (N.tup h))
  · exact .inr h
theorem sqL_k {a : Addr} {xs : List V} (h : SqL K (fun _ => none) a xs) : SqL K H a xs := by
  rcases h with (h | ⟨_, h⟩) | h
  · cases h
  · cases h
  · exact .inr h
theorem LsF.sq {a : Addr} {xs : List V} (h : LsF φ H a xs) : SqL K H a xs := .inl (.inl h.1)
theorem FrF.sq {a : Addr} {xs : List V} (h : FrF K H a xs) : SqL K H a xs := by
  rcases h with ⟨o, h⟩ | h
  · exact .inl (.inr ⟨o, h⟩)
  · exact sqL_k h
theorem StepW.out (s : StepW φ φ' H H') {a : Addr} {o : HO} (h : H a = some o) (n : a ∉ φ.l) (nb : a ∉ φ.b) : a ∉ φ'.l := fun m => by
  rw [s.new a m n nb] at h; cases h
theorem StepW.outb (s : StepW φ φ' H H') {a : Addr} {o : HO} (h : H a = some o) (nl : a ∉ φ.l) (n : a ∉ φ.b) : a ∉ φ'.b := fun m => by
  rw [s.bs a m n nl] at h; cases h
theorem StepW.lsF (s : StepW φ φ' H H') {a : Addr} {xs : List V} (h : LsF φ H a xs) : LsF φ' H' a xs := ⟨s.keep _ _ h.1 h.2.1 h.2.2, s.out h.1 h.2.1 h.2.2, s.outb h.1 h.2.1 h.2.2⟩
theorem StepW.frF (s : StepW φ φ' H H') (M : Muts φ H) (N : MutB φ H) {a : Addr} {xs : List V} (h : FrF K H a xs) : FrF K H' a xs := by
  rcases h with ⟨o, h⟩ | h
  · have n : a ∉ φ.l := fun m => by
      have q := M a m
      rw [h] at q; exact q
    have nb : a ∉ φ.b := fun m => by
      rcases N a m with ⟨ys, q⟩ | ⟨ys, q⟩ <;> rw [h] at q <;> cases q
    exact .inl ⟨o, s.keep _ _ h n nb⟩
  · exact .inr h
theorem StepW.dcF (s : StepW φ φ' H H') {a : Addr} {kvs : List (Key × V)} (h : DcF φ H a kvs) : DcF φ' H' a kvs := ⟨s.keep _ _ h.1 h.2.1 h.2.2, s.out h.1 h.2.1 h.2.2, s.outb h.1 h.2.1 h.2.2⟩
theorem StepW.kpF (s : StepW φ φ' H H') {p : Addr × HO} (h : KpF φ H p) : KpF φ' H' p := ⟨s.keep _ _ h.1 h.2.1 h.2.2, s.out h.1 h.2.1 h.2.2, s.outb h.1 h.2.1 h.2.2⟩
mutual
theorem RD.monoW (s : StepW φ φ' H H') (M : Muts φ H) (N : MutB φ H) : ∀ (d : D) (v : V), RD K φ H d v → RD K φ' H' d v
  | .non, v, h => h
  | .bl _, v, h => h
  | .int _, v, h => h
  | .str _, v, h => h
  | .ty _, v, h => h
  | .cls _, v, h => h
  | .tup xs, v, h => by
    rw [RD] at h ⊢
    obtain ⟨a, vs, e, h1, h2⟩ := h
    exact ⟨a, vs, e, s.sqT M N h1, RDs.monoW s M N xs vs h2⟩
  | .lst xs, v, h => by
    rw [RD] at h ⊢
    obtain ⟨a, vs, e, h1, h2⟩ := h
    exact ⟨a, vs, e, s.lsF h1, RDs.monoW s M N xs vs h2⟩
  | .frz xs, v, h => by
    rw [RD] at h ⊢
    obtain ⟨a, vs, e, h1, h2⟩ := h
    exact ⟨a, vs, e, s.frF M N h1, RDs.monoW s M N xs vs h2⟩
  | .dic ks xs, v, h => by
    rw [RD] at h ⊢
    obtain ⟨a, vs, e, h1, hl, h2⟩ := h
    exact ⟨a, vs, e, s.dcF h1, hl, RDs.monoW s M N xs vs h2⟩
  | .ref n, v, h => by
    rw [RD] at h ⊢
    obtain ⟨a, e, h1⟩ := h
    exact ⟨a, e, s.at h1⟩
  | .exo a d ks xs, v, h => by
    rw [RD] at h ⊢
    obtain ⟨vs, e, h1, hl, h2⟩ := h
    have n : d ∉ φ.l := fun m => by
      have q := M d m
      rw [h1] at q; exact q
    have nb : d ∉ φ.b := fun m => by
      rcases N d m with ⟨ys, q⟩ | ⟨ys, q⟩ <;> rw [h1] at q <;> cases q
    exact ⟨vs, e, s.keep _ _ h1 n nb, hl, RDs.monoW s M N xs vs h2⟩
  | .im T xs, v, h => by
    rw [RD] at h ⊢
    obtain ⟨a, os, vs, e, h1, h2, h3⟩ := h
    exact ⟨a, os, vs, e, fun p m => s.kpF (h1 p m), h2, RDs.monoW s M N xs vs h3⟩
theorem RDs.monoW (s : StepW φ φ' H H') (M : Muts φ H) (N : MutB φ H) : ∀ (xs : List D) (vs : List V), RDs K φ H xs vs → RDs K φ' H' xs vs
  | [], vs, h => h
  | x :: xs, vs, h => by
    rw [RDs] at h ⊢
    obtain ⟨v, r, e, h1, h2⟩ := h
    exact ⟨v, r, e, RD.monoW s M N x v h1, RDs.monoW s M N xs r h2⟩
end
/-- all that may change or is being made -/
structure MutA (φ : Al) (H : Hp) : Prop where
  m : Muts φ H
  b : MutB φ H
theorem RD.mono (s : Step φ φ' H H') (M : MutA φ H) (d : D) (v : V) (h : RD K φ H d v) : RD K φ' H' d v := RD.monoW s.w M.m M.b d v h
theorem RDs.mono (s : Step φ φ' H H') (M : MutA φ H) (xs : List D) (vs : List V) (h : RDs K φ H xs vs) : RDs K φ' H' xs vs := RDs.monoW s.w M.m M.b xs vs h
theorem RDs.nil : RDs K φ H [] [] := by rw [RDs]
theorem RDs.cons {x : D} {xs : List D} {v : V} {vs : List V} (h : RD K φ H x v) (r : RDs K φ H xs vs) : RDs K φ H (x :: xs) (v :: vs) := by
  rw [RDs]; exact ⟨v, vs, rfl, h, r⟩
theorem RDs.length : ∀ {xs : List D} {vs : List V}, RDs K φ H xs vs → vs.length = xs.length
  | [], vs, h => by rw [RDs] at h; rw [h]; rfl
  | x :: xs, vs, h => by
    rw [RDs] at h
    obtain ⟨v, r, rfl, _, h2⟩ := h
    rw [List.length_cons, List.length_cons, RDs.length h2]
theorem RDs.append : ∀ {xs ys : List D} {vs ws : List V}, RDs K φ H xs vs → RDs K φ H ys ws → RDs K φ H (xs ++ ys) (vs ++ ws)
  | [], ys, vs, ws, h, q => by rw [RDs] at h; rw [h]; exact q
  | x :: xs, ys, vs, ws, h, q => by
    rw [RDs] at h
    obtain ⟨v, r, rfl, h1, h2⟩ := h
    exact .cons h1 (RDs.append h2 q)
theorem RDs.get : ∀ {xs : List D} {vs : List V} {i : Nat} {x : D}, RDs K φ H xs vs → xs[i]? = some x → ∃ v, vs[i]? = some v ∧ RD K φ H x v
  | [], vs, i, x, h, e => by simp at e
  | y :: xs, vs, 0, x, h, e => by
    rw [RDs] at h
    obtain ⟨v, r, rfl, h1, h2⟩ := h
    simp at e; subst e
    exact ⟨v, rfl, h1⟩
  | y :: xs, vs, i + 1, x, h, e => by
    rw [RDs] at h
    obtain ⟨v, r, rfl, h1, h2⟩ := h
    simp at e
    obtain ⟨u, q1, q2⟩ := RDs.get h2 e
    exact ⟨u, by simpa using q1, q2⟩
theorem RDs.set : ∀ {xs : List D} {vs : List V} (i : Nat) {x : D} {v : V}, RDs K φ H xs vs → RD K φ H x v → RDs K φ H (xs.set i x) (vs.set i v)
  | [], vs, i, x, v, h, q => by rw [RDs] at h; rw [h]; exact .nil
  | y :: xs, vs, 0, x, v, h, q => by
    rw [RDs] at h
    obtain ⟨u, r, rfl, h1, h2⟩ := h
    exact .cons q h2
  | y :: xs, vs, i + 1, x, v, h, q => by
    rw [RDs] at h
    obtain ⟨u, r, rfl, h1, h2⟩ := h
    exact .cons h1 (RDs.set i h2 q)
theorem RDs.drop : ∀ {xs : List D} {vs : List V} (n : Nat), RDs K φ H xs vs → RDs K φ H (xs.drop n) (vs.drop n)
  | _, _, 0, h => h
  | [], vs, n + 1, h => by rw [RDs] at h; rw [h]; exact .nil
  | y :: xs, vs, n + 1, h => by
    rw [RDs] at h
    obtain ⟨u, r, rfl, h1, h2⟩ := h
    exact RDs.drop n h2
theorem RDs.take : ∀ {xs : List D} {vs : List V} (n : Nat), RDs K φ H xs vs → RDs K φ H (xs.take n) (vs.take n)
  | _, _, 0, h => .nil
  | [], vs, n + 1, h => by rw [RDs] at h; rw [h]; exact .nil
  | y :: xs, vs, n + 1, h => by
    rw [RDs] at h
    obtain ⟨u, r, rfl, h1, h2⟩ := h
    exact .cons h1 (RDs.take n h2)
theorem RDs.eraseIdx : ∀ {xs : List D} {vs : List V} (n : Nat), RDs K φ H xs vs → RDs K φ H (xs.eraseIdx n) (vs.eraseIdx n)
  | [], vs, n, h => by rw [RDs] at h; rw [h]; exact .nil
  | y :: xs, vs, 0, h => by
    rw [RDs] at h
    obtain ⟨u, r, rfl, h1, h2⟩ := h
    exact h2
  | y :: xs, vs, n + 1, h => by
    rw [RDs] at h
    obtain ⟨u, r, rfl, h1, h2⟩ := h
    exact .cons h1 (RDs.eraseIdx n h2)
theorem RDs.ints_inv : ∀ {ns : List Int} {vs : List V}, RDs K φ H (ns.map D.int) vs → vs = ns.map V.int
  | [], vs, h => by rw [List.map_nil, RDs] at h; exact h
  | n :: ns, vs, h => by
    rw [List.map_cons, RDs] at h
    obtain ⟨u, r, rfl, h1, h2⟩ := h
    rw [RD] at h1
    rw [h1, RDs.ints_inv h2]; rfl
end
inductive SO where
  | lst (xs : List D) | dK (kvs : List (Key × D)) | ins (C : Addr) (fs : List (Str × D))
  | tab (P : Addr) (nm : Nat → Nat → Str)
  | fdK (od : Obj) (ws : List (Key × V)) (kvs : List (Key × D))
abbrev Store := List SO
def RK {κ : Type} (K : PySem.W.Frag) (φ : Al) (H : Hp) (kvs : List (κ × D)) (ws : List (κ × V)) : Prop := kvs.map (·.1) = ws.map (·.1) ∧ RDs K φ H (kvs.map (·.2)) (ws.map (·.2))
def OR (K : PySem.W.Frag) (φ : Al) (H : Hp) (a : Addr) : SO → Prop
  | .lst xs => ∃ vs, H a = some (.lst vs) ∧ RDs K φ H xs vs
  | .dK kvs => ∃ ws, H a = some (.dK ws) ∧ RK K φ H kvs ws
  | .ins C fs => ∃ dx ws, H a = some (.ins C dx ws) ∧ RK K φ H fs ws
  | .tab P nm => a = P ∧ ∃ ps : Array Value, H a = some (.tbl ps) ∧ TriplesOk ps.toList ∧ ∀ (pos : Pos) (cv : Value), codeAmong pos ps.toList = some cv → ∃ c, cv = .ref c ∧ KpF φ H (c, LamX.CodeO c (nm pos.line pos.col))
  | .fdK od ws kvs => H a = some (.frz od (.dK ws)) ∧ RK K φ H kvs ws
structure SR (K : PySem.W.Frag) (φ : Al) (S : Store) (H : Hp) : Prop where
  nd : φ.l.Nodup
  len : S.length = φ.l.length
  at_ : ∀ (n : Nat) (a : Addr) (o : SO), φ.l[n]? = some a → S[n]? = some o → OR K φ H a o
  mb : MutB φ H
  db : ∀ a, a ∈ φ.b → a ∉ φ.l
section
variable {K : PySem.W.Frag} {φ φ' φ1 φ2 : Al} {H H' H1 H2 : Hp} {S S' : Store}
theorem OR.mut {a : Addr} {o : SO} (h : OR K φ H a o) : MutT (H a) := by
  cases o with
  | lst xs => obtain ⟨_, e, _⟩ := h; rw [e]; trivial
  | dK xs => obtain ⟨_, e, _⟩ := h; rw [e]; trivial
  | ins C xs => obtain ⟨_, _, e, _⟩ := h; rw [e]; trivial
  | tab P nm => obtain ⟨_, _, e, _⟩ := h; rw [e]; trivial
  | fdK od ws kvs => obtain ⟨e, _⟩ := h; rw [e]; trivial
theorem SR.mutl (R : SR K φ S H) : Muts φ H := fun a h => by
  obtain ⟨n, e⟩ := List.getElem?_of_mem h
  have hn : n < S.length := by rw [R.len]; exact (List.getElem?_eq_some_iff.mp e).1
  exact (R.at_ n a S[n] e (List.getElem?_eq_getElem hn)).mut
theorem SR.muts (R : SR K φ S H) : MutA φ H := ⟨R.mutl, R.mb⟩
theorem RK.monoW {κ : Type} (s : StepW φ φ' H H') (M : MutA φ H) {kvs : List (κ × D)} {ws : List (κ × V)} (h : RK K φ H kvs ws) : RK K φ' H' kvs ws := ⟨h.1, RDs.monoW s M.m M.b _ _ h.2⟩
theorem RK.mono {κ : Type} (s : Step φ φ' H H') (M : MutA φ H) {kvs : List (κ × D)} {ws : List (κ × V)} (h : RK K φ H kvs ws) : RK K φ' H' kvs ws := h.monoW s.w M
theorem OR.moved {a : Addr} {o : SO} (s : StepW φ φ' H H') (M : MutA φ H) (h : OR K φ H a o) (e : H' a = H a) : OR K φ' H' a o := by
  cases o with
  | lst xs => obtain ⟨vs, h1, h2⟩ := h; exact ⟨vs, by rw [e]; exact h1, RDs.monoW s M.m M.b _ _ h2⟩
  | dK xs => obtain ⟨vs, h1, h2⟩ := h; exact ⟨vs, by rw [e]; exact h1, h2.monoW s M⟩
  | ins C xs => obtain ⟨dx, vs, h1, h2⟩ := h; exact ⟨dx, vs, by rw [e]; exact h1, h2.monoW s M⟩
  | tab P nm =>
    obtain ⟨hP, ps, h1, h2, h3⟩ := h
    refine ⟨hP, ps, by rw [e]; exact h1, h2, fun pos cv hc => ?_⟩
    obtain ⟨c, e1, e2⟩ := h3 pos cv hc
    exact ⟨c, e1, s.kpF e2⟩
  | fdK od ws kvs => obtain ⟨h1, h2⟩ := h; exact ⟨by rw [e]; exact h1, h2.monoW s M⟩
/-- an object of the store is changed -/
theorem SR.step_put (R : SR K φ S H) {n : Nat} {a : Addr} {ho : HO} (e : φ.l[n]? = some a) : Step φ φ H (upd H a ho) :=
  ⟨⟨[], by simp⟩, fun _ h n _ => absurd h n, fun _ h => h, fun b o h nb => by
    have : b ≠ a := fun q => nb (q ▸ List.mem_of_getElem? e)
    rw [upd_ne this]; exact h, fun _ h n => absurd h n⟩
theorem SR.put (R : SR K φ S H) {n : Nat} {a : Addr} {ho : HO} {o : SO} (e : φ.l[n]? = some a) (h : OR K φ (upd H a ho) a o) : SR K φ (S.set n o) (upd H a ho) := by
  have am := List.mem_of_getElem? e
  refine ⟨R.nd, by simpa using R.len, fun m b u hb hu => ?_, fun b hb => ?_, R.db⟩
  · by_cases q : m = n
    · subst q
      rw [e] at hb; cases hb
      have hm : m < S.length := by rw [R.len]; exact (List.getElem?_eq_some_iff.mp e).1
      rw [List.getElem?_set_self hm] at hu; cases hu
      exact h
    · rw [List.getElem?_set_ne (Ne.symm q)] at hu
      have ne : b ≠ a := fun z => by
        subst z
        obtain ⟨h1, e1⟩ := List.getElem?_eq_some_iff.mp hb
        obtain ⟨h2, e2⟩ := List.getElem?_eq_some_iff.mp e
        exact q ((List.getElem_inj R.nd).mp (e1.trans e2.symm))
      exact (R.at_ m b u hb hu).moved (R.step_put (ho := ho) e).w R.muts (upd_ne ne)
  · have ne : b ≠ a := fun z => R.db b hb (z ▸ am)
    rw [upd_ne ne]
    exact R.mb b hb
/-- an object that is not ours comes -/
theorem step_new {p : Addr} {ho : HO} (h : H p = none) : Step φ φ H (upd H p ho) :=
  ⟨⟨[], by simp⟩, fun _ h n _ => absurd h n, fun _ h => h, fun b o e _ => by
    have : b ≠ p := fun q => by rw [q, h] at e; cases e
    rw [upd_ne this]; exact e, fun _ h n => absurd h n⟩
theorem SR.out (R : SR K φ S H) {p : Addr} (h : H p = none) : p ∉ φ.l := fun m => by
  have := R.mutl p m
  rw [h] at this; exact this
theorem SR.outb (R : SR K φ S H) {p : Addr} (h : H p = none) : p ∉ φ.b := fun m => by
  rcases R.mb p m with ⟨xs, q⟩ | ⟨xs, q⟩ <;> rw [h] at q <;> cases q
/-- the store stands where no object of it is touched -/
theorem SR.keep (R : SR K φ S H) (s : Step φ φ H H') (h : ∀ a, a ∈ φ.l → H' a = H a) : SR K φ S H' :=
  ⟨R.nd, R.len, fun n a o ha ho => (R.at_ n a o ha ho).moved s.w R.muts (h a (List.mem_of_getElem? ha)), fun b hb => by
    rcases R.mb b hb with ⟨xs, q⟩ | ⟨xs, q⟩
    · exact .inl ⟨xs, s.keep _ _ q (R.db b hb)⟩
    · exact .inr ⟨xs, s.keep _ _ q (R.db b hb)⟩, R.db⟩
theorem SR.new (R : SR K φ S H) {p : Addr} {ho : HO} (h : H p = none) : SR K φ S (upd H p ho) :=
  R.keep (step_new h) fun a m => upd_ne fun q => R.out h (q ▸ m)
theorem step_push (R : SR K φ S H) {p : Addr} {ho : HO} (h : H p = none) : Step φ (φ.push p) H (upd H p ho) :=
  ⟨⟨[p], rfl⟩, fun _ h n _ => absurd h n, fun _ h => h, (step_new (φ := φ) h).keep, fun a m n => by
    rcases List.mem_append.mp m with m | m
    · exact absurd m n
    · rw [List.mem_singleton.mp m]; exact h⟩
theorem SR.push (R : SR K φ S H) {p : Addr} {ho : HO} {o : SO} (h : H p = none) (q : OR K (φ.push p) (upd H p ho) p o) : SR K (φ.push p) (S ++ [o]) (upd H p ho) := by
  have st := step_push R (ho := ho) h
  refine ⟨?_, by simp [R.len], fun n a u ha hu => ?_, fun b hb => ?_, fun b hb m => ?_⟩
  · show (φ.l ++ [p]).Nodup
    rw [List.nodup_append]
    refine ⟨R.nd, by simp, fun a ha b hb => ?_⟩
    rw [List.mem_singleton.mp hb]
    exact fun z => R.out h (z ▸ ha)
  · have ha' : (φ.l ++ [p])[n]? = some a := ha
    by_cases hn : n < φ.l.length
    · rw [List.getElem?_append_left hn] at ha'
      rw [List.getElem?_append_left (by rw [R.len]; exact hn)] at hu
      have ne : a ≠ p := fun z => R.out h (z ▸ List.mem_of_getElem? ha')
      exact (R.at_ n a u ha' hu).moved st.w R.muts (upd_ne ne)
    · have hn' : n = φ.l.length := by
        have := (List.getElem?_eq_some_iff.mp ha').1
        simp at this; omega
      subst hn'
      rw [List.getElem?_append_right (Nat.le_refl _)] at ha'
      rw [List.getElem?_append_right (by rw [R.len]; exact Nat.le_refl _), R.len] at hu
      simp at ha' hu
      subst ha' hu
      exact q
  · have ne : b ≠ p := fun z => R.outb h (z ▸ hb)
    rw [upd_ne ne]
    exact R.mb b hb
  · rcases List.mem_append.mp m with m | m
    · exact R.db b hb m
    · rw [List.mem_singleton.mp m] at hb
      exact R.outb h hb
end
end Dy
namespace Dy
open PySem PySem.Spec PyProof.Rows L2
/-- an error of the class at C; its fields, if its class has an __init__ of its own -/
structure Exc where
  C : Addr
  fs : Option (List (Str × D))
def ExR (K : PySem.W.Frag) (φ : Al) (H : Hp) (x : Exc) (cls : Value) (d : Option Addr) : Prop :=
  cls = .ref x.C ∧ match x.fs with
    | none => d = none
    | some fs => ∃ dd ws, d = some dd ∧ H dd = some (.xd ws) ∧ RK K φ H fs ws
abbrev Rho := List (Option D)
structure Sl (K : PySem.W.Frag) (φ : Al) (H : Hp) (ρ : Rho) (σ : L2.St) : Prop where
  len : ρ.length = σ.length
  at_ : ∀ (i : Nat) (d : D), ρ[i]? = some (some d) → ∃ v, σ[i]? = some (some v) ∧ RD K φ H d v
section
variable {K : PySem.W.Frag} {φ φ' : Al} {H H' : Hp} {S : Store} {ρ : Rho} {σ : L2.St}
theorem Sl.mono (l : Sl K φ H ρ σ) (s : Step φ φ' H H') (M : MutA φ H) : Sl K φ' H' ρ σ :=
  ⟨l.len, fun i d e => let ⟨v, h1, h2⟩ := l.at_ i d e; ⟨v, h1, RD.mono s M d v h2⟩⟩
theorem Sl.set (l : Sl K φ H ρ σ) {i : Nat} {d : D} {v : V} (h : RD K φ H d v) : Sl K φ H (ρ.set i (some d)) (σ.set i (some v)) := by
  refine ⟨by simpa using l.len, fun j u e => ?_⟩
  by_cases q : j = i
  · subst q
    have hj : j < ρ.length := by
      have := (List.getElem?_eq_some_iff.mp e).1
      simpa using this
    rw [List.getElem?_set_self hj] at e
    cases e
    exact ⟨v, by rw [List.getElem?_set_self (by rw [← l.len]; exact hj)], h⟩
  · rw [List.getElem?_set_ne (Ne.symm q)] at e
    rw [List.getElem?_set_ne (Ne.symm q)]
    exact l.at_ j u e
theorem Sl.unset (l : Sl K φ H ρ σ) {i : Nat} : Sl K φ H (ρ.set i none) (σ.set i none) := by
  refine ⟨by simpa using l.len, fun j u e => ?_⟩
  by_cases q : j = i
  · subst q
    have hj : j < ρ.length := by
      have := (List.getElem?_eq_some_iff.mp e).1
      simpa using this
    rw [List.getElem?_set_self hj] at e
    cases e
  · rw [List.getElem?_set_ne (Ne.symm q)] at e
    rw [List.getElem?_set_ne (Ne.symm q)]
    exact l.at_ j u e
end
/-- contexts that differ in what a derivation does not see -/
structure Fam where
  ι : Type
  X : ι → Cx
  K : PySem.W.Frag
  hK : ∀ i, (X i).K = K
def Fam.one (X : Cx) : Fam := ⟨Unit, fun _ => X, X.K, fun _ => rfl⟩
abbrev QD := D → Store → Prop
abbrev XQ := Exc → Store → Prop
abbrev DTE := Rho → Store → QD → XQ → Prop
abbrev DTT := Rho → Store → (Bool → Store → Prop) → XQ → Prop
abbrev DTA := Rho → Store → (List D → Store → Prop) → XQ → Prop
/-- where an evaluation stands -/
structure Ok (K : PySem.W.Frag) (W : WX) (σ : L2.St) (ρ : Rho) (φ : Al) (S : Store) (H : Hp) (E : XQ) : Prop where
  sr : SR K φ S H
  sl : Sl K φ H ρ σ
  ex : ∀ φ' H' S' x cls d, Step φ φ' H H' → SR K φ' S' H' → ExR K φ' H' x cls d → E x S' → W cls d σ H'
theorem Ok.mono {K : PySem.W.Frag} {W : WX} {σ : L2.St} {ρ : Rho} {φ φ' : Al} {S S' : Store} {H H' : Hp} {E : XQ} (o : Ok K W σ ρ φ S H E) (s : Step φ φ' H H') (r : SR K φ' S' H') : Ok K W σ ρ φ' S' H' E :=
  ⟨r, o.sl.mono s o.sr.muts, fun _ _ _ _ _ _ t r' x e => o.ex _ _ _ _ _ _ (s.trans t) r' x e⟩
/-- what an evaluation's end is worth -/
def EndV (K : PySem.W.Frag) (φ : Al) (H : Hp) (Q' : QD) (Q : VK) : Prop :=
  ∀ φ' H' S' d v, Step φ φ' H H' → SR K φ' S' H' → RD K φ' H' d v → Q' d S' → Q v H'
def EndT (K : PySem.W.Frag) (φ : Al) (H : Hp) (Q' : Bool → Store → Prop) (Q : Bool → Hp → Prop) : Prop :=
  ∀ φ' H' S' b, Step φ φ' H H' → SR K φ' S' H' → Q' b S' → Q b H'
def EndA (K : PySem.W.Frag) (φ : Al) (H : Hp) (Q' : List D → Store → Prop) (Q : List V → Hp → Prop) : Prop :=
  ∀ φ' H' S' ds vs, Step φ φ' H H' → SR K φ' S' H' → RDs K φ' H' ds vs → Q' ds S' → Q vs H'
def DE (F : Fam) (W : WX) (e : Expr) (t' : DTE) : Prop :=
  ∃ t : TE, (∀ i, PE (F.X i) e t) ∧ ∀ σ ρ φ S H E Q' Q, Ok F.K W σ ρ φ S H E → EndV F.K φ H Q' Q → t' ρ S Q' E → t σ H Q
def DT (F : Fam) (W : WX) (e : Expr) (t' : DTT) : Prop :=
  ∃ t : TT, (∀ i, PT (F.X i) e t) ∧ ∀ σ ρ φ S H E Q' Q, Ok F.K W σ ρ φ S H E → EndT F.K φ H Q' Q → t' ρ S Q' E → t σ H Q
def DW (F : Fam) (W : WX) (e : Expr) (t' : DTT) : Prop :=
  ∃ t : TT, (∀ i, PW (F.X i) e t) ∧ ∀ σ ρ φ S H E Q' Q, Ok F.K W σ ρ φ S H E → EndT F.K φ H Q' Q → t' ρ S Q' E → t σ H Q
def DA (F : Fam) (W : WX) (es : List Expr) (t' : DTA) : Prop :=
  ∃ t : TA, (∀ i, PA (F.X i) es t) ∧ ∀ σ ρ φ S H E Q' Q, Ok F.K W σ ρ φ S H E → EndA F.K φ H Q' Q → t' ρ S Q' E → t σ H Q
/-- inside an evaluation: the end, seen from a later state -/
theorem EndV.mono {K : PySem.W.Frag} {φ φ' : Al} {H H' : Hp} {Q' : QD} {Q : VK} (q : EndV K φ H Q' Q) (s : Step φ φ' H H') : EndV K φ' H' Q' Q :=
  fun _ _ _ _ _ t r rd h => q _ _ _ _ _ (s.trans t) r rd h
theorem EndT.mono {K : PySem.W.Frag} {φ φ' : Al} {H H' : Hp} {Q' : Bool → Store → Prop} {Q : Bool → Hp → Prop} (q : EndT K φ H Q' Q) (s : Step φ φ' H H') : EndT K φ' H' Q' Q :=
  fun _ _ _ _ t r h => q _ _ _ _ (s.trans t) r h
theorem EndA.mono {K : PySem.W.Frag} {φ φ' : Al} {H H' : Hp} {Q' : List D → Store → Prop} {Q : List V → Hp → Prop} (q : EndA K φ H Q' Q) (s : Step φ φ' H H') : EndA K φ' H' Q' Q :=
  fun _ _ _ _ _ t r rd h => q _ _ _ _ _ (s.trans t) r rd h
section
variable {F : Fam} {W : WX} {a b c e : Expr} {es rest : List Expr} {pos : Pos} {ta tb tc te : DTE} {uA uB uC : DTT} {t : DTA}
def dVar (i : Nat) : DTE := fun ρ S Q _ => ∃ d, ρ[i]? = some (some d) ∧ Q d S
def dC (d : D) : DTE := fun _ S Q _ => Q d S
/-- a constant that says nothing of the heap -/
def Flat : D → V → Prop
  | .non, v => v = .non
  | .bl b, v => v = .bl b
  | .int i, v => v = .int i
  | .str x, v => v = .str x
  | .ty n, v => v = .ty n
  | .cls C, v => v = .ref C
  | _, _ => False
theorem Flat.rd {K : PySem.W.Frag} {φ : Al} {H : Hp} {d : D} {v : V} (h : Flat d v) : RD K φ H d v := by
  cases d <;> first | exact h.elim | (rw [RD]; exact h)
theorem de_of_c {d : D} {v : V} (h : ∀ i, PE (F.X i) e (tC v)) (f : Flat d v) : DE F W e (dC d) :=
  ⟨tC v, h, fun σ ρ φ S H E Q' Q o q h => q φ H S d v .refl o.sr f.rd h⟩
theorem de_var (i : Nat) {x : Str} (hN : ∀ j, (F.X j).N[i]? = some x := by intro _; rfl) (hv : ∀ j, Vis (F.X j).env.scope x := by intro _; first | exact Or.inl rfl | exact Or.inr (Or.inl rfl) | exact Or.inr (Or.inr rfl)) (hd : (x == ("__debug__" : Str)) = false := by decide)
    (hcd : (x == ("__classdict__" : Str)) = false := by decide) : DE F W (.Name x pos) (dVar i) :=
  ⟨tVar i, fun j => pe_var (hN j) (hv j) hd hcd, fun σ ρ φ S H E Q' Q o q h => by
    obtain ⟨d, e, h⟩ := h
    obtain ⟨v, e2, r⟩ := o.sl.at_ i d e
    exact ⟨v, e2, q φ H S d v .refl o.sr r h⟩⟩
theorem de_int {i : Int} {j} : DE F W (.Constant (.int i) j pos) (dC (.int i)) := de_of_c (fun _ => pe_int) rfl
theorem de_bl {i : Bool} {j} : DE F W (.Constant (.bool i) j pos) (dC (.bl i)) := de_of_c (fun _ => pe_bl) rfl
theorem de_non {j} : DE F W (.Constant .none j pos) (dC .non) := de_of_c (fun _ => pe_non) rfl
theorem de_str {x : Str} {j} : DE F W (.Constant (.str x) j pos) (dC (.str x)) := de_of_c (fun _ => pe_str) rfl
/-- a module's own name: a class, a def, a plain constant -/
theorem de_glob {x : Str} {d : D} {v : V} {u : Value} (hg : ∀ i, Gl (F.X i) x) (hm : ∀ i, (F.X i).mg x = some u) (r : RelV v u) (f : Flat d v) (hd : (x == ("__debug__" : Str)) = false := by decide) : DE F W (.Name x pos) (dC d) := de_of_c (fun i => pe_glob (hg i) (hm i) r hd) f
theorem de_bltn {x : Str} {d : D} {v : V} {u : Value} (hg : ∀ i, Gl (F.X i) x) (hm : ∀ i, (F.X i).mg x = none) (hv : bootBuiltins x = some u) (r : RelV v u) (f : Flat d v) (hn : x ≠ "__name__" := by decide) (hd : (x == ("__debug__" : Str)) = false := by decide) :
    DE F W (.Name x pos) (dC d) := de_of_c (fun i => pe_bltn (hg i) (hm i) hv r hn hd) f
def dNil : DTA := fun _ S Q _ => Q [] S
def dCons (ta : DTE) (t : DTA) : DTA := fun ρ S Q E => ta ρ S (fun d S1 => t ρ S1 (fun ds S2 => Q (d :: ds) S2) E) E
theorem da_nil : DA F W [] dNil := ⟨tNil, fun _ => pa_nil, fun σ ρ φ S H E Q' Q o q h => q φ H S [] [] .refl o.sr .nil h⟩
theorem da_cons (ha : DE F W e ta) (hr : DA F W es t) (hs : ∀ i, starEach (e :: es) (F.X i).env = (false, eval e (F.X i).env) :: starEach es (F.X i).env := by intro _; rfl) : DA F W (e :: es) (dCons ta t) := by
  obtain ⟨t1, p1, k1⟩ := ha
  obtain ⟨t2, p2, k2⟩ := hr
  refine ⟨tCons t1 t2, fun i => pa_cons (p1 i) (p2 i) (hs i), fun σ ρ φ S H E Q' Q o q h => ?_⟩
  refine k1 σ ρ φ S H E _ _ o (fun φ1 H1 S1 d v s1 r1 rd h1 => ?_) h
  refine k2 σ ρ φ1 S1 H1 E _ _ (o.mono s1 r1) (fun φ2 H2 S2 ds vs s2 r2 rds h2 => ?_) h1
  exact q φ2 H2 S2 _ _ (s1.trans s2) r2 (.cons (RD.mono s2 r1.muts _ _ rd) rds) h2
/-- the common way of a two-place operation -/
theorem de_two {r : R2} {r' : D → D → Store → QD → Prop} {f : TE → TE → TE} (hf : ∀ t1 t2, f t1 t2 = tOp r t1 t2) (ha : DE F W a ta) (hb : DE F W b tb) (hp : ∀ i t1 t2, PE (F.X i) a t1 → PE (F.X i) b t2 → PE (F.X i) e (f t1 t2))
    (hr : ∀ φ S H Q' Q d1 d2 v1 v2, SR F.K φ S H → RD F.K φ H d1 v1 → RD F.K φ H d2 v2 → EndV F.K φ H Q' Q → r' d1 d2 S Q' → r v1 v2 H Q) :
    DE F W e (fun ρ S Q E => ta ρ S (fun d1 S1 => tb ρ S1 (fun d2 S2 => r' d1 d2 S2 Q) E) E) := by
  obtain ⟨t1, p1, k1⟩ := ha
  obtain ⟨t2, p2, k2⟩ := hb
  refine ⟨f t1 t2, fun i => hp i t1 t2 (p1 i) (p2 i), fun σ ρ φ S H E Q' Q o q h => ?_⟩
  rw [hf]
  refine k1 σ ρ φ S H E _ _ o (fun φ1 H1 S1 d v s1 r1 rd h1 => ?_) h
  refine k2 σ ρ φ1 S1 H1 E _ _ (o.mono s1 r1) (fun φ2 H2 S2 d2 v2 s2 r2 rd2 h2 => ?_) h1
  exact hr φ2 S2 H2 _ _ d d2 v v2 r2 (RD.mono s2 r1.muts _ _ rd) rd2 (q.mono (s1.trans s2)) h2
abbrev D2 := D → D → Store → QD → Prop
def dOp (r : D2) (ta tb : DTE) : DTE := fun ρ S Q E => ta ρ S (fun d1 S1 => tb ρ S1 (fun d2 S2 => r d1 d2 S2 Q) E) E
/-- an operation on trees and its rule by values -/
def Lk (K : PySem.W.Frag) (r' : D2) (r : R2) : Prop :=
  ∀ φ S H Q' Q d1 d2 v1 v2, SR K φ S H → RD K φ H d1 v1 → RD K φ H d2 v2 → EndV K φ H Q' Q → r' d1 d2 S Q' → r v1 v2 H Q
theorem de_op {op : Operator} {r : R2} {r' : D2} (ho : ∀ i, OpR (F.X i) (binaryOp op) r) (l : Lk F.K r' r) (ha : DE F W a ta) (hb : DE F W b tb) : DE F W (.BinOp a op b pos) (dOp r' ta tb) :=
  de_two (f := fun t1 t2 => tOp r t1 t2) (fun _ _ => rfl) ha hb (fun i _ _ p1 p2 => pe_op (ho i) p1 p2) l
theorem de_cmp {op : CmpOp} {r : R2} {r' : D2} (ho : ∀ i, OpR (F.X i) (compareOp op) r) (l : Lk F.K r' r) (ha : DE F W a ta) (hb : DE F W b tb) (hm : behindInMarks op b = false) : DE F W (.Compare a [op] [b] pos) (dOp r' ta tb) :=
  de_two (f := fun t1 t2 => tOp r t1 t2) (fun _ _ => rfl) ha hb (fun i _ _ p1 p2 => pe_cmpR (ho i) p1 p2 hm) l
theorem de_ix {r : R2} {r' : D2} (ho : ∀ i, IxR (F.X i) r) (l : Lk F.K r' r) (ha : DE F W a ta) (hb : DE F W b tb) (hs : PlainIx b := by exact fun _ _ => rfl) : DE F W (.Subscript a b pos) (dOp r' ta tb) :=
  de_two (f := fun t1 t2 => tOp r t1 t2) (fun _ _ => rfl) ha hb (fun i _ _ p1 p2 => pe_ix (ho i) p1 p2 hs) l
def dUn (r : D → Store → QD → Prop) (ta : DTE) : DTE := fun ρ S Q E => ta ρ S (fun d S1 => r d S1 Q) E
theorem de_un {op : UnaryOp} {r : V → Hp → VK → Prop} {r' : D → Store → QD → Prop} (ho : ∀ i, UnR (F.X i) (unaryOp op) r) (l : ∀ φ S H Q' Q d v, SR F.K φ S H → RD F.K φ H d v → EndV F.K φ H Q' Q → r' d S Q' → r v H Q) (ha : DE F W a ta) : DE F W (.UnaryOp op a pos) (dUn r' ta) := by
  obtain ⟨t1, p1, k1⟩ := ha
  refine ⟨_, fun i => pe_un (ho i) (p1 i), fun σ ρ φ S H E Q' Q o q h => ?_⟩
  refine k1 σ ρ φ S H E _ _ o (fun φ1 H1 S1 d v s1 r1 rd h1 => ?_) h
  exact l φ1 S1 H1 _ _ d v r1 rd (q.mono s1) h1
/-- an expression that gives True or False, as a test -/
def dTest (te : DTE) : DTT := fun ρ S Q E => te ρ S (fun d S1 => ∃ k, d = .bl k ∧ Q k S1) E
theorem dt_val (h : DE F W e te) (he : ∀ i whole, isTrue e (F.X i).env whole = (do let v ← whole; standAt e.pos; holding [v] (truthy v)) := by intro _ _; rfl) : DT F W e (dTest te) := by
  obtain ⟨t1, p1, k1⟩ := h
  refine ⟨tB t1, fun i => pt_val (p1 i) (he i), fun σ ρ φ S H E Q' Q o q h => ?_⟩
  refine k1 σ ρ φ S H E _ _ o (fun φ1 H1 S1 d v s1 r1 rd h1 => ?_) h
  obtain ⟨k, rfl, h2⟩ := h1
  rw [RD] at rd
  exact ⟨k, rd, q φ1 H1 S1 k s1 r1 h2⟩
theorem dt_cmp {op : CmpOp} {r : R2} {r' : D2} (ho : ∀ i, OpR (F.X i) (compareOp op) r) (l : Lk F.K r' r) (ha : DE F W a ta) (hb : DE F W b tb) (hm : behindInMarks op b = false) : DT F W (.Compare a [op] [b] pos) (dTest (dOp r' ta tb)) := by
  obtain ⟨t1, p1, k1⟩ := ha
  obtain ⟨t2, p2, k2⟩ := hb
  refine ⟨_, fun i => pt_cmpR (ho i) (p1 i) (p2 i) hm, fun σ ρ φ S H E Q' Q o q h => ?_⟩
  refine k1 σ ρ φ S H E _ _ o (fun φ1 H1 S1 d v s1 r1 rd h1 => ?_) h
  refine k2 σ ρ φ1 S1 H1 E _ _ (o.mono s1 r1) (fun φ2 H2 S2 d2 v2 s2 r2 rd2 h2 => ?_) h1
  refine l φ2 S2 H2 _ _ d d2 v v2 r2 (RD.mono s2 r1.muts _ _ rd) rd2 (fun φ3 H3 S3 d3 v3 s3 r3 rd3 h3 => ?_) h2
  obtain ⟨k, rfl, h4⟩ := h3
  rw [RD] at rd3
  exact ⟨k, rd3, q φ3 H3 S3 k ((s1.trans s2).trans s3) r3 h4⟩
def dAnd (t u : DTT) : DTT := fun ρ S Q E => t ρ S (fun c S1 => if c = true then u ρ S1 Q E else Q false S1) E
def dOr (t u : DTT) : DTT := fun ρ S Q E => t ρ S (fun c S1 => if c = true then Q true S1 else u ρ S1 Q E) E
def dNot (t : DTT) : DTT := fun ρ S Q E => t ρ S (fun c S1 => Q (!c) S1) E
theorem dw_or1 (h : DT F W a uA) : DW F W (.BoolOp .Or [a] pos) uA := let ⟨t, p, k⟩ := h; ⟨t, fun i => pw_or1 (p i), k⟩
theorem dw_or (ha : DT F W a uA) (hb : DW F W (.BoolOp .Or (b :: rest) pos) uB) : DW F W (.BoolOp .Or (a :: b :: rest) pos) (dOr uA uB) := by
  obtain ⟨t1, p1, k1⟩ := ha
  obtain ⟨t2, p2, k2⟩ := hb
  refine ⟨_, fun i => pw_or (p1 i) (p2 i), fun σ ρ φ S H E Q' Q o q h => ?_⟩
  refine k1 σ ρ φ S H E _ _ o (fun φ1 H1 S1 k s1 r1 h1 => ?_) h
  cases k with
  | false => rw [if_neg Bool.false_ne_true] at h1 ⊢; exact k2 σ ρ φ1 S1 H1 E _ _ (o.mono s1 r1) (q.mono s1) h1
  | true => rw [if_pos rfl] at h1 ⊢; exact q φ1 H1 S1 true s1 r1 h1
theorem DW.dt (h : DW F W a uA) : DT F W a uA := let ⟨t, p, k⟩ := h; ⟨t, fun i => (p i).pt, k⟩
theorem dt_not (ha : DT F W a uA) : DT F W (.UnaryOp .Not a pos) (dNot uA) := by
  obtain ⟨t1, p1, k1⟩ := ha
  refine ⟨_, fun i => pt_not (p1 i), fun σ ρ φ S H E Q' Q o q h => ?_⟩
  exact k1 σ ρ φ S H E _ _ o (fun φ1 H1 S1 k s1 r1 h1 => q φ1 H1 S1 _ s1 r1 h1) h
/-- and, or, not as values -/
def dAndV (ta tb : DTE) : DTE := fun ρ S Q E => ta ρ S (fun d S1 => ∃ c, d = .bl c ∧ if c = true then tb ρ S1 Q E else Q (.bl false) S1) E
def dOrV (ta tb : DTE) : DTE := fun ρ S Q E => ta ρ S (fun d S1 => ∃ c, d = .bl c ∧ if c = true then Q (.bl true) S1 else tb ρ S1 Q E) E
def dNotV (ta : DTE) : DTE := fun ρ S Q E => ta ρ S (fun d S1 => ∃ c, d = .bl c ∧ Q (.bl (!c)) S1) E
theorem rd_bl {K : PySem.W.Frag} {φ : Al} {H : Hp} {b : Bool} : RD K φ H (.bl b) (.bl b) := by rw [RD]
theorem rd_int {K : PySem.W.Frag} {φ : Al} {H : Hp} {b : Int} : RD K φ H (.int b) (.int b) := by rw [RD]
theorem rd_str {K : PySem.W.Frag} {φ : Al} {H : Hp} {b : Str} : RD K φ H (.str b) (.str b) := by rw [RD]
theorem rd_non {K : PySem.W.Frag} {φ : Al} {H : Hp} : RD K φ H .non .non := by rw [RD]
theorem de_one {op} (h : DE F W a ta) : DE F W (.BoolOp op [a] pos) ta := let ⟨t, p, k⟩ := h; ⟨t, fun i => pe_one (p i), k⟩
theorem de_and (ha : DE F W a ta) (hb : DE F W (.BoolOp .And (b :: rest) pos) tb) : DE F W (.BoolOp .And (a :: b :: rest) pos) (dAndV ta tb) := by
  obtain ⟨t1, p1, k1⟩ := ha
  obtain ⟨t2, p2, k2⟩ := hb
  refine ⟨_, fun i => pe_and (p1 i) (p2 i), fun σ ρ φ S H E Q' Q o q h => ?_⟩
  refine k1 σ ρ φ S H E _ _ o (fun φ1 H1 S1 d v s1 r1 rd h1 => ?_) h
  obtain ⟨k, rfl, h1⟩ := h1
  rw [RD] at rd
  refine ⟨k, rd, ?_⟩
  cases k with
  | false => rw [if_neg Bool.false_ne_true] at h1 ⊢; exact q φ1 H1 S1 _ _ s1 r1 rd_bl h1
  | true => rw [if_pos rfl] at h1 ⊢; exact k2 σ ρ φ1 S1 H1 E _ _ (o.mono s1 r1) (q.mono s1) h1
def dIf (t : DTT) (ta tb : DTE) : DTE := fun ρ S Q E => t ρ S (fun c S1 => if c = true then ta ρ S1 Q E else tb ρ S1 Q E) E
theorem de_ifExp (hc : DT F W c uC) (ha : DE F W a ta) (hb : DE F W b tb) : DE F W (.IfExp c a b pos) (dIf uC ta tb) := by
  obtain ⟨t0, p0, k0⟩ := hc
  obtain ⟨t1, p1, k1⟩ := ha
  obtain ⟨t2, p2, k2⟩ := hb
  refine ⟨_, fun i => pe_ifExp (p0 i) (p1 i) (p2 i), fun σ ρ φ S H E Q' Q o q h => ?_⟩
  refine k0 σ ρ φ S H E _ _ o (fun φ1 H1 S1 k s1 r1 h1 => ?_) h
  cases k with
  | false => rw [if_neg Bool.false_ne_true] at h1 ⊢; exact k2 σ ρ φ1 S1 H1 E _ _ (o.mono s1 r1) (q.mono s1) h1
  | true => rw [if_pos rfl] at h1 ⊢; exact k1 σ ρ φ1 S1 H1 E _ _ (o.mono s1 r1) (q.mono s1) h1
def dTup (t : DTA) : DTE := fun ρ S Q E => t ρ S (fun ds S1 => ds.length ≤ sizeLine ∧ Q (.tup ds) S1) E
/-- a list that is never changed -/
def dLst (t : DTA) : DTE := fun ρ S Q E => t ρ S (fun ds S1 => ds.length ≤ sizeLine ∧ Q (.lst ds) S1) E
/-- a list that may be changed -/
def dNew (t : DTA) : DTE := fun ρ S Q E => t ρ S (fun ds S1 => ds.length ≤ sizeLine ∧ Q (.ref S1.length) (S1 ++ [.lst ds])) E
theorem rd_tup_new {K : PySem.W.Frag} {φ : Al} {H : Hp} {S : Store} {p : Addr} {ds : List D} {vs : List V} (r : SR K φ S H) (hp : H p = none) (rd : RDs K φ H ds vs) : RD K φ (upd H p (.tup vs)) (.tup ds) (.ref p) := by
  rw [RD]
  exact ⟨p, vs, rfl, .inl (.inl upd_same), RDs.mono (step_new hp) r.muts _ _ rd⟩
theorem rd_lst_new {K : PySem.W.Frag} {φ : Al} {H : Hp} {S : Store} {p : Addr} {ds : List D} {vs : List V} (r : SR K φ S H) (hp : H p = none) (rd : RDs K φ H ds vs) : RD K φ (upd H p (.lst vs)) (.lst ds) (.ref p) := by
  rw [RD]
  exact ⟨p, vs, rfl, ⟨upd_same, r.out hp, r.outb hp⟩, RDs.mono (step_new hp) r.muts _ _ rd⟩
/-- the ends: a new tuple, a new frozen list, a new list of the store -/
theorem EndV.tup {K : PySem.W.Frag} {φ : Al} {H : Hp} {S : Store} {Q' : QD} {Q : VK} (q : EndV K φ H Q' Q) (r : SR K φ S H) {p : Addr} {ds : List D} {vs : List V} (hp : H p = none) (rd : RDs K φ H ds vs) (h : Q' (.tup ds) S) : Q (.ref p) (upd H p (.tup vs)) :=
  q φ _ S _ _ (step_new hp) (r.new hp) (rd_tup_new r hp rd) h
theorem EndV.lst {K : PySem.W.Frag} {φ : Al} {H : Hp} {S : Store} {Q' : QD} {Q : VK} (q : EndV K φ H Q' Q) (r : SR K φ S H) {p : Addr} {ds : List D} {vs : List V} (hp : H p = none) (rd : RDs K φ H ds vs) (h : Q' (.lst ds) S) : Q (.ref p) (upd H p (.lst vs)) :=
  q φ _ S _ _ (step_new hp) (r.new hp) (rd_lst_new r hp rd) h
theorem EndV.newL {K : PySem.W.Frag} {φ : Al} {H : Hp} {S : Store} {Q' : QD} {Q : VK} (q : EndV K φ H Q' Q) (r : SR K φ S H) {p : Addr} {ds : List D} {vs : List V} (hp : H p = none) (rd : RDs K φ H ds vs) (h : Q' (.ref S.length) (S ++ [.lst ds])) : Q (.ref p) (upd H p (.lst vs)) :=
  q (φ.push p) _ _ _ _ (step_push r hp) (r.push (o := .lst ds) hp ⟨vs, upd_same, RDs.mono (step_push r hp) r.muts _ _ rd⟩) (by rw [RD]; exact ⟨p, rfl, by rw [r.len]; simp⟩) h
theorem de_tup {x1} (h : DA F W es t) : DE F W (.Tuple es x1 pos) (dTup t) := by
  obtain ⟨t1, p1, k1⟩ := h
  refine ⟨_, fun i => pe_tup (p1 i), fun σ ρ φ S H E Q' Q o q h => ?_⟩
  refine k1 σ ρ φ S H E _ _ o (fun φ1 H1 S1 ds vs s1 r1 rd h1 => ?_) h
  exact ⟨by rw [rd.length]; exact h1.1, fun p hp => (q.mono s1).tup r1 hp rd h1.2⟩
theorem de_lst (h : DA F W es t) : DE F W (.List es pos) (dLst t) := by
  obtain ⟨t1, p1, k1⟩ := h
  refine ⟨_, fun i => pe_lst (p1 i), fun σ ρ φ S H E Q' Q o q h => ?_⟩
  refine k1 σ ρ φ S H E _ _ o (fun φ1 H1 S1 ds vs s1 r1 rd h1 => ?_) h
  exact ⟨by rw [rd.length]; exact h1.1, fun p hp => (q.mono s1).lst r1 hp rd h1.2⟩
theorem de_new (h : DA F W es t) : DE F W (.List es pos) (dNew t) := by
  obtain ⟨t1, p1, k1⟩ := h
  refine ⟨_, fun i => pe_lst (p1 i), fun σ ρ φ S H E Q' Q o q h => ?_⟩
  refine k1 σ ρ φ S H E _ _ o (fun φ1 H1 S1 ds vs s1 r1 rd h1 => ?_) h
  exact ⟨by rw [rd.length]; exact h1.1, fun p hp => (q.mono s1).newL r1 hp rd h1.2⟩
end
end Dy
namespace Dy
open PySem PySem.Spec PyProof.Rows L2
def lsM (S : Store) : D → Option (List D)
  | .lst xs => some xs
  | .ref n => match S[n]? with
    | some (.lst xs) => some xs
    | _ => none
  | _ => none
def lsOf (S : Store) : D → Option (List D)
  | .lst xs => some xs
  | .frz xs => some xs
  | .ref n => match S[n]? with
    | some (.lst xs) => some xs
    | _ => none
  | _ => none
/-- a list or a tuple -/
def sqOf (S : Store) : D → Option (List D)
  | .tup xs => some xs
  | d => lsOf S d
section
variable {K : PySem.W.Frag} {φ : Al} {H : Hp} {S : Store} {d : D} {v : V} {xs : List D}
theorem rd_tup (h : RD K φ H (.tup xs) v) : ∃ a vs, v = .ref a ∧ SqT K H a vs ∧ RDs K φ H xs vs := by rw [RD] at h; exact h
theorem rd_ref {n : Nat} (h : RD K φ H (.ref n) v) : ∃ a, v = .ref a ∧ φ.l[n]? = some a := by rw [RD] at h; exact h
theorem SR.lst (r : SR K φ S H) {n : Nat} (h : RD K φ H (.ref n) v) (e : S[n]? = some (.lst xs)) : ∃ a vs, v = .ref a ∧ φ.l[n]? = some a ∧ H a = some (.lst vs) ∧ RDs K φ H xs vs := by
  obtain ⟨a, rfl, ha⟩ := rd_ref h
  obtain ⟨vs, h1, h2⟩ := r.at_ n a _ ha e
  exact ⟨a, vs, rfl, ha, h1, h2⟩
theorem ls_m (r : SR K φ S H) (rd : RD K φ H d v) (h : lsM S d = some xs) : ∃ a vs, v = .ref a ∧ H a = some (.lst vs) ∧ RDs K φ H xs vs := by
  cases d with
  | lst ys =>
    rw [RD] at rd
    obtain ⟨a, vs, rfl, h1, h2⟩ := rd
    cases h
    exact ⟨a, vs, rfl, h1.1, h2⟩
  | ref n =>
    simp only [lsM] at h
    split at h
    · rename_i ys e
      cases h
      obtain ⟨a, vs, e1, _, h1, h2⟩ := r.lst rd e
      exact ⟨a, vs, e1, h1, h2⟩
    · cases h
  | _ => cases h
theorem ls_of (r : SR K φ S H) (rd : RD K φ H d v) (h : lsOf S d = some xs) : ∃ a vs, v = .ref a ∧ SqL K H a vs ∧ RDs K φ H xs vs := by
  cases d with
  | lst ys =>
    rw [RD] at rd
    obtain ⟨a, vs, rfl, h1, h2⟩ := rd
    cases h
    exact ⟨a, vs, rfl, h1.sq, h2⟩
  | frz ys =>
    rw [RD] at rd
    obtain ⟨a, vs, rfl, h1, h2⟩ := rd
    cases h
    exact ⟨a, vs, rfl, h1.sq, h2⟩
  | ref n =>
    simp only [lsOf] at h
    split at h
    · rename_i ys e
      cases h
      obtain ⟨a, vs, e1, _, h1, h2⟩ := r.lst rd e
      exact ⟨a, vs, e1, SqL.of h1, h2⟩
    · cases h
  | _ => cases h
theorem sq_of (r : SR K φ S H) (rd : RD K φ H d v) (h : sqOf S d = some xs) : ∃ a vs, v = .ref a ∧ (SqL K H a vs ∨ SqT K H a vs) ∧ RDs K φ H xs vs := by
  unfold sqOf at h
  split at h
  · cases h
    obtain ⟨a, vs, e, h1, h2⟩ := rd_tup rd
    exact ⟨a, vs, e, .inr h1, h2⟩
  · obtain ⟨a, vs, e, h1, h2⟩ := ls_of r rd h
    exact ⟨a, vs, e, .inl h1, h2⟩
end
def dI0 (g : Int → Int → D) : D2 := fun x y S Q => ∃ i j, x = .int i ∧ y = .int j ∧ Q (g i j) S
def dI (C : Int → Int → Prop) (g : Int → Int → D) : D2 := fun x y S Q => ∃ i j, x = .int i ∧ y = .int j ∧ C i j ∧ Q (g i j) S
theorem lk_I0 {K : PySem.W.Frag} {g : Int → Int → D} {g' : Int → Int → V} (hg : ∀ i j, Flat (g i j) (g' i j)) : Lk K (dI0 g) (rI0 g') := by
  rintro φ S H Q' Q d1 d2 v1 v2 r r1 r2 q ⟨i, j, rfl, rfl, h⟩
  rw [RD] at r1 r2
  exact ⟨i, j, r1, r2, q φ H S _ _ .refl r (hg i j).rd h⟩
theorem lk_I {K : PySem.W.Frag} {C : Int → Int → Prop} {g : Int → Int → D} {g' : Int → Int → V} (hg : ∀ i j, Flat (g i j) (g' i j)) : Lk K (dI C g) (rI C g') := by
  rintro φ S H Q' Q d1 d2 v1 v2 r r1 r2 q ⟨i, j, rfl, rfl, c, h⟩
  rw [RD] at r1 r2
  exact ⟨i, j, r1, r2, c, q φ H S _ _ .refl r (hg i j).rd h⟩
theorem Lk.or {K : PySem.W.Frag} {a b : D2} {r s : R2} (h : Lk K a r) (k : Lk K b s) : Lk K (fun x y S Q => a x y S Q ∨ b x y S Q) (fun x y H Q => r x y H Q ∨ s x y H Q) := by
  rintro φ S H Q' Q d1 d2 v1 v2 r r1 r2 q (z | z)
  · exact .inl (h _ _ _ _ _ _ _ _ _ r r1 r2 q z)
  · exact .inr (k _ _ _ _ _ _ _ _ _ r r1 r2 q z)
def dAddS : D2 := fun x y S Q => ∃ i j, x = .str i ∧ y = .str j ∧ i.length + j.length ≤ sizeLine ∧ Q (.str (i ++ j)) S
def dAddT : D2 := fun x y S Q => ∃ xs ys, x = .tup xs ∧ y = .tup ys ∧ xs.length + ys.length ≤ sizeLine ∧ Q (.tup (xs ++ ys)) S
/-- two lists: a new one that is not changed any more | one of the store -/
def dCat : D2 := fun x y S Q => ∃ xs ys, lsM S x = some xs ∧ lsM S y = some ys ∧ xs.length + ys.length ≤ sizeLine ∧ Q (.lst (xs ++ ys)) S
section
variable {K : PySem.W.Frag}
theorem lk_addS : Lk K dAddS (fun x y H Q => ∃ i j, x = .str i ∧ y = .str j ∧ i.length + j.length ≤ sizeLine ∧ Q (.str (i ++ j)) H) := by
  rintro φ S H Q' Q d1 d2 v1 v2 r r1 r2 q ⟨i, j, rfl, rfl, c, h⟩
  rw [RD] at r1 r2
  exact ⟨i, j, r1, r2, c, q φ H S _ _ .refl r rd_str h⟩
theorem RDs.ne_nil {φ : Al} {H : Hp} {xs : List D} {vs : List V} (h : RDs K φ H xs vs) : vs = [] ↔ xs = [] := by
  constructor
  · intro e
    have := h.length
    rw [e] at this
    exact List.length_eq_zero_iff.mp this.symm
  · intro e
    rw [e, RDs] at h; exact h
theorem lk_addT : Lk K dAddT (rCatA K) := by
  rintro φ S H Q' Q d1 d2 v1 v2 r r1 r2 q ⟨xs, ys, rfl, rfl, c, h⟩
  obtain ⟨a, vs, rfl, h1, h2⟩ := rd_tup r1
  obtain ⟨b, ws, rfl, k1, k2⟩ := rd_tup r2
  refine ⟨a, b, vs, ws, rfl, rfl, h1, k1, by rw [h2.length, k2.length]; exact c, fun e => ?_, fun _ e => ?_, fun _ _ p hp => ?_⟩
  · have e' := h2.ne_nil.mp e
    subst e'
    exact q φ H S _ _ .refl r r2 h
  · have e' := k2.ne_nil.mp e
    subst e'
    rw [List.append_nil] at h
    exact q φ H S _ _ .refl r r1 h
  · exact q.tup r hp (h2.append k2) h
theorem lk_cat : Lk K dCat rCat := by
  rintro φ S H Q' Q d1 d2 v1 v2 r r1 r2 q ⟨xs, ys, e1, e2, c, h⟩
  obtain ⟨a, vs, rfl, h1, h2⟩ := ls_m r r1 e1
  obtain ⟨b, ws, rfl, k1, k2⟩ := ls_m r r2 e2
  exact ⟨a, b, vs, ws, rfl, rfl, h1, k1, by rw [h2.length, k2.length]; exact c, fun p hp => q.lst r hp (h2.append k2) h⟩
/-- + of ints, texts, tuples -/
def dAdd : D2 := fun x y S Q => match x, y with
  | .int i, .int j => Q (.int (i + j)) S
  | .str i, .str j => i.length + j.length ≤ sizeLine ∧ Q (.str (i ++ j)) S
  | .tup xs, .tup ys => xs.length + ys.length ≤ sizeLine ∧ Q (.tup (xs ++ ys)) S
  | _, _ => False
theorem op_addA {X : Cx} : OpR X (binaryOp .Add) (fun x y H Q => rI0 (fun i j => .int (i + j)) x y H Q ∨ (∃ i j, x = .str i ∧ y = .str j ∧ i.length + j.length ≤ sizeLine ∧ Q (.str (i ++ j)) H) ∨ rCatA X.K x y H Q) :=
  OpR.or op_add (OpR.or op_add_str op_catA)
theorem lk_add : Lk K dAdd (fun x y H Q => rI0 (fun i j => .int (i + j)) x y H Q ∨ (∃ i j, x = .str i ∧ y = .str j ∧ i.length + j.length ≤ sizeLine ∧ Q (.str (i ++ j)) H) ∨ rCatA K x y H Q) := by
  intro φ S H Q' Q x y v1 v2 r r1 r2 q h
  unfold dAdd at h
  split at h
  · exact .inl (lk_I0 (g := fun i j => .int (i + j)) (fun _ _ => rfl) φ S H Q' Q _ _ v1 v2 r r1 r2 q ⟨_, _, rfl, rfl, h⟩)
  · exact .inr (.inl (lk_addS φ S H Q' Q _ _ v1 v2 r r1 r2 q ⟨_, _, rfl, rfl, h⟩))
  · exact .inr (.inr (lk_addT φ S H Q' Q _ _ v1 v2 r r1 r2 q ⟨_, _, rfl, rfl, h⟩))
  · exact h.elim
end
section
variable {F : Fam} {W : WX} {a b c e : Expr} {es rest : List Expr} {pos : Pos} {ta tb tc te : DTE} {uA uB uC : DTT} {t : DTA}
theorem de_add (ha : DE F W a ta) (hb : DE F W b tb) : DE F W (.BinOp a .Add b pos) (dOp dAdd ta tb) := de_op (fun i => F.hK i ▸ op_addA) lk_add ha hb
theorem de_cat (ha : DE F W a ta) (hb : DE F W b tb) : DE F W (.BinOp a .Add b pos) (dOp dCat ta tb) := de_op (fun _ => op_cat) lk_cat ha hb
theorem de_sub (ha : DE F W a ta) (hb : DE F W b tb) : DE F W (.BinOp a .Sub b pos) (dOp (dI0 fun i j => .int (i - j)) ta tb) := de_op (fun _ => op_sub) (lk_I0 fun _ _ => rfl) ha hb
/-- one factor small, or both not too great -/
def CMulA (i j : Int) : Prop := CMul i j ∨ CMulW i j
theorem op_mulA {X : Cx} : OpR X (binaryOp .Mult) (rI CMulA fun i j => .int (i * j)) := by
  intro pins s σ H x y v u Q I rx ry h
  obtain ⟨i, j, e1, e2, c, q⟩ := h
  rcases c with c | c
  · exact op_mul pins s σ H x y v u Q I rx ry ⟨i, j, e1, e2, c, q⟩
  · exact op_mulW pins s σ H x y v u Q I rx ry ⟨i, j, e1, e2, c, q⟩
theorem de_mul (ha : DE F W a ta) (hb : DE F W b tb) : DE F W (.BinOp a .Mult b pos) (dOp (dI CMulA fun i j => .int (i * j)) ta tb) := de_op (fun _ => op_mulA) (lk_I fun _ _ => rfl) ha hb
theorem de_fdiv (ha : DE F W a ta) (hb : DE F W b tb) : DE F W (.BinOp a .FloorDiv b pos) (dOp (dI CDivW fun i j => .int (i / j)) ta tb) := de_op (fun _ => op_fdivW) (lk_I fun _ _ => rfl) ha hb
theorem de_mod (ha : DE F W a ta) (hb : DE F W b tb) : DE F W (.BinOp a .Mod b pos) (dOp (dI (fun _ j => 0 < j) fun i j => .int (i % j)) ta tb) := de_op (fun _ => op_mod) (lk_I fun _ _ => rfl) ha hb
theorem de_pow (ha : DE F W a ta) (hb : DE F W b tb) : DE F W (.BinOp a .Pow b pos) (dOp (dI CPow fun i j => .int (i ^ j.toNat)) ta tb) := de_op (fun _ => op_pow) (lk_I fun _ _ => rfl) ha hb
def dNeg : D → Store → QD → Prop := fun x S Q => ∃ i, x = .int i ∧ Q (.int (-i)) S
theorem de_neg (ha : DE F W a ta) : DE F W (.UnaryOp .USub a pos) (dUn dNeg ta) := de_un (fun _ => un_neg) (by
  rintro φ S H Q' Q d v r rd q ⟨i, rfl, h⟩
  rw [RD] at rd
  exact ⟨i, rd, q φ H S _ _ .refl r rd_int h⟩) ha
abbrev dLt : D2 := dI0 fun i j => .bl (decide (i < j))
abbrev dGt : D2 := dI0 fun i j => .bl (decide (j < i))
abbrev dGe : D2 := dI0 fun i j => .bl (decide (j ≤ i))
theorem lk_lt {K : PySem.W.Frag} : Lk K dLt (rI0 fun i j => .bl (decide (i < j))) := lk_I0 fun _ _ => rfl
theorem lk_gt {K : PySem.W.Frag} : Lk K dGt (rI0 fun i j => .bl (decide (j < i))) := lk_I0 fun _ _ => rfl
theorem lk_ge {K : PySem.W.Frag} : Lk K dGe (rI0 fun i j => .bl (decide (j ≤ i))) := lk_I0 fun _ _ => rfl
/-- is None, is not None -/
def isN : D → Bool
  | .non => true
  | _ => false
def dIsN : D2 := fun x y S Q => y = .non ∧ Q (.bl (isN x)) S
def dNotN : D2 := fun x y S Q => y = .non ∧ Q (.bl (!isN x)) S
def dChain (r r' : D2) (ta tb tc : DTE) : DTE := fun ρ S Q E => ta ρ S (fun x S1 => tb ρ S1 (fun y S2 => r x y S2 fun z S3 => ∃ k, z = .bl k ∧ (if k = true then tc ρ S3 (fun w S4 => r' y w S4 Q) E else Q (.bl false) S3)) E) E
def dIx : D2 := fun x y S Q => ∃ xs i v, sqOf S x = some xs ∧ y = .int i ∧ atI xs i = some v ∧ Q v S
theorem at_rd {K : PySem.W.Frag} {φ : Al} {H : Hp} {xs : List D} {vs : List V} {i : Int} {d : D} (h : RDs K φ H xs vs) (e : atI xs i = some d) : ∃ v, atI vs i = some v ∧ RD K φ H d v := by
  unfold atI at e ⊢
  rw [h.length]
  cases q : ixN xs.length i with
  | none => rw [q] at e; cases e
  | some j =>
    rw [q] at e
    obtain ⟨v, e1, e2⟩ := h.get (i := j) e
    exact ⟨v, e1, e2⟩
theorem lk_ix {K : PySem.W.Frag} : Lk K dIx (rIx K) := by
  rintro φ S H Q' Q d1 d2 v1 v2 r r1 r2 q ⟨xs, i, d, e, rfl, e2, h⟩
  obtain ⟨a, vs, rfl, h1, h2⟩ := sq_of r r1 e
  rw [RD] at r2
  subst r2
  obtain ⟨v, e3, rd⟩ := at_rd h2 e2
  rcases h1 with h1 | h1
  · exact .inl ⟨a, vs, i, v, rfl, rfl, h1, e3, q φ H S _ _ .refl r rd h⟩
  · exact .inr (.inl ⟨a, vs, i, v, rfl, rfl, h1, e3, q φ H S _ _ .refl r rd h⟩)
theorem de_at (ha : DE F W a ta) (hb : DE F W b tb) (hs : PlainIx b := by exact fun _ _ => rfl) : DE F W (.Subscript a b pos) (dOp dIx ta tb) := de_ix (fun i => F.hK i ▸ ix_seq) lk_ix ha hb hs
abbrev DTO := Rho → Store → (Option Int → Store → Prop) → XQ → Prop
def EndO (K : PySem.W.Frag) (φ : Al) (H : Hp) (Q' : Option Int → Store → Prop) (Q : Option Int → Hp → Prop) : Prop :=
  ∀ φ' H' S' b, Step φ φ' H H' → SR K φ' S' H' → Q' b S' → Q b H'
def DO (F : Fam) (W : WX) (e : Option Expr) (t' : DTO) : Prop :=
  ∃ t : TO, (∀ i, PO (F.X i) e t) ∧ ∀ σ ρ φ S H E Q' Q, Ok F.K W σ ρ φ S H E → EndO F.K φ H Q' Q → t' ρ S Q' E → t σ H Q
def dNoPart : DTO := fun _ S Q _ => Q none S
def dPart (te : DTE) : DTO := fun ρ S Q E => te ρ S (fun d S1 => ∃ i, d = .int i ∧ Q (some i) S1) E
theorem do_none : DO F W none dNoPart := ⟨_, fun _ => po_none, fun σ ρ φ S H E Q' Q o q h => q φ H S _ .refl o.sr h⟩
theorem do_some (h : DE F W e te) : DO F W (some e) (dPart te) := by
  obtain ⟨t1, p1, k1⟩ := h
  refine ⟨_, fun i => po_some (p1 i), fun σ ρ φ S H E Q' Q o q h => ?_⟩
  refine k1 σ ρ φ S H E _ _ o (fun φ1 H1 S1 d v s1 r1 rd h1 => ?_) h
  obtain ⟨i, rfl, h2⟩ := h1
  rw [RD] at rd
  exact ⟨i, rd, q φ1 H1 S1 _ s1 r1 h2⟩
def cutD (xs : List D) (lo hi : Option Int) : List D := (xs.drop (HT.sIx xs.length 0 lo)).take (HT.sIx xs.length xs.length hi - HT.sIx xs.length 0 lo)
theorem cut_rd {K : PySem.W.Frag} {φ : Al} {H : Hp} {xs : List D} {vs : List V} (h : RDs K φ H xs vs) (lo hi : Option Int) : RDs K φ H (cutD xs lo hi) (cutV vs lo hi) := by
  unfold cutD cutV
  rw [h.length]
  exact (h.drop _).take _
def dSl (r : D → Option Int → Option Int → Store → QD → Prop) (te : DTE) (tl th : DTO) : DTE := fun ρ S Q E => te ρ S (fun x S1 => tl ρ S1 (fun l S2 => th ρ S2 (fun u S3 => r x l u S3 Q) E) E) E
/-- of a tuple; of a list: a new one that is not changed any more -/
def dSlT : D → Option Int → Option Int → Store → QD → Prop := fun x lo hi S Q => ∃ xs, x = .tup xs ∧ Q (.tup (cutD xs lo hi)) S
def dSlL : D → Option Int → Option Int → Store → QD → Prop := fun x lo hi S Q => ∃ xs, lsOf S x = some xs ∧ Q (.lst (cutD xs lo hi)) S
theorem de_sl {r : V → Option Int → Option Int → Hp → VK → Prop} {r' : D → Option Int → Option Int → Store → QD → Prop} {l u : Option Expr} {tl th : DTO} {p2 : Pos} (hr : ∀ i, SlR (F.X i) r)
    (lk : ∀ φ S H Q' Q d v lo hi, SR F.K φ S H → RD F.K φ H d v → EndV F.K φ H Q' Q → r' d lo hi S Q' → r v lo hi H Q) (he : DE F W e te) (hl : DO F W l tl) (hu : DO F W u th) : DE F W (.Subscript e (.Slice l u none p2) pos) (dSl r' te tl th) := by
  obtain ⟨t1, p1, k1⟩ := he
  obtain ⟨t2, p2, k2⟩ := hl
  obtain ⟨t3, p3, k3⟩ := hu
  refine ⟨_, fun i => pe_slice (hr i) (p1 i) (p2 i) (p3 i), fun σ ρ φ S H E Q' Q o q h => ?_⟩
  refine k1 σ ρ φ S H E _ _ o (fun φ1 H1 S1 d v s1 r1 rd h1 => ?_) h
  refine k2 σ ρ φ1 S1 H1 E _ _ (o.mono s1 r1) (fun φ2 H2 S2 lo s2 r2 h2 => ?_) h1
  refine k3 σ ρ φ2 S2 H2 E _ _ (o.mono (s1.trans s2) r2) (fun φ3 H3 S3 hi s3 r3 h3 => ?_) h2
  exact lk φ3 S3 H3 _ _ d v lo hi r3 (RD.mono (s2.trans s3) r1.muts _ _ rd) (q.mono ((s1.trans s2).trans s3)) h3
theorem de_slL {l u : Option Expr} {tl th : DTO} {p2 : Pos} (he : DE F W e te) (hl : DO F W l tl) (hu : DO F W u th) : DE F W (.Subscript e (.Slice l u none p2) pos) (dSl dSlL te tl th) := by
  refine de_sl (fun i => F.hK i ▸ sl_list) ?_ he hl hu
  rintro φ S H Q' Q d v lo hi r rd q ⟨xs, e, h⟩
  obtain ⟨a, vs, rfl, h1, h2⟩ := ls_of r rd e
  exact ⟨a, vs, rfl, h1, fun p hp => q.lst r hp (cut_rd h2 lo hi) h⟩
abbrev DR := List D → Store → QD → Prop
def LkC (K : PySem.W.Frag) (r' : DR) (r : List V → Hp → VK → Prop) : Prop := ∀ φ S H Q' Q ds vs, SR K φ S H → RDs K φ H ds vs → EndV K φ H Q' Q → r' ds S Q' → r vs H Q
def dCB (r : DR) (t : DTA) : DTE := fun ρ S Q E => t ρ S (fun ds S1 => r ds S1 Q) E
theorem de_callB {x : Str} {p : Pos} {id : String} {r : List V → Hp → VK → Prop} {r' : DR} (hc : ∀ i, CallR (F.X i) (.builtin id) r) (l : LkC F.K r' r) (hg : ∀ i, Gl (F.X i) x) (hm : ∀ i, (F.X i).mg x = none) (hv : bootBuiltins x = some (.builtin id)) (ha : DA F W (e :: es) t) (hn : x ≠ "__name__" := by decide) (hdb : (x == ("__debug__" : Str)) = false := by decide)
    (he : ∀ i, starEach (e :: es) (F.X i).env = (false, eval e (F.X i).env) :: starEach es (F.X i).env := by intro _; rfl) (hpl : ∀ i, (backTo pos (starEach es (F.X i).env)).any (·.1) = false := by intro _; rfl) : DE F W (.Call (.Name x p) (e :: es) [] pos) (dCB r' t) := by
  obtain ⟨t1, p1, k1⟩ := ha
  refine ⟨_, fun i => pe_callB (hc i) (hg i) (hm i) hv (p1 i) hn hdb (he i) (hpl i), fun σ ρ φ S H E Q' Q o q h => ?_⟩
  exact k1 σ ρ φ S H E _ _ o (fun φ1 H1 S1 ds vs s1 r1 rd h1 => l φ1 S1 H1 _ _ ds vs r1 rd (q.mono s1) h1) h
theorem de_callTy {x : Str} {p : Pos} {T : String} {r : List V → Hp → VK → Prop} {r' : DR} (hc : ∀ i, CallR (F.X i) (.type T) r) (l : LkC F.K r' r) (hg : ∀ i, Gl (F.X i) x) (hm : ∀ i, (F.X i).mg x = none) (hv : bootBuiltins x = some (.type T)) (ha : DA F W (e :: es) t) (hn : x ≠ "__name__" := by decide) (hdb : (x == ("__debug__" : Str)) = false := by decide)
    (he : ∀ i, starEach (e :: es) (F.X i).env = (false, eval e (F.X i).env) :: starEach es (F.X i).env := by intro _; rfl) (hpl : ∀ i, (backTo pos (starEach es (F.X i).env)).any (·.1) = false := by intro _; rfl) : DE F W (.Call (.Name x p) (e :: es) [] pos) (dCB r' t) := by
  obtain ⟨t1, p1, k1⟩ := ha
  refine ⟨_, fun i => pe_callTy (hc i) (hg i) (hm i) hv (p1 i) hn hdb (he i) (hpl i), fun σ ρ φ S H E Q' Q o q h => ?_⟩
  exact k1 σ ρ φ S H E _ _ o (fun φ1 H1 S1 ds vs s1 r1 rd h1 => l φ1 S1 H1 _ _ ds vs r1 rd (q.mono s1) h1) h
section
variable {K : PySem.W.Frag}
theorem rds1 {φ : Al} {H : Hp} {d : D} {vs : List V} (h : RDs K φ H [d] vs) : ∃ v, vs = [v] ∧ RD K φ H d v := by
  rw [RDs] at h
  obtain ⟨v, r, rfl, h1, h2⟩ := h
  rw [RDs] at h2
  subst h2
  exact ⟨v, rfl, h1⟩
theorem rds2 {φ : Al} {H : Hp} {d c : D} {vs : List V} (h : RDs K φ H [d, c] vs) : ∃ v w, vs = [v, w] ∧ RD K φ H d v ∧ RD K φ H c w := by
  rw [RDs] at h
  obtain ⟨v, r, rfl, h1, h2⟩ := h
  obtain ⟨w, rfl, h3⟩ := rds1 h2
  exact ⟨v, w, rfl, h1, h3⟩
def cInt : DR := fun ds S Q => (∃ i, ds = [.int i] ∧ Q (.int i) S) ∨ ∃ k, ds = [.bl k] ∧ Q (.int (if k then 1 else 0)) S
theorem lk_int : LkC K cInt (fun xs H Q => (∃ i, xs = [.int i] ∧ Q (.int i) H) ∨ ∃ k, xs = [.bl k] ∧ Q (.int (if k then 1 else 0)) H) := by
  rintro φ S H Q' Q ds vs r rd q (⟨i, rfl, h⟩ | ⟨i, rfl, h⟩)
  · obtain ⟨v, rfl, h1⟩ := rds1 rd
    rw [RD] at h1
    exact .inl ⟨i, by rw [h1], q φ H S _ _ .refl r rd_int h⟩
  · obtain ⟨v, rfl, h1⟩ := rds1 rd
    rw [RD] at h1
    exact .inr ⟨i, by rw [h1], q φ H S _ _ .refl r rd_int h⟩
def cAbs : DR := fun ds S Q => ∃ i, ds = [.int i] ∧ Q (.int (if i < 0 then -i else i)) S
theorem lk_abs : LkC K cAbs (fun xs H Q => ∃ i, xs = [.int i] ∧ Q (.int (if i < 0 then -i else i)) H) := by
  rintro φ S H Q' Q ds vs r rd q ⟨i, rfl, h⟩
  obtain ⟨v, rfl, h1⟩ := rds1 rd
  rw [RD] at h1
  exact ⟨i, by rw [h1], q φ H S _ _ .refl r rd_int h⟩
def cLen : DR := fun ds S Q => ∃ d xs, ds = [d] ∧ sqOf S d = some xs ∧ Q (.int xs.length) S
theorem lk_len : LkC K cLen (fun xs H Q => ∃ p ys, xs = [.ref p] ∧ (SqL K H p ys ∨ SqT K H p ys) ∧ Q (.int ys.length) H) := by
  rintro φ S H Q' Q ds vs r rd q ⟨d, xs, rfl, e, h⟩
  obtain ⟨v, rfl, h1⟩ := rds1 rd
  obtain ⟨a, ws, rfl, h2, h3⟩ := sq_of r h1 e
  refine ⟨a, ws, rfl, h2, ?_⟩
  rw [h3.length]
  exact q φ H S _ _ .refl r rd_int h
/-- list(x): a new one, not changed any more | of the store -/
def cList : DR := fun ds S Q => ∃ d xs, ds = [d] ∧ sqOf S d = some xs ∧ Q (.lst xs) S
def cListN : DR := fun ds S Q => ∃ d xs, ds = [d] ∧ sqOf S d = some xs ∧ Q (.ref S.length) (S ++ [.lst xs])
def cTuple : DR := fun ds S Q => ∃ d xs, ds = [d] ∧ sqOf S d = some xs ∧ Q (.tup xs) S
def cSum : DR := fun ds S Q => ∃ (d : D) (ns : List Int), ds = [d] ∧ lsOf S d = some (ns.map D.int) ∧ Q (.int ns.sum) S
theorem lk_sum : LkC K cSum (rSum K) := by
  rintro φ S H Q' Q ds vs r rd q ⟨d, bs, rfl, e, h⟩
  obtain ⟨v, rfl, h1⟩ := rds1 rd
  obtain ⟨a, ws, rfl, h2, h3⟩ := ls_of r h1 e
  have := h3.ints_inv
  subst this
  exact ⟨a, bs, rfl, h2, q φ H S _ _ .refl r rd_int h⟩
end
end
end Dy
namespace Dy
open PySem PySem.Spec PyProof.Rows L2
structure DEnds where
  nx : Rho → Store → Prop
  rt : D → Store → Prop
  bk : Rho → Store → Prop := fun _ _ => False
  ct : Rho → Store → Prop := fun _ _ => False
  ex : Exc → Rho → Store → Prop := fun _ _ _ => False
abbrev DTS := DEnds → Rho → Store → Prop
structure Lnk (K : PySem.W.Frag) (W : WX) (φ : Al) (H : Hp) (D' : DEnds) (D : Ends) : Prop where
  nx : ∀ φ' H' S' ρ' σ', Step φ φ' H H' → SR K φ' S' H' → Sl K φ' H' ρ' σ' → D'.nx ρ' S' → D.nx σ' H'
  rt : ∀ φ' H' S' d v, Step φ φ' H H' → SR K φ' S' H' → RD K φ' H' d v → D'.rt d S' → D.rt v H'
  bk : ∀ φ' H' S' ρ' σ', Step φ φ' H H' → SR K φ' S' H' → Sl K φ' H' ρ' σ' → D'.bk ρ' S' → D.bk σ' H'
  ct : ∀ φ' H' S' ρ' σ', Step φ φ' H H' → SR K φ' S' H' → Sl K φ' H' ρ' σ' → D'.ct ρ' S' → D.ct σ' H'
  ex : ∀ φ' H' S' ρ' σ' x cls d, Step φ φ' H H' → SR K φ' S' H' → Sl K φ' H' ρ' σ' → ExR K φ' H' x cls d → D'.ex x ρ' S' → W cls d σ' H'
section
variable {K : PySem.W.Frag} {W : WX} {φ φ' : Al} {H H' : Hp} {S : Store} {ρ : Rho} {σ : L2.St} {D' : DEnds} {D : Ends}
theorem Lnk.mono (l : Lnk K W φ H D' D) (s : Step φ φ' H H') : Lnk K W φ' H' D' D :=
  ⟨fun _ _ _ _ _ t r sl h => l.nx _ _ _ _ _ (s.trans t) r sl h, fun _ _ _ _ _ t r rd h => l.rt _ _ _ _ _ (s.trans t) r rd h, fun _ _ _ _ _ t r sl h => l.bk _ _ _ _ _ (s.trans t) r sl h,
    fun _ _ _ _ _ t r sl h => l.ct _ _ _ _ _ (s.trans t) r sl h, fun _ _ _ _ _ _ _ _ t r sl x h => l.ex _ _ _ _ _ _ _ _ (s.trans t) r sl x h⟩
theorem Lnk.ok (l : Lnk K W φ H D' D) (r : SR K φ S H) (sl : Sl K φ H ρ σ) : Ok K W σ ρ φ S H (fun x S1 => D'.ex x ρ S1) :=
  ⟨r, sl, fun _ _ _ _ _ _ t r' x h => l.ex _ _ _ _ _ _ _ _ t r' (sl.mono t r.muts) x h⟩
/-- another next end -/
theorem Lnk.next (l : Lnk K W φ H D' D) {n' : Rho → Store → Prop} {n : L2.St → Hp → Prop} (h : ∀ φ' H' S' ρ' σ', Step φ φ' H H' → SR K φ' S' H' → Sl K φ' H' ρ' σ' → n' ρ' S' → n σ' H') : Lnk K W φ H { D' with nx := n' } { D with nx := n } :=
  ⟨h, l.rt, l.bk, l.ct, l.ex⟩
end
def DS (F : Fam) (W : WX) (st : Stmt) (t' : DTS) : Prop :=
  ∃ t : TS, (∀ i, PS (F.X i) st t) ∧ ∀ σ ρ φ S H D' D, SR F.K φ S H → Sl F.K φ H ρ σ → Lnk F.K W φ H D' D → t' D' ρ S → t D σ H
def DSs (F : Fam) (W : WX) (sts : List Stmt) (t' : DTS) : Prop :=
  ∃ t : TS, (∀ i, PSs (F.X i) sts t) ∧ ∀ σ ρ φ S H D' D, SR F.K φ S H → Sl F.K φ H ρ σ → Lnk F.K W φ H D' D → t' D' ρ S → t D σ H
section
variable {F : Fam} {W : WX} {a b c e : Expr} {es : List Expr} {st : Stmt} {rest sa sb : List Stmt} {pos : Pos} {te ta tb : DTE} {uC : DTT} {t : DTA} {u v w : DTS}
def dNext : DTS := fun D ρ S => D.nx ρ S
def dSeq (u v : DTS) : DTS := fun D ρ S => u { D with nx := v D } ρ S
theorem ds_nil : DSs F W [] dNext := ⟨_, fun _ => pss_nil, fun σ ρ φ S H D' D r sl l h => l.nx _ _ _ _ _ .refl r sl h⟩
theorem ds_cons (h1 : DS F W st u) (h2 : DSs F W rest v) : DSs F W (st :: rest) (dSeq u v) := by
  obtain ⟨t1, p1, k1⟩ := h1
  obtain ⟨t2, p2, k2⟩ := h2
  exact ⟨_, fun i => pss_cons (p1 i) (p2 i), fun σ ρ φ S H D' D r sl l h =>
    k1 σ ρ φ S H _ _ r sl (l.next fun φ1 H1 S1 ρ1 σ1 s r1 sl1 q => k2 σ1 ρ1 φ1 S1 H1 D' D r1 sl1 (l.mono s) q) h⟩
theorem ds_one (h : DS F W st u) : DSs F W [st] u := let ⟨t, p, k⟩ := h; ⟨t, fun i => pss_one (p i), k⟩
def dDrop (te : DTE) : DTS := fun D ρ S => te ρ S (fun _ S1 => D.nx ρ S1) (fun x S1 => D.ex x ρ S1)
theorem ds_expr (he : DE F W e te) (hs : ∀ i, swapsWith e none pos.line (F.X i).env = pure false := by intro _; rfl) : DS F W (.Expr e pos) (dDrop te) := by
  obtain ⟨t1, p1, k1⟩ := he
  exact ⟨_, fun i => ps_expr (p1 i) (hs i), fun σ ρ φ S H D' D r sl l h => k1 σ ρ φ S H _ _ _ (l.ok r sl) (fun φ1 H1 S1 d v s r1 rd q => l.nx _ _ _ _ _ s r1 (sl.mono s r.muts) q) h⟩
def dRet (te : DTE) : DTS := fun D ρ S => te ρ S D.rt (fun x S1 => D.ex x ρ S1)
theorem ds_ret (he : DE F W e te) : DS F W (.Return (some e) pos) (dRet te) := by
  obtain ⟨t1, p1, k1⟩ := he
  exact ⟨_, fun i => ps_ret (p1 i), fun σ ρ φ S H D' D r sl l h => k1 σ ρ φ S H _ _ _ (l.ok r sl) (fun φ1 H1 S1 d v s r1 rd q => l.rt _ _ _ _ _ s r1 rd q) h⟩
def dRetN : DTS := fun D _ S => D.rt .non S
def dIfS (t : DTT) (u v : DTS) : DTS := fun D ρ S => t ρ S (fun b S1 => if b = true then u D ρ S1 else v D ρ S1) (fun x S1 => D.ex x ρ S1)
theorem ds_if (hc : DT F W c uC) (ha : DSs F W sa u) (hb : DSs F W sb v) : DS F W (.If c sa sb pos) (dIfS uC u v) := by
  obtain ⟨t0, p0, k0⟩ := hc
  obtain ⟨t1, p1, k1⟩ := ha
  obtain ⟨t2, p2, k2⟩ := hb
  refine ⟨_, fun i => ps_if (p0 i) (p1 i) (p2 i), fun σ ρ φ S H D' D r sl l h => ?_⟩
  refine k0 σ ρ φ S H _ _ _ (l.ok r sl) (fun φ1 H1 S1 k s r1 q => ?_) h
  cases k with
  | false => rw [if_neg Bool.false_ne_true] at q ⊢; exact k2 σ ρ φ1 S1 H1 D' D r1 (sl.mono s r.muts) (l.mono s) q
  | true => rw [if_pos rfl] at q ⊢; exact k1 σ ρ φ1 S1 H1 D' D r1 (sl.mono s r.muts) (l.mono s) q
abbrev DTG := D → Rho → Store → (Rho → Store → Prop) → Prop
abbrev DTGs := List D → Rho → Store → (Rho → Store → Prop) → Prop
def EndG (K : PySem.W.Frag) (φ : Al) (H : Hp) (Q' : Rho → Store → Prop) (Q : L2.St → Hp → Prop) : Prop := ∀ φ' H' S' ρ' σ', Step φ φ' H H' → SR K φ' S' H' → Sl K φ' H' ρ' σ' → Q' ρ' S' → Q σ' H'
def DG (F : Fam) (target : Expr) (t' : DTG) : Prop :=
  ∃ t : TG, (∀ i, PG (F.X i) target t) ∧ ∀ σ ρ φ S H d v Q' Q, SR F.K φ S H → Sl F.K φ H ρ σ → RD F.K φ H d v → EndG F.K φ H Q' Q → t' d ρ S Q' → t v σ H Q
def eName (i : Nat) : DTG := fun d ρ S Q => Q (ρ.set i (some d)) S
theorem dg_name (i : Nat) {x : Str} (hN : ∀ j, (F.X j).N.Nodup) (hi : ∀ j, (F.X j).N[i]? = some x := by intro _; rfl) (hx : ∀ j, Loc (F.X j).env.scope x := by intro _; first | exact Or.inl rfl | exact Or.inr rfl) (hf : ∀ j, (F.X j).fn x = true ∨ (F.X j).env.scope.names.lookup x = some .local := by intro _; first | exact .inl rfl | exact .inr rfl) : DG F (.Name x pos) (eName i) :=
  ⟨_, fun j => pg_name (hN j) (hi j) (hx j) (hf j), fun σ ρ φ S H d v Q' Q r sl rd q h => q _ _ _ _ _ .refl r (sl.set rd) h⟩
def eNil : DTGs := fun ds ρ S Q => ds = [] ∧ Q ρ S
def eCons (t : DTG) (u : DTGs) : DTGs := fun ds ρ S Q => ∃ d r, ds = d :: r ∧ t d ρ S fun ρ1 S1 => u r ρ1 S1 Q
def eTup (n : Nat) (t : DTGs) : DTG := fun d ρ S Q => ∃ xs, d = .tup xs ∧ xs.length = n ∧ t xs ρ S Q
def dAsg (te : DTE) (g : DTG) : DTS := fun D ρ S => te ρ S (fun d S1 => g d ρ S1 D.nx) (fun x S1 => D.ex x ρ S1)
theorem ds_set (i : Nat) {x : Str} {pos' : Pos} (hN : ∀ j, (F.X j).N.Nodup) (he : DE F W e te) (hi : ∀ j, (F.X j).N[i]? = some x := by intro _; rfl) (hx : ∀ j, Loc (F.X j).env.scope x := by intro _; first | exact Or.inl rfl | exact Or.inr rfl) (hs : ∀ j, swapsWith e (some (.Name x pos')) pos.line (F.X j).env = pure false := by intro _; rfl) (hf : ∀ j, (F.X j).fn x = true ∨ (F.X j).env.scope.names.lookup x = some .local := by intro _; first | exact .inl rfl | exact .inr rfl) :
    DS F W (.Assign [.Name x pos'] e pos) (dAsg te (eName i)) := by
  obtain ⟨t1, p1, k1⟩ := he
  exact ⟨_, fun j => ps_set (hN j) (hi j) (hx j) (p1 j) (hs j) (hf j), fun σ ρ φ S H D' D r sl l h => k1 σ ρ φ S H _ _ _ (l.ok r sl) (fun φ1 H1 S1 d v s r1 rd q => l.nx _ _ _ _ _ s r1 ((sl.mono s r.muts).set rd) q) h⟩
/-- a, b = x, y with plain local names -/
def dPar (i j : Nat) (t : DTA) : DTS := fun D ρ S => t ρ S (fun ds S1 => ∃ d c, ds = [d, c] ∧ D.nx ((ρ.set i (some d)).set j (some c)) S1) (fun x S1 => D.ex x ρ S1)
/-- x op= e, x a name -/
def dAug (i : Nat) (te : DTE) (r : D2) : DTS := fun D ρ S => ∃ x, ρ[i]? = some (some x) ∧ te ρ S (fun d S1 => r x d S1 fun z S2 => D.nx (ρ.set i (some z)) S2) (fun x S1 => D.ex x ρ S1)
/-- xs[i] = e, a list of the store -/
def dSetL (te to ti : DTE) : DTS := fun D ρ S => te ρ S (fun d S1 => to ρ S1 (fun o S2 => ti ρ S2 (fun i S3 => ∃ n xs k j, o = .ref n ∧ S3[n]? = some (.lst xs) ∧ i = .int k ∧ ixN xs.length k = some j ∧ D.nx ρ (S3.set n (.lst (xs.set j d))))
  (fun x S1 => D.ex x ρ S1)) (fun x S1 => D.ex x ρ S1)) (fun x S1 => D.ex x ρ S1)
theorem ds_setL {o i : Expr} {to ti : DTE} {p2 : Pos} (he : DE F W e te) (ho : DE F W o to) (hi : DE F W i ti) (hs : ∀ j, swapsWithSole [.Subscript o i p2] e pos.line (F.X j).env = pure false := by intro _; rfl) (hw : ∀ j, swappedStores [.Subscript o i p2] e (F.X j).env = pure none := by intro _; rfl)
    (h1 : ∀ j, (assignEach [.Subscript o i p2] (F.X j).env).map (·.2) = [assign (.Subscript o i p2) (F.X j).env] := by intro _; rfl)
    (ha : ∀ j v, assign (.Subscript o i p2) (F.X j).env v = (do
      let ov ← holding [v] (eval o (F.X j).env)
      let iv ← holding [v, ov] (eval i (F.X j).env)
      standAt p2
      holding [v, ov, iv] (setItem ov iv v)
      release [v, ov, iv] []) := by intro _ _; rfl) : DS F W (.Assign [.Subscript o i p2] e pos) (dSetL te to ti) := by
  obtain ⟨t1, p1, k1⟩ := he
  obtain ⟨t2, q2, k2⟩ := ho
  obtain ⟨t3, p3, k3⟩ := hi
  refine ⟨_, fun j => ps_asg (p1 j) (pg_sub (q2 j) (p3 j) set_list (ha j)) (hs j) (hw j) (h1 j), fun σ ρ φ S H D' D r sl l h => ?_⟩
  have o0 := l.ok r sl
  refine k1 σ ρ φ S H _ _ _ o0 (fun φ1 H1 S1 d v s1 r1 rd h1 => ?_) h
  refine k2 σ ρ φ1 S1 H1 _ _ _ (o0.mono s1 r1) (fun φ2 H2 S2 od ov s2 r2 ro h2 => ?_) h1
  refine k3 σ ρ φ2 S2 H2 _ _ _ (o0.mono (s1.trans s2) r2) (fun φ3 H3 S3 i iv s3 r3 ri h3 => ?_) h2
  obtain ⟨n, xs, k, j, rfl, e1, rfl, e2, q⟩ := h3
  obtain ⟨a, vs, e3, ha, e4, rs⟩ := r3.lst (RD.mono s3 r2.muts _ _ ro) e1
  rw [RD] at ri
  refine ⟨a, vs, k, j, e3, ri, e4, by rw [rs.length]; exact e2, ?_⟩
  have st := r3.step_put (ho := .lst (vs.set j v)) ha
  refine l.nx _ _ _ _ _ (((s1.trans s2).trans s3).trans st) (r3.put (o := .lst (xs.set j d)) ha ⟨_, upd_same, ?_⟩) (sl.mono (((s1.trans s2).trans s3).trans st) r.muts) q
  exact RDs.mono st r3.muts _ _ (rs.set j (RD.mono (s2.trans s3) r1.muts _ _ rd))
/-- J walks the items xs while live holds of the store -/
def WalkD (K : PySem.W.Frag) (J : It) (xs : List D) (live : Store → Prop) (φ : Al) (H : Hp) : Prop :=
  ∀ φ2 H2 S2 i, Step φ φ2 H H2 → SR K φ2 S2 H2 → live S2 → (xs.length = i → J.stop i H2) ∧
    (i < xs.length → J.go i H2 ∧ ∀ v H3, J.yld i H2 v H3 → ∃ d, xs[i]? = some d ∧ Step φ2 φ2 H2 H3 ∧ SR K φ2 S2 H3 ∧ RD K φ2 H3 d v)
abbrev DTI := Rho → Store → (List D → (Store → Prop) → Store → Prop) → XQ → Prop
def DI (F : Fam) (W : WX) (tg iter : Expr) (t' : DTI) : Prop :=
  ∃ wi : TI, (∀ i, PI (F.X i) tg iter wi) ∧ ∀ σ ρ φ S H E R' R, Ok F.K W σ ρ φ S H E → (∀ φ1 H1 S1 xs live J, Step φ φ1 H H1 → SR F.K φ1 S1 H1 → WalkD F.K J xs live φ1 H1 → R' xs live S1 → R J H1) → t' ρ S R' E → wi σ H R
def iSq (K : PySem.W.Frag) (tl : TE) : TI := fun σ H R => tl σ H fun x H1 => ∃ a, x = .ref a ∧ (((∃ xs, SqL K H1 a xs) ∧ R (Itl K a) H1) ∨ ((∃ xs, SqT K H1 a xs) ∧ R (Itt K a) H1))
theorem pi_sq {X : Cx} {tg l : Expr} {tl : TE} (hl : PE X l tl) : PI X tg l (iSq X.K tl) := by
  refine ⟨fun pins s σ H R I h => ?_⟩
  refine thn (hl.run pins s σ H _ I h) fun v s1 ⟨x, H1, I1, r1, q1⟩ => ?_
  obtain ⟨a, e, q⟩ := q1
  subst e
  cases r1
  rcases q with ⟨⟨xs, hq⟩, q⟩ | ⟨⟨xs, hq⟩, q⟩
  · obtain ⟨its, rv, p, hz⟩ := I1.list hq
    refine wpAny_pyIter_list p.isList ?_
    refine ⟨s1.heap.objs.size, [s1.heap.objs.size], _, _, H1, rfl, I1.kept (t' := s1.toks) fun b o e => Heap.get?_push_of_some _ e, turn_list a _, ⟨_, Heap.get?_push_size _ rfl, rfl, rfl⟩, fun b hb => ?_, q⟩
    have e : b = s1.heap.objs.size := by simpa using hb
    subst e
    exact I1.fpOk (Nat.le_refl _) (I1.hok.fresh (Nat.le_refl _))
  · obtain ⟨its, rv, p, hz⟩ := I1.tuple hq
    refine wpAny_pyIter_tuple (show s1.heap.IsTuple a its.toArray from p) ?_
    refine ⟨s1.heap.objs.size, [s1.heap.objs.size], _, _, H1, rfl, I1.kept (t' := s1.toks) fun b o e => Heap.get?_push_of_some _ e, turn_tuple a _, ⟨_, Heap.get?_push_size _ rfl, rfl, rfl⟩, fun b hb => ?_, q⟩
    have e : b = s1.heap.objs.size := by simpa using hb
    subst e
    exact I1.fpOk (Nat.le_refl _) (I1.hok.fresh (Nat.le_refl _))
/-- over a list or a tuple that stands while it is walked -/
def jSq (te : DTE) : DTI := fun ρ S R E => te ρ S (fun d S1 => ∃ xs, sqOf S1 d = some xs ∧ R xs (fun S => sqOf S d = some xs) S1) E
theorem di_sq {tg : Expr} (he : DE F W e te) : DI F W tg e (jSq te) := by
  obtain ⟨t1, p1, k1⟩ := he
  refine ⟨_, fun i => F.hK i ▸ pi_sq (p1 i), fun σ ρ φ S H E R' R o q h => ?_⟩
  refine k1 σ ρ φ S H E _ _ o (fun φ1 H1 S1 d v s1 r1 rd h1 => ?_) h
  obtain ⟨xs, e1, h1⟩ := h1
  by_cases ht : ∃ ys, d = .tup ys
  · obtain ⟨ys, rfl⟩ := ht
    cases e1
    obtain ⟨a, vs, rfl, hq, rs⟩ := rd_tup rd
    refine ⟨a, rfl, .inr ⟨⟨_, hq⟩, q φ1 H1 S1 _ _ _ s1 r1 (fun φ2 H2 S2 i s r lv => ?_) h1⟩⟩
    have hq2 := s.w.sqT r1.muts.m r1.muts.b hq
    have rs2 := RDs.mono s r1.muts _ _ rs
    refine ⟨fun hi => ⟨vs, hq2, by rw [rs.length]; exact Nat.le_of_eq hi⟩, fun hi => ?_⟩
    obtain ⟨v, ev, rv⟩ := rs2.get (List.getElem?_eq_getElem hi)
    exact ⟨⟨vs, v, hq2, ev⟩, fun u H3 hy => ⟨_, List.getElem?_eq_getElem hi, by rw [hy.1]; exact .refl, by rw [hy.1]; exact r, by
      have := hy.2 vs hq2
      rw [ev] at this; cases this
      rw [hy.1]; exact rv⟩⟩
  · have e1' : lsOf S1 d = some xs := by
      cases d <;> first | exact e1 | exact absurd ⟨_, rfl⟩ ht
    obtain ⟨a, vs, rfl, hq, rs⟩ := ls_of r1 rd e1'
    refine ⟨a, rfl, .inl ⟨⟨_, hq⟩, q φ1 H1 S1 _ _ _ s1 r1 (fun φ2 H2 S2 i s r lv => ?_) h1⟩⟩
    have lv' : lsOf S2 d = some xs := by
      cases d <;> first | exact lv | exact absurd ⟨_, rfl⟩ ht
    obtain ⟨b, ws, eb, hq2, rs2⟩ := ls_of r (RD.mono s r1.muts _ _ rd) lv'
    cases eb
    refine ⟨fun hi => ⟨ws, hq2, by rw [rs2.length]; exact Nat.le_of_eq hi⟩, fun hi => ?_⟩
    obtain ⟨v, ev, rv⟩ := rs2.get (List.getElem?_eq_getElem hi)
    exact ⟨⟨ws, v, hq2, ev⟩, fun u H3 hy => ⟨_, List.getElem?_eq_getElem hi, by rw [hy.1]; exact .refl, by rw [hy.1]; exact r, by
      have := hy.2 ws hq2
      rw [ev] at this; cases this
      rw [hy.1]; exact rv⟩⟩
def rngD (lo : Int) (n : Nat) : List D := (List.range n).map fun (k : Nat) => D.int (lo + (k : Int))
theorem rngD_length (lo : Int) (n : Nat) : (rngD lo n).length = n := by simp [rngD]
theorem rngD_get {lo : Int} {n i : Nat} (h : i < n) : (rngD lo n)[i]? = some (.int (lo + (i : Int))) := by
  unfold rngD
  rw [List.getElem?_map, List.getElem?_range h]; rfl
def jRng1 (t : DTA) : DTI := fun ρ S R E => t ρ S (fun ds S1 => ∃ j : Int, ds = [.int j] ∧ -(2 ^ 62) ≤ j ∧ j < 2 ^ 62 ∧ R (rngD 0 j.toNat) (fun _ => True) S1) E
theorem walk_rng {K : PySem.W.Frag} {lo : Int} {n : Nat} {φ : Al} {H : Hp} : WalkD K (Itr lo n) (rngD lo n) (fun _ => True) φ H := fun φ2 H2 S2 i s r _ =>
  ⟨fun hi => by rw [rngD_length] at hi; exact Nat.le_of_eq hi, fun hi => by
    rw [rngD_length] at hi
    exact ⟨hi, fun v H3 hy => ⟨_, rngD_get hi, by rw [hy.1]; exact .refl, by rw [hy.1]; exact r, by rw [RD]; exact hy.2⟩⟩⟩
theorem di_rng1 {tg : Expr} {p : Pos} (hg : ∀ i, Gl (F.X i) "range") (hm : ∀ i, (F.X i).mg "range" = none) (ha : DA F W [a] t) (hs : ∀ i, starEach [a] (F.X i).env = [(false, eval a (F.X i).env)] := by intro _; rfl) : DI F W tg (.Call (.Name "range" p) [a] [] pos) (jRng1 t) := by
  obtain ⟨t1, p1, k1⟩ := ha
  refine ⟨_, fun i => pi_range1 (hg i) (hm i) (p1 i) (hs i), fun σ ρ φ S H E R' R o q h => ?_⟩
  refine k1 σ ρ φ S H E _ _ o (fun φ1 H1 S1 ds vs s1 r1 rd h1 => ?_) h
  obtain ⟨j, rfl, b1, b2, h1⟩ := h1
  obtain ⟨v, rfl, hv⟩ := rds1 rd
  rw [RD] at hv
  subst hv
  exact ⟨j, rfl, b1, b2, q φ1 H1 S1 _ _ _ s1 r1 walk_rng h1⟩
def dFor (ti : DTI) (g : DTG) (tb : DTS) : DTS := fun D ρ S => ti ρ S (fun xs live S1 => ∃ Pv : Nat → Rho → Store → Prop, Pv 0 ρ S1 ∧ (∀ i ρ S, i ≤ xs.length → Pv i ρ S → live S) ∧
  (∀ i x ρ S, xs[i]? = some x → Pv i ρ S → g x ρ S fun ρ2 S2 => tb { D with nx := Pv (i + 1), ct := Pv (i + 1), bk := D.nx } ρ2 S2) ∧ ∀ ρ S, Pv xs.length ρ S → D.nx ρ S) (fun x S1 => D.ex x ρ S1)
theorem ds_for {tg iter : Expr} {body : List Stmt} {ti : DTI} {g : DTG} {tb : DTS} (hp : ∀ j, PassesOwn (model (F.X j).prog (F.X j).w) (F.X j).A (F.X j).env (F.X j).xe) (hc : ∀ j, (F.X j).calm = true) (hi : DI F W tg iter ti) (hg : DG F tg g) (hb : DSs F W body tb)
    (hs : ∀ j x, foldedSetIterable iter (F.X j).env x = pure x := by intro _ _; rfl) : DS F W (.For tg iter body [] pos) (dFor ti g tb) := by
  obtain ⟨t1, p1, k1⟩ := hi
  obtain ⟨t2, p2, k2⟩ := hg
  obtain ⟨t3, p3, k3⟩ := hb
  refine ⟨_, fun j => ps_for (hp j) (hc j) (p1 j) (p2 j) (p3 j) (hs j), fun σ ρ φ S H D' D r sl l h => ?_⟩
  refine k1 σ ρ φ S H _ _ _ (l.ok r sl) (fun φ1 H1 S1 xs live J s1 r1 wk h1 => ?_) h
  obtain ⟨Pv, h0, hl, hs, hd⟩ := h1
  refine ⟨fun i m σ' H' => ∃ φ' S' ρ', Step φ1 φ' H1 H' ∧ SR F.K φ' S' H' ∧ Sl F.K φ' H' ρ' σ' ∧ Pv i ρ' S' ∧ i ≤ xs.length ∧ m = xs.length - i,
    ⟨_, φ1, S1, ρ, .refl, r1, sl.mono s1 r.muts, h0, Nat.zero_le _, rfl⟩, ?_⟩
  rintro i m σ' H' ⟨φ', S', ρ', s', r', sl', hP, hi, rfl⟩
  obtain ⟨w1, w2⟩ := wk φ' H' S' i s' r' (hl i ρ' S' hi hP)
  by_cases hlt : i < xs.length
  · obtain ⟨go, hy⟩ := w2 hlt
    refine .inr ⟨go, fun σ2 H2 => ∃ φ2 S2 ρ2, Step φ1 φ2 H1 H2 ∧ SR F.K φ2 S2 H2 ∧ Sl F.K φ2 H2 ρ2 σ2 ∧ Pv (i + 1) ρ2 S2, ?_, ?_⟩
    · rintro σ2 H2 ⟨φ2, S2, ρ2, a1, a2, a3, a4⟩
      exact ⟨xs.length - (i + 1), by omega, φ2, S2, ρ2, a1, a2, a3, a4, hlt, rfl⟩
    · intro v H3 yv
      obtain ⟨d, ed, s3, r3, rd⟩ := hy v H3 yv
      refine k2 σ' ρ' φ' S' H3 d v _ _ r3 (sl'.mono s3 r'.muts) rd (fun φ4 H4 S4 ρ4 σ4 s4 r4 sl4 h4 => ?_) (hs i d ρ' S' ed hP)
      have s14 : Step φ1 φ4 H1 H4 := (s'.trans s3).trans s4
      refine k3 σ4 ρ4 φ4 S4 H4 _ _ r4 sl4 ?_ h4
      have l4 := l.mono (s1.trans s14)
      exact ⟨fun φ5 H5 S5 ρ5 σ5 s5 r5 sl5 q => ⟨φ5, S5, ρ5, s14.trans s5, r5, sl5, q⟩, l4.rt, l4.nx, fun φ5 H5 S5 ρ5 σ5 s5 r5 sl5 q => ⟨φ5, S5, ρ5, s14.trans s5, r5, sl5, q⟩, l4.ex⟩
  · have e : i = xs.length := by omega
    subst e
    exact .inl ⟨w1 rfl, l.nx _ _ _ _ _ (s1.trans s') r' sl' (hd ρ' S' hP)⟩
end
end Dy
namespace Dy
open PySem PySem.Spec PyProof.Rows L2
abbrev W0 : WX := fun _ _ _ _ => False
abbrev noX : XQ := fun _ _ => False
def Fam.blk (F : Fam) (scope : Scope) : Fam :=
  ⟨F.ι × Shared × Hp × Addr × List (Str × Addr) × List Addr, fun j => (F.X j.1).blk j.2.1 j.2.2.1 scope (compEnvC scope j.2.2.2.2.1 j.2.2.2.1 (F.X j.1).env) j.2.2.2.2.2, F.K, fun j => F.hK j.1⟩
def DTs (F : Fam) (W : WX) (ifs : List Expr) (t' : DTT) : Prop :=
  ∃ t : TT, (∀ i, PTs (F.X i) ifs t) ∧ ∀ σ ρ φ S H E Q' Q, Ok F.K W σ ρ φ S H E → EndT F.K φ H Q' Q → t' ρ S Q' E → t σ H Q
def dYes : DTT := fun _ S Q _ => Q true S
section
variable {F : Fam} {W : WX} {a b c e : Expr} {es : List Expr} {st : Stmt} {rest sa sb : List Stmt} {pos : Pos} {te ta tb : DTE} {tt uC : DTT} {t : DTA} {ti : DTI}
theorem dts_nil : DTs F W [] dYes := ⟨_, fun _ => pts_nil, fun σ ρ φ S H E Q' Q o q h => q _ _ _ _ .refl o.sr h⟩
theorem dts_one (h : DT F W c tt) : DTs F W [c] tt := let ⟨t, p, k⟩ := h; ⟨t, fun i => pts_one (p i), k⟩
/-- what a comprehension does: G puts an item into the slots, or is not defined; K makes the end of the items -/
def dLc (ti : DTI) (g : D → Rho → (Rho → Prop) → Prop) (tt : DTT) (te : DTE) : DTE := fun ρ S Q E => ti ρ S (fun xs live S1 => ∃ Pv : Nat → List D → Store → Prop, Pv 0 [] S1 ∧ (∀ k acc S, k ≤ xs.length → Pv k acc S → live S) ∧
  (∀ k x acc S, xs[k]? = some x → Pv k acc S → g x ρ fun ρ2 => tt ρ2 S (fun b S2 => if b = true then te ρ2 S2 (fun y S3 => acc.length < sizeLine ∧ Pv (k + 1) (acc ++ [y]) S3) noX else Pv (k + 1) acc S2) noX) ∧
  ∀ acc S, Pv xs.length acc S → Q (.lst acc) S) E
/-- .. a list of the store -/
def dLcN (ti : DTI) (g : D → Rho → (Rho → Prop) → Prop) (tt : DTT) (te : DTE) : DTE := fun ρ S Q E => dLc ti g tt te ρ S (fun d S1 => ∃ xs, d = .lst xs ∧ Q (.ref S1.length) (S1 ++ [.lst xs])) E
def c1 (i : Nat) : D → Rho → (Rho → Prop) → Prop := fun x ρ Q => Q (ρ.set i (some x))
def c2 (i j : Nat) : D → Rho → (Rho → Prop) → Prop := fun x ρ Q => ∃ u v, x = .tup [u, v] ∧ Q ((ρ.set i (some u)).set j (some v))
/-- the target's store by values and by trees -/
def TgL (K : PySem.W.Frag) (g : TG) (g' : D → Rho → (Rho → Prop) → Prop) (vs : List Nat) : Prop :=
  ∀ φ S H σ ρ d v (Q' : Rho → Prop) (Q : L2.St → Hp → Prop), SR K φ S H → Sl K φ H ρ σ → RD K φ H d v → g' d ρ Q' → (∀ ρ2 σ2, Sl K φ H ρ2 σ2 → Q' ρ2 → Q σ2 H) → g v (wipe σ vs) H fun σ2 H2 => wipe σ2 vs = wipe σ vs ∧ Q σ2 H2
theorem tgl_1 {K : PySem.W.Frag} (i : Nat) : TgL K (gName i) (c1 i) [i] := by
  intro φ S H σ ρ d v Q' Q r sl rd h k
  have e : (wipe σ [i]).set i (some v) = σ.set i (some v) := by simp [wipe, List.set_set]
  refine ⟨by rw [e]; simp [wipe, List.set_set], ?_⟩
  rw [e]
  exact k _ _ (sl.set rd) h
theorem lc_core' {K : PySem.W.Frag} {wi : TI} {g : TG} {g' : D → Rho → (Rho → Prop) → Prop} {tt0 : TT} {te0 : TE} {vs : List Nat} (hg : TgL K g g' vs)
    (k1 : ∀ σ ρ φ S H E R' R, Ok K W σ ρ φ S H E → (∀ φ1 H1 S1 xs live J, Step φ φ1 H H1 → SR K φ1 S1 H1 → WalkD K J xs live φ1 H1 → R' xs live S1 → R J H1) → ti ρ S R' E → wi σ H R)
    (k2 : ∀ σ ρ φ S H E Q' Q, Ok K W0 σ ρ φ S H E → EndT K φ H Q' Q → tt ρ S Q' E → tt0 σ H Q)
    (k3 : ∀ σ ρ φ S H E Q' Q, Ok K W0 σ ρ φ S H E → EndV K φ H Q' Q → te ρ S Q' E → te0 σ H Q)
    (σ : L2.St) (ρ : Rho) (φ : Al) (S : Store) (H : Hp) (E : XQ) (Q' : QD) (Q : VK) (o : Ok K W σ ρ φ S H E) (h : dLc ti g' tt te ρ S Q' E)
    (fin : ∀ φ1 H1 S1 φ' S' H' D acc ws, Step φ φ1 H H1 → SR K φ1 S1 H1 → H1 D = none → Step φ1 φ' H1 H' → D ∈ φ'.b → SR K φ' S' H' → H' D = some (.lst ws) → RDs K φ' H' acc ws → Q' (.lst acc) S' → Q (.ref D) H') : tLc wi g tt0 te0 vs σ H Q := by
  refine k1 σ ρ φ S H E _ _ o (fun φ1 H1 S1 xs live J s1 r1 wk h1 => ?_) h
  obtain ⟨Pv, h0, hl, hs, hd⟩ := h1
  intro D hD
  -- the list that is being made
  let ψ : Al := ⟨φ1.l, D :: φ1.b⟩
  have st0 : Step φ1 ψ H1 (upd H1 D (.lst [])) := ⟨⟨[], by simp [ψ]⟩, fun a m n _ => by
    rcases List.mem_cons.mp m with m | m
    · rw [m]; exact hD
    · exact absurd m n, fun a m => List.mem_cons_of_mem _ m, fun a o e _ => by
    have : a ≠ D := fun z => by rw [z, hD] at e; cases e
    rw [upd_ne this]; exact e, fun a m n => absurd m n⟩
  have rb : SR K ψ S1 (upd H1 D (.lst [])) := ⟨r1.nd, r1.len, fun n a o ha ho => (r1.at_ n a o ha ho).moved st0.w r1.muts (upd_ne fun z => by
      have m := r1.mutl a (List.mem_of_getElem? ha)
      rw [z, hD] at m; exact m), fun a m => by
      rcases List.mem_cons.mp m with m | m
      · rw [m]; exact .inl ⟨[], upd_same⟩
      · rcases r1.mb a m with ⟨ys, e⟩ | ⟨ys, e⟩
        · have : a ≠ D := fun z => by rw [z, hD] at e; cases e
          exact .inl ⟨ys, by rw [upd_ne this]; exact e⟩
        · have : a ≠ D := fun z => by rw [z, hD] at e; cases e
          exact .inr ⟨ys, by rw [upd_ne this]; exact e⟩, fun a m => by
      rcases List.mem_cons.mp m with m | m
      · rw [m]; exact r1.out hD
      · exact r1.db a m⟩
  refine ⟨fun k m H' => ∃ φ' S' acc ws, Step φ1 φ' H1 H' ∧ D ∈ φ'.b ∧ SR K φ' S' H' ∧ Sl K φ' H' ρ σ ∧ H' D = some (.lst ws) ∧ RDs K φ' H' acc ws ∧ Pv k acc S' ∧ k ≤ xs.length ∧ m = xs.length - k,
    ⟨_, ψ, S1, [], [], st0, List.mem_cons_self, rb, (o.sl.mono s1 o.sr.muts).mono st0 r1.muts, upd_same, .nil, h0, Nat.zero_le _, rfl⟩, ?_⟩
  rintro k m H' ⟨φ', S', acc, ws, s', mD, r', sl', hDl, hacc, hP, hk, rfl⟩
  obtain ⟨w1, w2⟩ := wk φ' H' S' k s' r' (hl k acc S' hk hP)
  have nD : D ∉ φ'.l := r'.db D mD
  by_cases hlt : k < xs.length
  · obtain ⟨go, hy⟩ := w2 hlt
    refine .inr ⟨go, fun H2 => ∃ φ2 S2 acc2 ws2, Step φ1 φ2 H1 H2 ∧ D ∈ φ2.b ∧ SR K φ2 S2 H2 ∧ Sl K φ2 H2 ρ σ ∧ H2 D = some (.lst ws2) ∧ RDs K φ2 H2 acc2 ws2 ∧ Pv (k + 1) acc2 S2, ?_, ?_⟩
    · rintro H2 ⟨φ2, S2, acc2, ws2, a1, a2, a3, a4, a5, a6, a7⟩
      exact ⟨xs.length - (k + 1), by omega, φ2, S2, acc2, ws2, a1, a2, a3, a4, a5, a6, a7, hlt, rfl⟩
    · intro v H3 yv
      obtain ⟨d, ed, s3, r3, rd⟩ := hy v H3 yv
      refine hg φ' S' H3 σ ρ d v _ _ r3 (sl'.mono s3 r'.muts) rd (hs k d acc S' ed hP) (fun ρ2 σ2 sl2 h2 => ?_)
      have o3 : Ok K W0 σ2 ρ2 φ' S' H3 noX := ⟨r3, sl2, fun _ _ _ _ _ _ _ _ _ z => z.elim⟩
      refine k2 σ2 ρ2 φ' S' H3 noX _ _ o3 (fun φ4 H4 S4 b s4 r4 h4 => ?_) h2
      have s34 : Step φ' φ4 H' H4 := s3.trans s4
      cases b with
      | false =>
        rw [if_neg Bool.false_ne_true] at h4 ⊢
        exact ⟨φ4, S4, acc, ws, s'.trans s34, s34.sub D mD, r4, sl'.mono s34 r'.muts, s34.keep D _ hDl nD, RDs.mono s34 r'.muts _ _ hacc, h4⟩
      | true =>
        rw [if_pos rfl] at h4 ⊢
        refine k3 σ2 ρ2 φ4 S4 H4 noX _ _ (o3.mono s4 r4) (fun φ5 H5 S5 y u s5 r5 ry h5 => ?_) h4
        obtain ⟨hz, h6⟩ := h5
        have s35 : Step φ' φ5 H' H5 := s34.trans s5
        have m5 : D ∈ φ5.b := s35.sub D mD
        have n5 : D ∉ φ5.l := r5.db D m5
        have e5 : H5 D = some (.lst ws) := s35.keep D _ hDl nD
        have acc5 := RDs.mono s35 r'.muts _ _ hacc
        refine ⟨ws, e5, by rw [hacc.length]; exact hz, φ5, S5, acc ++ [y], ws ++ [u], ?_, m5, ?_, ?_, upd_same, ?_, h6⟩
        · have t := s'.trans s35
          exact ⟨t.pre, t.bs, t.sub, fun a o e n => by
            have : a ≠ D := fun z => by rw [z, hD] at e; cases e
            rw [upd_ne this]; exact t.keep a o e n, t.new⟩
        all_goals have sw : StepW φ5 φ5 H5 (upd H5 D (.lst (ws ++ [u]))) := ⟨⟨[], by simp⟩, fun a m n => absurd m n, fun a o e _ nb => by
            have : a ≠ D := fun z => nb (z ▸ m5)
            rw [upd_ne this]; exact e, fun a m n => absurd m n⟩
        · exact ⟨r5.nd, r5.len, fun n a o ha ho => (r5.at_ n a o ha ho).moved sw r5.muts (upd_ne fun z => n5 (z ▸ List.mem_of_getElem? ha)), fun a m => by
            by_cases z : a = D
            · exact .inl ⟨_, by rw [z]; exact upd_same⟩
            · rw [upd_ne z]; exact r5.mb a m, r5.db⟩
        · have sl5 := sl'.mono s35 r'.muts
          exact ⟨sl5.len, fun i d e => by
            obtain ⟨v, e1, e2⟩ := sl5.at_ i d e
            exact ⟨v, e1, RD.monoW sw r5.mutl r5.mb d v e2⟩⟩
        · exact RDs.append (RDs.monoW sw r5.mutl r5.mb _ _ acc5) (.cons (RD.monoW sw r5.mutl r5.mb _ _ ry) .nil)
  · have e : k = xs.length := by omega
    subst e
    refine .inl ⟨w1 rfl, ?_⟩
    exact fin φ1 H1 S1 φ' S' H' D acc ws s1 r1 hD s' mD r' hDl hacc (hd acc S' hP)
theorem lc_link {K : PySem.W.Frag} {wi : TI} {g : TG} {g' : D → Rho → (Rho → Prop) → Prop} {tt0 : TT} {te0 : TE} {vs : List Nat} (hg : TgL K g g' vs)
    (k1 : ∀ σ ρ φ S H E R' R, Ok K W σ ρ φ S H E → (∀ φ1 H1 S1 xs live J, Step φ φ1 H H1 → SR K φ1 S1 H1 → WalkD K J xs live φ1 H1 → R' xs live S1 → R J H1) → ti ρ S R' E → wi σ H R)
    (k2 : ∀ σ ρ φ S H E Q' Q, Ok K W0 σ ρ φ S H E → EndT K φ H Q' Q → tt ρ S Q' E → tt0 σ H Q)
    (k3 : ∀ σ ρ φ S H E Q' Q, Ok K W0 σ ρ φ S H E → EndV K φ H Q' Q → te ρ S Q' E → te0 σ H Q)
    (σ : L2.St) (ρ : Rho) (φ : Al) (S : Store) (H : Hp) (E : XQ) (Q' : QD) (Q : VK) (o : Ok K W σ ρ φ S H E) (q : EndV K φ H Q' Q) (h : dLc ti g' tt te ρ S Q' E) : tLc wi g tt0 te0 vs σ H Q := by
  refine lc_core' hg k1 k2 k3 σ ρ φ S H E Q' Q o h fun φ1 H1 S1 φ' S' H' D acc ws s1 r1 hD s' mD r' hDl hacc hq => ?_
  have nD : D ∉ φ'.l := r'.db D mD
  have sw : StepW φ' ⟨φ'.l, φ1.b⟩ H' H' := ⟨⟨[], by simp⟩, fun a m n _ => absurd (s'.sub a m) n, fun _ _ e _ _ => e, fun a m n _ => absurd m n⟩
  refine q ⟨φ'.l, φ1.b⟩ H' S' (.lst acc) (.ref D) (s1.trans ⟨s'.pre, fun a m n _ => absurd m n, fun a m => m, s'.keep, s'.new⟩) ?_ ?_ hq
  · exact ⟨r'.nd, r'.len, fun n a o ha ho => (r'.at_ n a o ha ho).moved sw r'.muts rfl, fun a m => r'.mb a (s'.sub a m), fun a m => r'.db a (s'.sub a m)⟩
  · rw [RD]
    exact ⟨D, ws, rfl, ⟨hDl, nD, r1.outb hD⟩, RDs.monoW sw r'.mutl r'.mb _ _ hacc⟩
theorem lcN_link {K : PySem.W.Frag} {wi : TI} {g : TG} {g' : D → Rho → (Rho → Prop) → Prop} {tt0 : TT} {te0 : TE} {vs : List Nat} (hg : TgL K g g' vs)
    (k1 : ∀ σ ρ φ S H E R' R, Ok K W σ ρ φ S H E → (∀ φ1 H1 S1 xs live J, Step φ φ1 H H1 → SR K φ1 S1 H1 → WalkD K J xs live φ1 H1 → R' xs live S1 → R J H1) → ti ρ S R' E → wi σ H R)
    (k2 : ∀ σ ρ φ S H E Q' Q, Ok K W0 σ ρ φ S H E → EndT K φ H Q' Q → tt ρ S Q' E → tt0 σ H Q)
    (k3 : ∀ σ ρ φ S H E Q' Q, Ok K W0 σ ρ φ S H E → EndV K φ H Q' Q → te ρ S Q' E → te0 σ H Q)
    (σ : L2.St) (ρ : Rho) (φ : Al) (S : Store) (H : Hp) (E : XQ) (Q' : QD) (Q : VK) (o : Ok K W σ ρ φ S H E) (q : EndV K φ H Q' Q) (h : dLcN ti g' tt te ρ S Q' E) : tLc wi g tt0 te0 vs σ H Q := by
  refine lc_core' hg k1 k2 k3 σ ρ φ S H E _ Q o h fun φ1 H1 S1 φ' S' H' D acc ws s1 r1 hD s' mD r' hDl hacc hq => ?_
  obtain ⟨xs, e, hq⟩ := hq
  cases e
  have nD : D ∉ φ'.l := r'.db D mD
  have sw : StepW φ' ⟨φ'.l ++ [D], φ1.b⟩ H' H' := ⟨⟨[D], rfl⟩, fun a m n _ => absurd (s'.sub a m) n, fun _ _ e _ _ => e, fun a m n nb => by
    rcases List.mem_append.mp m with m | m
    · exact absurd m n
    · rw [List.mem_singleton.mp m] at nb
      exact absurd mD nb⟩
  refine q ⟨φ'.l ++ [D], φ1.b⟩ H' (S' ++ [.lst acc]) (.ref S'.length) (.ref D) (s1.trans ⟨?_, fun a m n _ => absurd m n, fun a m => m, s'.keep, ?_⟩) ?_ ?_ hq
  · obtain ⟨ψ, e⟩ := s'.pre
    exact ⟨ψ ++ [D], by show φ'.l ++ [D] = _; rw [e]; simp⟩
  · intro a m n
    rcases List.mem_append.mp m with m | m
    · exact s'.new a m n
    · rw [List.mem_singleton.mp m]; exact hD
  · refine ⟨?_, by simp [r'.len], fun n a u ha hu => ?_, fun a m => r'.mb a (s'.sub a m), fun a m z => ?_⟩
    · show (φ'.l ++ [D]).Nodup
      rw [List.nodup_append]
      refine ⟨r'.nd, by simp, fun a ha b hb => ?_⟩
      rw [List.mem_singleton.mp hb]
      exact fun z => nD (z ▸ ha)
    · have ha' : (φ'.l ++ [D])[n]? = some a := ha
      by_cases hn : n < φ'.l.length
      · rw [List.getElem?_append_left hn] at ha'
        rw [List.getElem?_append_left (by rw [r'.len]; exact hn)] at hu
        exact (r'.at_ n a u ha' hu).moved sw r'.muts rfl
      · have hn' : n = φ'.l.length := by
          have := (List.getElem?_eq_some_iff.mp ha').1
          simp at this; omega
        subst hn'
        rw [List.getElem?_append_right (Nat.le_refl _)] at ha'
        rw [List.getElem?_append_right (by rw [r'.len]; exact Nat.le_refl _), r'.len] at hu
        simp at ha' hu
        subst ha' hu
        exact ⟨ws, hDl, RDs.monoW sw r'.mutl r'.mb _ _ hacc⟩
    · rcases List.mem_append.mp z with z | z
      · exact r'.db a (s'.sub a m) z
      · rw [List.mem_singleton.mp z] at m
        exact r1.outb hD m
  · rw [RD]
    exact ⟨D, rfl, by show (φ'.l ++ [D])[S'.length]? = _; rw [r'.len]; simp⟩
section
variable {elt iter tg : Expr} {ifs : List Expr} {scope : Scope} {x x2 : Str} {px px2 : Pos}
theorem de_lc (i : Nat) (hc : ∀ j, (F.X j).calm = true) (hN : ∀ j, (F.X j).N.Nodup) (hi : DI F W (.Name x px) iter ti) (ok : ∀ j, BlkOk (F.X j).N (F.X j).env.scope scope [(x, i)]) (ht : DTs (F.blk scope) W0 ifs tt) (he : DE (F.blk scope) W0 elt te)
    (hg : ∀ j, PG ((F.blk scope).X j) (.Name x px) (gName i)) (hs : ∀ j v, foldedSetIterable iter (F.X j).env v = pure v := by intro _ _; rfl) :
    DE F W (.ListComp elt [⟨.Name x px, iter, ifs, 0⟩] scope pos) (dLc ti (c1 i) tt te) := by
  obtain ⟨wi, p1, k1⟩ := hi
  obtain ⟨t2, p2, k2⟩ := ht
  obtain ⟨t3, p3, k3⟩ := he
  exact ⟨_, fun j => pe_lc (own := [(x, i)]) (hc j) (hN j) (p1 j) (ok j) (fun s H C cl fp => hg (j, s, H, C, cl, fp)) (fun s H C cl fp => p2 (j, s, H, C, cl, fp)) (fun s H C cl fp => p3 (j, s, H, C, cl, fp)) (hs j), lc_link (tgl_1 i) k1 k2 k3⟩
/-- y = [..] -/
theorem ds_setLc (n : Nat) {y : Str} {py spos : Pos} {g : TG} {g' : D → Rho → (Rho → Prop) → Prop} {own : List (Str × Nat)} (hl : TgL F.K g g' (own.map (·.2))) (hc : ∀ j, (F.X j).calm = true) (hN : ∀ j, (F.X j).N.Nodup) (hi : DI F W tg iter ti) (ok : ∀ j, BlkOk (F.X j).N (F.X j).env.scope scope own) (ht : DTs (F.blk scope) W0 ifs tt) (he : DE (F.blk scope) W0 elt te)
    (hg : ∀ j, PG ((F.blk scope).X j) tg g) (hsw : ∀ j, swapsWith (.ListComp elt [⟨tg, iter, ifs, 0⟩] scope pos) (some (.Name y py)) spos.line (F.X j).env = pure true)
    (hy : ∀ j, (F.X j).N[n]? = some y := by intro _; rfl) (hyl : ∀ j, (F.X j).env.scope.names.lookup y = some .local := by intro _; rfl) (hs : ∀ j v, foldedSetIterable iter (F.X j).env v = pure v := by intro _ _; rfl) :
    DS F W (.Assign [.Name y py] (.ListComp elt [⟨tg, iter, ifs, 0⟩] scope pos) spos) (dAsg (dLc ti g' tt te) (eName n)) := by
  obtain ⟨wi, p1, k1⟩ := hi
  obtain ⟨t2, p2, k2⟩ := ht
  obtain ⟨t3, p3, k3⟩ := he
  exact ⟨_, fun j => ps_setLc (i := n) (hc j) (hN j) (hy j) (hyl j) (hsw j) (p1 j) (ok j) (fun s H C cl fp => hg (j, s, H, C, cl, fp)) (fun s H C cl fp => p2 (j, s, H, C, cl, fp)) (fun s H C cl fp => p3 (j, s, H, C, cl, fp)) (hs j),
    fun σ ρ φ S H D' D r sl l h => lc_link hl k1 k2 k3 σ ρ φ S H _ _ _ (l.ok r sl) (fun φ1 H1 S1 d v s r1 rd q => l.nx _ _ _ _ _ s r1 ((sl.mono s r.muts).set rd) q) h⟩
theorem ds_setLcN (n : Nat) {y : Str} {py spos : Pos} {g : TG} {g' : D → Rho → (Rho → Prop) → Prop} {own : List (Str × Nat)} (hl : TgL F.K g g' (own.map (·.2))) (hc : ∀ j, (F.X j).calm = true) (hN : ∀ j, (F.X j).N.Nodup) (hi : DI F W tg iter ti) (ok : ∀ j, BlkOk (F.X j).N (F.X j).env.scope scope own) (ht : DTs (F.blk scope) W0 ifs tt) (he : DE (F.blk scope) W0 elt te)
    (hg : ∀ j, PG ((F.blk scope).X j) tg g) (hsw : ∀ j, swapsWith (.ListComp elt [⟨tg, iter, ifs, 0⟩] scope pos) (some (.Name y py)) spos.line (F.X j).env = pure true)
    (hy : ∀ j, (F.X j).N[n]? = some y := by intro _; rfl) (hyl : ∀ j, (F.X j).env.scope.names.lookup y = some .local := by intro _; rfl) (hs : ∀ j v, foldedSetIterable iter (F.X j).env v = pure v := by intro _ _; rfl) :
    DS F W (.Assign [.Name y py] (.ListComp elt [⟨tg, iter, ifs, 0⟩] scope pos) spos) (dAsg (dLcN ti g' tt te) (eName n)) := by
  obtain ⟨wi, p1, k1⟩ := hi
  obtain ⟨t2, p2, k2⟩ := ht
  obtain ⟨t3, p3, k3⟩ := he
  exact ⟨_, fun j => ps_setLc (i := n) (hc j) (hN j) (hy j) (hyl j) (hsw j) (p1 j) (ok j) (fun s H C cl fp => hg (j, s, H, C, cl, fp)) (fun s H C cl fp => p2 (j, s, H, C, cl, fp)) (fun s H C cl fp => p3 (j, s, H, C, cl, fp)) (hs j),
    fun σ ρ φ S H D' D r sl l h => lcN_link hl k1 k2 k3 σ ρ φ S H _ _ _ (l.ok r sl) (fun φ1 H1 S1 d v s r1 rd q => l.nx _ _ _ _ _ s r1 ((sl.mono s r.muts).set rd) q) h⟩
end
abbrev DSp := List D → Store → QD → XQ → Prop
def liftSp (K : PySem.W.Frag) (sp : DSp) : Sp := fun vs H Q E => ∃ φ S ds Q' E', SR K φ S H ∧ RDs K φ H ds vs ∧ sp ds S Q' E' ∧ EndV K φ H Q' Q ∧
  ∀ φ' H' S' x cls d, Step φ φ' H H' → SR K φ' S' H' → ExR K φ' H' x cls d → E' x S' → E cls d H'
def dCall (sp : DSp) (t : DTA) : DTE := fun ρ S Q E => t ρ S (fun ds S1 => sp ds S1 Q E) E
theorem call_link {K : PySem.W.Frag} {sp : DSp} {σ : L2.St} {ρ : Rho} {φ : Al} {S : Store} {H : Hp} {E : XQ} {Q' : QD} {Q : VK} {ds : List D} {vs : List V} (o : Ok K W σ ρ φ S H E) (q : EndV K φ H Q' Q) (rd : RDs K φ H ds vs) (h : sp ds S Q' E) : liftSp K sp vs H Q (WE W σ) :=
  ⟨φ, S, ds, Q', E, o.sr, rd, h, q, o.ex⟩
end
theorem start_sl {K : PySem.W.Frag} {φ : Al} {H : Hp} {ds : List D} {vs : List V} {n : Nat} (h : RDs K φ H ds vs) : Sl K φ H (ds.map some ++ List.replicate n none) (vs.map some ++ List.replicate n none) := by
  refine ⟨by simp [h.length], fun i d e => ?_⟩
  by_cases hi : i < ds.length
  · rw [List.getElem?_append_left (by simpa using hi)] at e
    rw [List.getElem?_append_left (by rw [List.length_map, h.length]; exact hi)]
    rw [List.getElem?_map] at e ⊢
    cases q : ds[i]? with
    | none => rw [q] at e; cases e
    | some y =>
      rw [q] at e
      cases e
      obtain ⟨v, e1, e2⟩ := h.get q
      exact ⟨v, by rw [e1]; rfl, e2⟩
  · rw [List.getElem?_append_right (by simpa using Nat.le_of_not_lt hi)] at e
    rw [List.getElem?_replicate] at e
    split at e <;> cases e
def startD (N : List Str) (ds : List D) : Rho := ds.map some ++ List.replicate (N.length - ds.length) none
section
variable {P : Program} {w : World} {K : PySem.W.Frag} {mg : Str → Option Value} {base : Heap}
/-- the context of a body that may let something out -/
abbrev bodyX (P : Program) (w : World) (K : PySem.W.Frag) (mg : Str → Option Value) (base : Heap) (N : List Str) (qual : Str) (sc : Scope) (f : Addr) (cdv : Value) (A : Around) (outer : List Env) (s : Shared) (H : Hp) (E : XK) : Cx :=
  cxOf (L2.CX P w) P w K mg base N qual sc f cdv A outer s H E
theorem bodyTk {N : List Str} {qual : Str} {sc : Scope} {f : Addr} {cdv : Value} {A : Around} {outer : List Env} {s : Shared} {H : Hp} {E : XK} : Takes (bodyX P w K mg base N qual sc f cdv A outer s H E) (fun cls d _ H => E cls d H) := takes_of rfl rfl rfl rfl
theorem bodyHp {N : List Str} {qual : Str} {sc : Scope} {f : Addr} {cdv : Value} {A : Around} {outer : List Env} {s : Shared} {H : Hp} {E : XK} :
    PassesOwn (model (bodyX P w K mg base N qual sc f cdv A outer s H E).prog (bodyX P w K mg base N qual sc f cdv A outer s H E).w) (bodyX P w K mg base N qual sc f cdv A outer s H E).A (bodyX P w K mg base N qual sc f cdv A outer s H E).env (bodyX P w K mg base N qual sc f cdv A outer s H E).xe := passes_of rfl
theorem dfn {x qual : Str} {st : Stmt} {f : Addr} {fd : FuncData} {N ps : List Str} {k : Nat} {sp : DSp} (F : Fun K x qual st f fd) (S : FnScope N ps (defScope st)) (len : ∀ ds S Q E, sp ds S Q E → ds.length = ps.length)
    (body : ∀ (cdv : Value) (A : Around) (outer : List Env) (s : Shared) (H : Hp) (E : XK), Room k (A.deeper (envOfC qual (defScope st) s.heap.objs.size f cdv)) →
      ∃ t, DSs (Fam.one (bodyX P w K mg base N qual (defScope st) f cdv A outer s H E)) (fun cls d _ H => E cls d H) (defBody st) t ∧
        ∀ ds S Q E, sp ds S Q E → t { nx := fun _ S' => Q .non S', rt := Q, ex := fun x _ S' => E x S' } (startD N ds) S) :
    FnOk P w K mg base (L2.CX P w) (k + 1) f fd ps (liftSp K sp) := by
  refine F.okX S (fun vs H Q E h => ?_) (fun cdv A outer s H vs Q E hr h => ?_)
  · obtain ⟨φ, S, ds, Q', E', _, rd, h, _⟩ := h
    rw [rd.length]
    exact len ds S Q' E' h
  · obtain ⟨φ, S0, ds, Q', E', r, rd, h, q, ex⟩ := h
    obtain ⟨t, ⟨t1, p1, k1⟩, ht⟩ := body cdv A outer s H E hr
    refine ⟨t1, p1 (), ?_⟩
    refine k1 (L2.start N vs) (startD N ds) φ S0 H _ _ r ?_ ?_ (ht ds S0 Q' E' h)
    · unfold L2.start startD
      rw [rd.length]
      exact start_sl rd
    · exact ⟨fun φ' H' S' ρ' σ' s r' _ h => q _ _ _ _ _ s r' rd_non h, fun φ' H' S' d v s r' rd h => q _ _ _ _ _ s r' rd h, fun _ _ _ _ _ _ _ _ h => h.elim, fun _ _ _ _ _ _ _ _ h => h.elim,
        fun φ' H' S' ρ' σ' x cls d s r' _ xr h => ex _ _ _ _ _ _ s r' xr h⟩
end
end Dy
namespace Dy
open PySem PySem.Spec PyProof.Rows L2
abbrev DM := D → List D → Store → QD → Prop
def LkM (K : PySem.W.Frag) (r' : DM) (r : V → List V → Hp → VK → Prop) : Prop := ∀ φ S H Q' Q d v ds vs, SR K φ S H → RD K φ H d v → RDs K φ H ds vs → EndV K φ H Q' Q → r' d ds S Q' → r v vs H Q
def dBM (r : DM) (to : DTE) (t : DTA) : DTE := fun ρ S Q E => to ρ S (fun o S1 => (∃ xs, lsOf S1 o = some xs) ∧ t ρ S1 (fun ds S2 => r o ds S2 Q) E) E
def dBM0 (r : DM) (to : DTE) : DTE := fun ρ S Q E => to ρ S (fun o S1 => (∃ xs, lsOf S1 o = some xs) ∧ r o [] S1 Q) E
section
variable {F : Fam} {W : WX} {o e : Expr} {es : List Expr} {to te : DTE} {t : DTA} {name : Str} {apos cpos : Pos} {id : String} {r : V → List V → Hp → VK → Prop} {r' : DM}
theorem de_bm (slot : Slot "list" name id) (hty : typeOf (.builtin id) = pure (.type "method_descriptor")) (hm : ∀ i, MtR (F.X i) id r) (lk : LkM F.K r' r) (ho : DE F W o to) (ha : DA F W (e :: es) t)
    (hbase : ∀ i, attributeBase o name (F.X i).env (eval o (F.X i).env) = eval o (F.X i).env := by intro _; rfl)
    (hfew : ∀ i, ((backTo cpos (starEach (e :: es) (F.X i).env)).all (fun x => !x.1) && (backToKw cpos (keywordEach [] (F.X i).env)).all (fun x => x.1.isSome)
      && decide ((e :: es).length + ([] : List Keyword).length + (if ([] : List Keyword).isEmpty then 0 else 1) < 30)) = true := by intro _; rfl)
    (hline : (apos.endLine == cpos.line) = true := by rfl) (hs : ∀ i, starEach (e :: es) (F.X i).env = (false, eval e (F.X i).env) :: starEach es (F.X i).env := by intro _; rfl) (hplain : ∀ i, (backTo cpos (starEach es (F.X i).env)).any (·.1) = false := by intro _; rfl) :
    DE F W (.Call (.Attribute o name apos) (e :: es) [] cpos) (dBM r' to t) := by
  obtain ⟨t1, p1, k1⟩ := ho
  obtain ⟨t2, p2, k2⟩ := ha
  refine ⟨tBM F.K "list" r t1 t2, fun i => F.hK i ▸ pe_bm PySem.F.plainAttrs_list slot hty (hm i) (p1 i) (p2 i) (hbase i) (hfew i) hline (hs i) (hplain i), fun σ ρ φ S H E Q' Q o q h => ?_⟩
  refine k1 σ ρ φ S H E _ _ o (fun φ1 H1 S1 d v s1 r1 rd h1 => ?_) h
  obtain ⟨⟨xs, ex⟩, h1⟩ := h1
  obtain ⟨a, vs, rfl, h2, _⟩ := ls_of r1 rd ex
  refine ⟨.inl ⟨rfl, vs, h2⟩, ?_⟩
  refine k2 σ ρ φ1 S1 H1 E _ _ (o.mono s1 r1) (fun φ2 H2 S2 ds ws s2 r2 rds h2 => ?_) h1
  exact lk φ2 S2 H2 _ _ d _ ds ws r2 (RD.mono s2 r1.muts _ _ rd) rds (q.mono (s1.trans s2)) h2
end
def mPopAt : DM := fun o ds S Q => ∃ n xs i k y, o = .ref n ∧ ds = [.int i] ∧ S[n]? = some (.lst xs) ∧ -(2 ^ 63) ≤ i ∧ i < 2 ^ 63 ∧ seqIndex? i xs.length = some k ∧ xs[k]? = some y ∧ Q y (S.set n (.lst (xs.eraseIdx k)))
section
variable {K : PySem.W.Frag}
theorem lk_popAt : LkM K mPopAt rPopAt := by
  rintro φ S H Q' Q d v ds vs r rd rds q ⟨n, xs, i, k, y, rfl, rfl, e, b1, b2, hk, hy, h⟩
  obtain ⟨a, ws, rfl, ha, hl, rs⟩ := r.lst rd e
  obtain ⟨u, rfl, ru⟩ := rds1 rds
  rw [RD] at ru
  subst ru
  obtain ⟨w, hw, rw'⟩ := rs.get hy
  have st := r.step_put (ho := .lst (ws.eraseIdx k)) ha
  exact ⟨a, ws, i, k, w, rfl, rfl, hl, b1, b2, by rw [rs.length]; exact hk, hw, q _ _ _ _ _ st (r.put (o := .lst (xs.eraseIdx k)) ha ⟨_, upd_same, RDs.mono st r.muts _ _ (rs.eraseIdx k)⟩) (RD.mono st r.muts _ _ rw') h⟩
end
section
variable {F : Fam} {W : WX} {o e : Expr} {es : List Expr} {to te : DTE} {t : DTA} {apos cpos : Pos}
theorem de_popAt (ho : DE F W o to) (ha : DA F W [e] t) (hbase : ∀ i, attributeBase o "pop" (F.X i).env (eval o (F.X i).env) = eval o (F.X i).env := by intro _; rfl)
    (hfew : ∀ i, ((backTo cpos (starEach [e] (F.X i).env)).all (fun x => !x.1) && (backToKw cpos (keywordEach [] (F.X i).env)).all (fun x => x.1.isSome)
      && decide (([e] : List Expr).length + ([] : List Keyword).length + (if ([] : List Keyword).isEmpty then 0 else 1) < 30)) = true := by intro _; rfl)
    (hline : (apos.endLine == cpos.line) = true := by rfl) (hs : ∀ i, starEach [e] (F.X i).env = (false, eval e (F.X i).env) :: starEach [] (F.X i).env := by intro _; rfl) (hplain : ∀ i, (backTo cpos (starEach [] (F.X i).env)).any (·.1) = false := by intro _; rfl) :
    DE F W (.Call (.Attribute o "pop" apos) [e] [] cpos) (dBM mPopAt to t) := de_bm PySem.F.slot_list_pop PySem.F.type_list_pop (fun _ => mt_popAt) lk_popAt ho ha hbase hfew hline hs hplain
end
def tagOf (S : Store) : D → Option String
  | .non => some "NoneType"
  | .bl _ => some "bool"
  | .int _ => some "int"
  | .str _ => some "str"
  | .tup _ => some "tuple"
  | .lst _ => some "list"
  | .frz _ => some "list"
  | .dic _ _ => some "dict"
  | .ref n => match S[n]? with
    | some (.lst _) => some "list"
    | some (.dK _) => some "dict"
    | _ => none
  | _ => none
def isiT (T tag : String) : Bool := tag == T || (T == "int" && tag == "bool")
def tags : List String := ["NoneType", "bool", "int", "str", "tuple", "list", "dict"]
theorem kit_tags : ∀ a ∈ tags, ∀ b ∈ tags, b ≠ "NoneType" → kitB a b = some (isiT b a) := by decide +kernel
theorem tag_ty {K : PySem.W.Frag} {φ : Al} {H : Hp} {S : Store} {d : D} {v : V} {tag : String} (r : SR K φ S H) (rd : RD K φ H d v) (h : tagOf S d = some tag) : TyX K H v (.type tag) ∧ tag ∈ tags := by
  cases d with
  | non => rw [RD] at rd; subst rd; cases h; exact ⟨.base .non, by decide⟩
  | bl b => rw [RD] at rd; subst rd; cases h; exact ⟨.base (.bl b), by decide⟩
  | int b => rw [RD] at rd; subst rd; cases h; exact ⟨.base (.int b), by decide⟩
  | str b => rw [RD] at rd; subst rd; cases h; exact ⟨.base (.str b), by decide⟩
  | ty n => cases h
  | cls n => cases h
  | exo a d ks xs => cases h
  | im T xs => cases h
  | tup xs =>
    obtain ⟨a, vs, rfl, h1, _⟩ := rd_tup rd
    cases h
    refine ⟨?_, by decide⟩
    rcases h1 with (h1 | ⟨o, h1⟩) | ⟨o, its, n, h1, h2, _⟩
    · exact .base (.tup h1)
    · exact .fTuple h1
    · exact .kTuple h1 h2
  | lst xs =>
    rw [RD] at rd
    obtain ⟨a, vs, rfl, h1, _⟩ := rd
    cases h
    exact ⟨.base (.lst h1.1), by decide⟩
  | frz xs =>
    rw [RD] at rd
    obtain ⟨a, vs, rfl, h1, _⟩ := rd
    cases h
    refine ⟨?_, by decide⟩
    rcases h1 with ⟨o, h1⟩ | (h1 | ⟨o, h1⟩) | ⟨o, its, n, h1, h2, _⟩
    · exact .base (.frz h1)
    · cases h1
    · cases h1
    · exact .kList h1 h2
  | dic ks xs =>
    rw [RD] at rd
    obtain ⟨a, vs, rfl, h1, _⟩ := rd
    cases h
    exact ⟨.base (.dK h1.1), by decide⟩
  | ref n =>
    simp only [tagOf] at h
    obtain ⟨a, rfl, ha⟩ := rd_ref rd
    split at h
    · rename_i xs e
      cases h
      obtain ⟨vs, h1, _⟩ := r.at_ n a _ ha e
      exact ⟨.base (.lst h1), by decide⟩
    · rename_i xs e
      cases h
      obtain ⟨vs, h1, _⟩ := r.at_ n a _ ha e
      exact ⟨.base (.dK h1), by decide⟩
    · cases h
def cIsi (T : String) : DR := fun ds S Q => ∃ d tag, ds = [d, .ty T] ∧ tagOf S d = some tag ∧ Q (.bl (isiT T tag)) S
theorem lk_isi {K : PySem.W.Frag} {T : String} (hT : T ∈ tags) (hN : T ≠ "NoneType") : LkC K (cIsi T) (rIsi K) := by
  rintro φ S H Q' Q ds vs r rd q ⟨d, tag, rfl, e, h⟩
  obtain ⟨v, w, rfl, h1, h2⟩ := rds2 rd
  rw [RD] at h2
  subst h2
  obtain ⟨ty, ht⟩ := tag_ty r h1 e
  exact ⟨v, .ty T, _, _, _, rfl, .ty T, ty, kit_ty (kit_tags tag ht T hT hN), q φ H S _ _ .refl r rd_bl h⟩
end Dy
namespace Dy
open PySem PySem.Spec PyProof.Rows L2
section
variable {X : Cx} {CX : CXT} {k : Nat} {C f : Addr} {fd : FuncData} {ps : List Str} {sp : Sp} {E : L2.St → XK} {x m : Str} {p apos pos : Pos} {o e : Expr} {es : List Expr} {t : TA} {ta : TE}
theorem pe_callS0' (G : FnOk X.prog X.w X.K X.mg X.base CX k f fd ps sp) (hr : Room k X.A) (hg : Gl X x) (hm : X.mg x = some (.ref f)) (hk : PySem.W.keepIn X.K (.ref f) = true) (hb : Binds X.K fd ps []) (hx : ∀ σ, PassesAt CX X σ (E σ))
    (hdb : (x == ("__debug__" : Str)) = false) : PE X (.Call (.Name x p) [] [] pos) (tCallS sp E tNil) :=
  ⟨fun pins s σ H Q I h => wpAny_Call_Name_kw (ld_glob I hg hm (PySem.W.callWith_K0 I.kIn hk (run_fnS (us := []) G hr hb (hx σ) I .nil h)) hdb)⟩
end
def putD (f : Str) (v : D) : List (Str × D) → List (Str × D)
  | [] => [(f, v)]
  | (g, x) :: r => if g = f then (g, v) :: r else (g, x) :: putD f v r
section
variable {K : PySem.W.Frag} {φ : Al} {H : Hp}
theorem RK.lookup {f : Str} : ∀ {fs : List (Str × D)} {ws : List (Str × V)}, RK K φ H fs ws → (∀ d, fs.lookup f = some d → ∃ v, ws.lookup f = some v ∧ RD K φ H d v) ∧ (fs.lookup f = none → ws.lookup f = none)
  | [], ws, h => by
    have : ws = [] := by have := h.1; simpa using this.symm
    subst this
    exact ⟨fun d e => by simp at e, fun _ => rfl⟩
  | (g, x) :: fs, [], h => by have := h.1; simp at this
  | (g, x) :: fs, (g2, v) :: ws, h => by
    obtain ⟨h1, h2⟩ := h
    simp only [List.map_cons, List.cons.injEq] at h1
    obtain ⟨rfl, h1⟩ := h1
    rw [List.map_cons, List.map_cons, RDs] at h2
    obtain ⟨v', r, e, r1, r2⟩ := h2
    cases e
    have ih := RK.lookup (f := f) (fs := fs) (ws := ws) ⟨h1, r2⟩
    by_cases e : f = g
    · subst e
      have l1 : ((f, x) :: fs).lookup f = some x := by simp [List.lookup]
      have l2 : ((f, v) :: ws).lookup f = some v := by simp [List.lookup]
      rw [l1, l2]
      exact ⟨fun d e => by cases e; exact ⟨v, rfl, r1⟩, fun e => by cases e⟩
    · have e' : (f == g) = false := by simpa using e
      have l1 : ((g, x) :: fs).lookup f = fs.lookup f := by simp [List.lookup, e']
      have l2 : ((g, v) :: ws).lookup f = ws.lookup f := by simp [List.lookup, e']
      rw [l1, l2]
      exact ih
theorem RK.put {f : Str} {d : D} {v : V} (rd : RD K φ H d v) : ∀ {fs : List (Str × D)} {ws : List (Str × V)}, RK K φ H fs ws → RK K φ H (putD f d fs) (putF f v ws)
  | [], ws, h => by
    have : ws = [] := by have := h.1; simpa using this.symm
    subst this
    exact ⟨rfl, .cons rd .nil⟩
  | (g, x) :: fs, [], h => by have := h.1; simp at this
  | (g, x) :: fs, (g2, u) :: ws, h => by
    obtain ⟨h1, h2⟩ := h
    simp only [List.map_cons, List.cons.injEq] at h1
    obtain ⟨rfl, h1⟩ := h1
    rw [List.map_cons, List.map_cons, RDs] at h2
    obtain ⟨v', r, e, r1, r2⟩ := h2
    cases e
    unfold putD putF
    by_cases e : g = f
    · rw [if_pos e, if_pos e]
      exact ⟨by simp [h1], .cons rd r2⟩
    · rw [if_neg e, if_neg e]
      obtain ⟨i1, i2⟩ := RK.put (f := f) rd (fs := fs) (ws := ws) ⟨h1, r2⟩
      exact ⟨by simp [i1], .cons r1 i2⟩
theorem RK.len {κ : Type} {fs : List (κ × D)} {ws : List (κ × V)} (h : RK K φ H fs ws) : ws.length = fs.length := by
  have := congrArg List.length h.1
  simpa using this.symm
end
section
variable {F : Fam} {W : WX} {o e : Expr} {es : List Expr} {to te : DTE} {t : DTA} {apos pos pos' : Pos} {f m x : Str} {C : Addr} {k : Nat} {fi : Addr} {fd : FuncData} {ps : List Str} {sp : DSp} {p : Pos}
/-- o.f, o an object of the store, of a class that P tells -/
def dFld (P : Addr → Prop) (f : Str) (to : DTE) : DTE := fun ρ S Q E => to ρ S (fun d S1 => ∃ n C fs v, d = .ref n ∧ S1[n]? = some (.ins C fs) ∧ P C ∧ fs.lookup f = some v ∧ Q v S1) E
/-- o.f = e -/
def dSetF (P : Addr → Prop) (f : Str) (to te : DTE) : DTS := fun D ρ S => te ρ S (fun d S1 => to ρ S1 (fun o S2 => ∃ n C fs, o = .ref n ∧ S2[n]? = some (.ins C fs) ∧ P C ∧ fs.length < 1000 ∧ D.nx ρ (S2.set n (.ins C (putD f d fs)))) (fun x S1 => D.ex x ρ S1)) (fun x S1 => D.ex x ρ S1)
def dMake (C : Addr) (sp : DSp) (t : DTA) : DTE := fun ρ S Q E => t ρ S (fun ds S1 => sp (.ref S1.length :: ds) (S1 ++ [.ins C []]) (fun d S2 => d = .non ∧ Q (.ref S1.length) S2) E) E
end
end Dy
namespace Dy
open PySem PySem.Spec PyProof.Rows L2
abbrev veL : List Value := [.type "ValueError", .type "Exception", .type "BaseException", .type "object"]
/-- an own error class at C -/
structure ErrC (K : PySem.W.Frag) (C : Addr) : Prop where
  kp : PySem.W.keepIn K (.ref C) = true
  sub : PySem.W.subIn K (.ref C) (.type "BaseException") = some true
  ty : PySem.W.typeIn K (.ref C) = some (.type "type")
/-- .. without an __init__ of its own -/
structure ErrN (K : PySem.W.Frag) (C : Addr) : Prop extends ErrC K C where
  ex : PySem.W.excIn K C veL "ValueError.__new__" = true
/-- .. that keeps its one argument as f; its __init__ at fI -/
structure ErrF (K : PySem.W.Frag) (C : Addr) (f : Str) (fI : Addr) : Prop extends ErrC K C where
  cls : ∃ nm q N bs bm sn sub ab col dd k0 k1 k2 k3 k5, K.lookup C = some (excClassObj nm q C N bs bm true sn sub ab col dd k0 k1 k2 k3 k5 "ValueError.__new__") ∧ PySem.HandSPX.refsVE bm = true
  sa : PySem.W.findIn K (.ref C) "__setattr__" = some (some (.builtin "object.__setattr__"))
  nof : PySem.W.findIn K (.ref C) f = some none
  init : PySem.W.findIn K (.ref C) "__init__" = some (some (.ref fI))
  tI : PySem.W.typeIn K (.ref fI) = some (.type "function")
theorem ErrF.oex {K : PySem.W.Frag} {C fI : Addr} {f : Str} (e : ErrF K C f fI) : OexC K C := ⟨e.cls, e.sa, e.sub, e.ty, e.kp⟩
theorem ErrC.raises {X : Cx} {C : Addr} (e : ErrC X.K C) : Raises X (.ref C) := raises_own e.sub e.ty
/-- the promise of such an __init__ -/
def spEI (C : Addr) (f : Str) : Sp := fun vs H Q _ => ∃ a v, vs = [.ref a, v] ∧ H a = some (exo a C none) ∧ ∀ dx, H dx = none → dx ≠ a → Q .non (upd (upd H dx (exd dx [(f, v)])) a (exo a C (some dx)))
section
variable {P : Program} {w : World} {K : PySem.W.Frag} {mg : Str → Option Value} {base : Heap}
theorem err_init {qual f : Str} {st : Stmt} {C fI : Addr} {fd : FuncData} {p1 p2 p3 p4 : Pos} (F : Fun K "__init__" qual st fI fd) (S : FnScope ["self", f] ["self", f] (defScope st))
    (hb : defBody st = [.Assign [.Attribute (.Name "self" p1) f p2] (.Name f p3) p4]) (T : ErrF K C f fI) (h1 : (f == ("__debug__" : Str)) = false := by decide) (h2 : (f == ("__classdict__" : Str)) = false := by decide) : FnOk P w K mg base (L2.CX P w) 1 fI fd ["self", f] (spEI C f) := by
  refine F.okX S (fun vs H Q E h => ?_) (fun cdv A outer s H vs Q E hr h => ?_)
  · obtain ⟨a, v, rfl, _⟩ := h
    rfl
  · obtain ⟨a, v, rfl, ha, q⟩ := h
    rw [hb]
    have v1 : Vis (defScope st) "self" := by
      rcases S.par "self" (by simp) with z | z
      · exact .inl z
      · exact .inr (.inl z)
    have v2 : Vis (defScope st) f := by
      rcases S.par f (by simp) with z | z
      · exact .inl z
      · exact .inr (.inl z)
    refine ⟨_, pss_one (ps_ost (pe_var (i := 0) rfl v1) (pe_var (i := 1) rfl v2 h1 h2)), ?_⟩
    exact ⟨v, rfl, _, rfl, a, C, rfl, T.oex, T.nof, .inl ⟨ha, fun dx hdx ne => q dx hdx ne⟩⟩
end
section
variable {F : Fam} {W : WX} {e : Expr} {te : DTE} {x f : Str} {C fI : Addr} {p pos pos2 : Pos} {fd : FuncData} {k : Nat}
def dRaise0 (C : Addr) : DTS := fun D ρ S => D.ex ⟨C, none⟩ ρ S
def dRaiseF (C : Addr) (f : Str) (te : DTE) : DTS := fun D ρ S => te ρ S (fun d S1 => D.ex ⟨C, some [(f, d)]⟩ ρ S1) (fun x S1 => D.ex x ρ S1)
end
/-- the caught error as a value -/
def exV (a : Addr) (d : Option Addr) (x : Exc) : D := match x.fs, d with
  | some fs, some dd => .exo a dd (fs.map (·.1)) (fs.map (·.2))
  | _, _ => .cls a
theorem zip_map {κ : Type} : ∀ ws : List (κ × V), (ws.map (·.1)).zip (ws.map (·.2)) = ws
  | [] => rfl
  | w :: ws => by simp [zip_map ws]
theorem exV_rd {K : PySem.W.Frag} {φ : Al} {H : Hp} {x : Exc} {cls : Value} {d : Option Addr} (h : ExR K φ H x cls d) (a : Addr) : RD K φ H (exV a d x) (.ref a) := by
  obtain ⟨C, fs⟩ := x
  obtain ⟨_, h⟩ := h
  cases fs with
  | none => unfold exV; rw [RD]
  | some fs =>
    obtain ⟨dd, ws, rfl, h1, h2, h3⟩ := h
    show RD K φ H (.exo a dd (fs.map (·.1)) (fs.map (·.2))) (.ref a)
    rw [RD]
    refine ⟨ws.map (·.2), rfl, ?_, ?_, h3⟩
    · have h2' : fs.map (·.1) = ws.map (·.1) := h2
      rw [h2', zip_map]; exact h1
    · have := congrArg List.length h2
      simpa using this
section
variable {F : Fam} {W : WX} {x n : Str} {c : Value} {i : Nat} {body suite : List Stmt} {b0 : Stmt} {np pos pos' : Pos} {tb : DTS} {ts : Addr → Exc → Option Addr → DTS}
/-- the contexts of a try's body, of an except suite -/
def Fam.tr (F : Fam) (W' : WX) : Fam := ⟨Σ' (i : F.ι) (pn : List (Addr × Obj)) (xe : Value → Shared → Prop), Takes ((F.X i).tr pn xe) W' ∧ PassesOwn (model (F.X i).prog (F.X i).w) (F.X i).A (F.X i).env xe, fun j => (F.X j.1).tr j.2.1 j.2.2.1, F.K, fun j => F.hK j.1⟩
/-- em: of which classes the clause takes the errors -/
theorem ExR.some {K : PySem.W.Frag} {φ : Al} {H : Hp} {x : Exc} {cls : Value} {d : Option Addr} (h : ExR K φ H x cls d) : d.isSome = x.fs.isSome := by
  obtain ⟨C, fs⟩ := x
  obtain ⟨_, h⟩ := h
  cases fs with
  | none => have h : d = none := h; subst h; rfl
  | some fs => obtain ⟨dd, ws, rfl, _⟩ := h; rfl
def dTryAs (em : Addr → Option Bool) (i : Nat) (tb : DTS) (ts : Addr → Exc → Option Addr → DTS) : DTS := fun D ρ S =>
  tb { D with ex := fun x ρ1 S1 => ∃ b, em x.C = some b ∧ (b = true → ∀ a d, d.isSome = x.fs.isSome → ts a x d { D with nx := fun ρ2 S2 => D.nx (ρ2.set i none) S2, bk := fun ρ2 S2 => D.bk (ρ2.set i none) S2, ct := fun ρ2 S2 => D.ct (ρ2.set i none) S2, ex := fun _ _ _ => False } (ρ1.set i (some (exV a d x))) S1) ∧ (b = false → D.ex x ρ1 S1) } ρ S
end
section
variable {F : Fam} {W : WX} {a : Addr} {C : Addr} {d : Option Addr} {e : Expr} {te : DTE} {f : Str} {pos : Pos}
theorem zip_lookup {K : PySem.W.Frag} {φ : Al} {H : Hp} {f : Str} {u : D} : ∀ {ks : List Str} {xs : List D} {vs : List V}, RDs K φ H xs vs → (ks.zip xs).lookup f = some u → ∃ v, (ks.zip vs).lookup f = some v ∧ RD K φ H u v
  | [], xs, vs, _, h => by simp at h
  | k :: ks, [], vs, _, h => by simp at h
  | k :: ks, x :: xs, vs, r, h => by
    rw [RDs] at r
    obtain ⟨v, vs', rfl, r1, r2⟩ := r
    rw [List.zip_cons_cons] at h ⊢
    by_cases e : f = k
    · subst e
      have l1 : ((f, x) :: ks.zip xs).lookup f = some x := by simp [List.lookup]
      have l2 : ((f, v) :: ks.zip vs').lookup f = some v := by simp [List.lookup]
      rw [l1] at h
      cases h
      exact ⟨v, l2, r1⟩
    · have e' : (f == k) = false := by simpa using e
      have l1 : ((k, x) :: ks.zip xs).lookup f = (ks.zip xs).lookup f := by simp [List.lookup, e']
      have l2 : ((k, v) :: ks.zip vs').lookup f = (ks.zip vs').lookup f := by simp [List.lookup, e']
      rw [l1] at h
      rw [l2]
      exact zip_lookup r2 h
end
end Dy
namespace Dy
open PySem PySem.Spec PyProof.Rows L2
mutual
def pyD : D → Option PyData
  | .non => some .none
  | .bl b => some (.bool b)
  | .int i => some (.int i)
  | .str x => some (.str x)
  | .tup xs => (pyDs xs).map .tuple
  | .lst xs => (pyDs xs).map .list
  | .frz xs => (pyDs xs).map .list
  | _ => none
def pyDs : List D → Option (List PyData)
  | [] => some []
  | x :: xs => (pyD x).bind fun d => (pyDs xs).map fun ds => d :: ds
end
def pyS (S : Store) : D → Option PyData
  | .ref n => match S[n]? with
    | some (.lst xs) => (pyDs xs).map .list
    | _ => none
  | d => pyD d
section
variable {K : PySem.W.Frag} {φ : Al} {H : Hp} {S : Store}
mutual
theorem dp_of : ∀ (d : D) (v : V) (p : PyData), RD K φ H d v → pyD d = some p → Dp K H v p ∧ p.plain = true
  | .non, v, p, h, e => by rw [RD] at h; rw [pyD] at e; cases e; subst h; exact ⟨.non, rfl⟩
  | .bl b, v, p, h, e => by rw [RD] at h; rw [pyD] at e; cases e; subst h; exact ⟨.bl b, rfl⟩
  | .int b, v, p, h, e => by rw [RD] at h; rw [pyD] at e; cases e; subst h; exact ⟨.int b, rfl⟩
  | .str b, v, p, h, e => by rw [RD] at h; rw [pyD] at e; cases e; subst h; exact ⟨.str b, rfl⟩
  | .tup xs, v, p, h, e => by
    rw [RD] at h
    rw [pyD] at e
    obtain ⟨a, vs, rfl, h1, h2⟩ := h
    cases q : pyDs xs with
    | none => rw [q] at e; cases e
    | some ps =>
      rw [q] at e; cases e
      obtain ⟨i1, i2⟩ := dps_of xs vs ps h2 q
      exact ⟨.tup h1 i1, by rw [PyData.plain]; exact i2⟩
  | .lst xs, v, p, h, e => by
    rw [RD] at h
    rw [pyD] at e
    obtain ⟨a, vs, rfl, h1, h2⟩ := h
    cases q : pyDs xs with
    | none => rw [q] at e; cases e
    | some ps =>
      rw [q] at e; cases e
      obtain ⟨i1, i2⟩ := dps_of xs vs ps h2 q
      exact ⟨.lst h1.sq i1, by rw [PyData.plain]; exact i2⟩
  | .frz xs, v, p, h, e => by
    rw [RD] at h
    rw [pyD] at e
    obtain ⟨a, vs, rfl, h1, h2⟩ := h
    cases q : pyDs xs with
    | none => rw [q] at e; cases e
    | some ps =>
      rw [q] at e; cases e
      obtain ⟨i1, i2⟩ := dps_of xs vs ps h2 q
      exact ⟨.lst h1.sq i1, by rw [PyData.plain]; exact i2⟩
  | .ty n, v, p, h, e => by rw [pyD] at e <;> first | cases e | exact fun _ => nofun | nofun
  | .dic ks xs, v, p, h, e => by rw [pyD] at e <;> first | cases e | exact fun _ => nofun | nofun
  | .ref n, v, p, h, e => by rw [pyD] at e <;> first | cases e | exact fun _ => nofun | nofun
  | .cls n, v, p, h, e => by rw [pyD] at e <;> first | cases e | exact fun _ => nofun | nofun
  | .exo _ _ _ _, v, p, h, e => by rw [pyD] at e <;> first | cases e | exact fun _ => nofun | nofun
  | .im _ _, v, p, h, e => by rw [pyD] at e <;> first | cases e | exact fun _ => nofun | nofun
theorem dps_of : ∀ (xs : List D) (vs : List V) (ps : List PyData), RDs K φ H xs vs → pyDs xs = some ps → DpAll K H vs ps ∧ PyData.plainAll ps = true
  | [], vs, ps, h, e => by rw [RDs] at h; rw [pyDs] at e; cases e; subst h; exact ⟨.nil, rfl⟩
  | x :: xs, vs, ps, h, e => by
    rw [RDs] at h
    rw [pyDs] at e
    obtain ⟨v, r, rfl, h1, h2⟩ := h
    cases q : pyD x with
    | none => rw [q] at e; cases e
    | some d =>
      rw [q] at e
      cases q2 : pyDs xs with
      | none => rw [q2] at e; cases e
      | some ds =>
        rw [q2] at e; cases e
        obtain ⟨i1, i2⟩ := dp_of x v d h1 q
        obtain ⟨j1, j2⟩ := dps_of xs r ds h2 q2
        exact ⟨.cons i1 j1, by rw [PyData.plainAll, i2, j2]; rfl⟩
end
theorem dpS_of (r : SR K φ S H) {d : D} {v : V} {p : PyData} (h : RD K φ H d v) (e : pyS S d = some p) : Dp K H v p ∧ p.plain = true := by
  cases d with
  | ref n =>
    simp only [pyS] at e
    split at e
    · rename_i xs q
      obtain ⟨a, vs, rfl, _, h1, h2⟩ := r.lst h q
      cases q2 : pyDs xs with
      | none => rw [q2] at e; cases e
      | some ds =>
        rw [q2] at e; cases e
        obtain ⟨j1, j2⟩ := dps_of xs vs ds h2 q2
        exact ⟨.lst (SqL.of h1) j1, by rw [PyData.plain]; exact j2⟩
    · cases e
  | _ => exact dp_of _ v p h e
end
def rEqP (K : PySem.W.Frag) (neg : Bool) : R2 := fun x y H Q => ∃ d e, Dp K H x d ∧ Dp K H y e ∧ d.plain = true ∧ e.plain = true ∧ min d.depth e.depth ≤ 60 ∧ Q (.bl (neg ^^ PyData.eqv d e)) H
theorem ep_bl {X : Cx} {pins : List (Addr × Obj)} {σ : L2.St} {s : Shared} {Q : VK} {b c : Bool} (I : Inv X pins σ H s) (q : Q (.bl b) H) (e : b = c) : EP X pins σ Q (.bool c) s := ⟨.bl c, H, I, rfl, e ▸ q⟩
theorem op_eqP {X : Cx} (hu : X.A.units + 64 < cLine) : OpR X (compareOp .Eq) (rEqP X.K false) := by
  rintro pins s σ H x y v u Q I rx ry ⟨d, e, dx, dy, p1, p2, hd, q⟩
  obtain ⟨as, ra⟩ := Dp.reads I d x v dx rx
  obtain ⟨bs, rb⟩ := Dp.reads I e y u dy ry
  exact SeqAt.eq_plain ra rb p1 p2 (by omega) (ep_bl I q (by simp))
theorem op_neP {X : Cx} (hu : X.A.units + 64 < cLine) : OpR X (compareOp .NotEq) (rEqP X.K true) := by
  rintro pins s σ H x y v u Q I rx ry ⟨d, e, dx, dy, p1, p2, hd, q⟩
  obtain ⟨as, ra⟩ := Dp.reads I d x v dx rx
  obtain ⟨bs, rb⟩ := Dp.reads I e y u dy ry
  exact SeqAt.ne_plain ra rb p1 p2 (by omega) (ep_bl I q (by simp))
/-- == -/
def dEqN (neg : Bool) : D2 := fun x y S Q => match x, y with
  | .int i, .int j => Q (.bl (neg ^^ decide (i = j))) S
  | .str i, .str j => Q (.bl (neg ^^ decide (i = j))) S
  | .bl i, .bl j => Q (.bl (neg ^^ decide (i = j))) S
  | .non, .non => Q (.bl (neg ^^ true)) S
  | x, y => ∃ d e, pyS S x = some d ∧ pyS S y = some e ∧ min d.depth e.depth ≤ 60 ∧ Q (.bl (neg ^^ PyData.eqv d e)) S
theorem lk_eqN {K : PySem.W.Frag} (neg : Bool) : Lk K (dEqN neg) (rEqP K neg) := by
  intro φ S H Q' Q x y v1 v2 r r1 r2 q h
  have gen : ∀ d e : PyData, pyS S x = some d → pyS S y = some e → min d.depth e.depth ≤ 60 → Q' (.bl (neg ^^ PyData.eqv d e)) S → rEqP K neg v1 v2 H Q := fun d e e1 e2 hd h => by
    obtain ⟨i1, i2⟩ := dpS_of r r1 e1
    obtain ⟨j1, j2⟩ := dpS_of r r2 e2
    exact ⟨d, e, i1, j1, i2, j2, hd, q φ H S _ _ .refl r rd_bl h⟩
  unfold dEqN at h
  split at h
  · rename_i i j
    refine gen (.int i) (.int j) rfl rfl (by simp [PyData.depth]) ?_
    have : PyData.eqv (.int i) (.int j) = decide (i = j) := by rw [PyData.eqv]; exact PySem.W.beq_decide i j
    rw [this]; exact h
  · rename_i i j
    refine gen (.str i) (.str j) rfl rfl (by simp [PyData.depth]) ?_
    have : PyData.eqv (.str i) (.str j) = decide (i = j) := by rw [PyData.eqv]; exact PySem.W.beq_decide i j
    rw [this]; exact h
  · rename_i i j
    refine gen (.bool i) (.bool j) rfl rfl (by simp [PyData.depth]) ?_
    have : PyData.eqv (.bool i) (.bool j) = decide (i = j) := by rw [PyData.eqv]; exact PySem.W.beq_decide i j
    rw [this]; exact h
  · exact gen .none .none rfl rfl (by simp [PyData.depth]) h
  · obtain ⟨d, e, e1, e2, hd, h⟩ := h
    exact gen d e e1 e2 hd h
theorem lk_eq {K : PySem.W.Frag} : Lk K (dEqN false) (rEqP K false) := lk_eqN false
theorem lk_ne {K : PySem.W.Frag} : Lk K (dEqN true) (rEqP K true) := lk_eqN true
section
variable {F : Fam} {k : Nat}
theorem oq_eq (hr : ∀ i, Room k (F.X i).A) (i : F.ι) : OpR (F.X i) (compareOp .Eq) (rEqP F.K false) := F.hK i ▸ op_eqP (hr i).units
theorem oq_ne (hr : ∀ i, Room k (F.X i).A) (i : F.ι) : OpR (F.X i) (compareOp .NotEq) (rEqP F.K true) := F.hK i ▸ op_neP (hr i).units
end
theorem bt_int : bootBuiltins "int" = some (.type "int") := by decide +kernel
theorem bt_bool : bootBuiltins "bool" = some (.type "bool") := by decide +kernel
theorem bt_abs : bootBuiltins "abs" = some (.builtin "abs") := by decide +kernel
theorem bt_len : bootBuiltins "len" = some (.builtin "len") := by decide +kernel
theorem bt_sum : bootBuiltins "sum" = some (.builtin "sum") := by decide +kernel
theorem bt_isinstance : bootBuiltins "isinstance" = some (.builtin "isinstance") := by decide +kernel
theorem bt_ValueError : bootBuiltins "ValueError" = some (.type "ValueError") := by decide +kernel
section
variable {F : Fam} {W : WX} {e e2 : Expr} {t : DTA} {p pos : Pos} {k : Nat}
abbrev St1 (F : Fam) (e : Expr) (es : List Expr) : Prop := ∀ i, starEach (e :: es) (F.X i).env = (false, eval e (F.X i).env) :: starEach es (F.X i).env
abbrev Pl1 (F : Fam) (pos : Pos) (es : List Expr) : Prop := ∀ i, (backTo pos (starEach es (F.X i).env)).any (·.1) = false
theorem dc_int (hm : ∀ i, (F.X i).mg "int" = none) (ha : DA F W [e] t) (hg : ∀ i, Gl (F.X i) "int" := by intro _; rfl) (he : St1 F e [] := by intro _; rfl) (hp : Pl1 F pos [] := by intro _; rfl) : DE F W (.Call (.Name "int" p) [e] [] pos) (dCB cInt t) := de_callTy (fun _ => call_int1) lk_int hg hm bt_int ha (he := he) (hpl := hp)
theorem dc_abs (hm : ∀ i, (F.X i).mg "abs" = none) (ha : DA F W [e] t) (hg : ∀ i, Gl (F.X i) "abs" := by intro _; rfl) (he : St1 F e [] := by intro _; rfl) (hp : Pl1 F pos [] := by intro _; rfl) : DE F W (.Call (.Name "abs" p) [e] [] pos) (dCB cAbs t) := de_callB (fun _ => call_abs) lk_abs hg hm bt_abs ha (he := he) (hpl := hp)
theorem dc_len (hm : ∀ i, (F.X i).mg "len" = none) (ha : DA F W [e] t) (hg : ∀ i, Gl (F.X i) "len" := by intro _; rfl) (he : St1 F e [] := by intro _; rfl) (hp : Pl1 F pos [] := by intro _; rfl) : DE F W (.Call (.Name "len" p) [e] [] pos) (dCB cLen t) := de_callB (fun i => F.hK i ▸ call_len_seq) lk_len hg hm bt_len ha (he := he) (hpl := hp)
theorem dc_sum (hc : ∀ i, (F.X i).calm = true) (hm : ∀ i, (F.X i).mg "sum" = none) (ha : DA F W [e] t) (hg : ∀ i, Gl (F.X i) "sum" := by intro _; rfl) (he : St1 F e [] := by intro _; rfl) (hp : Pl1 F pos [] := by intro _; rfl) : DE F W (.Call (.Name "sum" p) [e] [] pos) (dCB cSum t) := de_callB (fun i => F.hK i ▸ cr_sum (hc i)) lk_sum hg hm bt_sum ha (he := he) (hpl := hp)
theorem dc_isi {T : String} (hT : T ∈ tags) (hN : T ≠ "NoneType") (hm : ∀ i, (F.X i).mg "isinstance" = none) (ha : DA F W [e, e2] t) (hg : ∀ i, Gl (F.X i) "isinstance" := by intro _; rfl) (he : St1 F e [e2] := by intro _; rfl) (hp : Pl1 F pos [e2] := by intro _; rfl) :
    DE F W (.Call (.Name "isinstance" p) [e, e2] [] pos) (dCB (cIsi T) t) := de_callB (fun i => F.hK i ▸ call_isi) (lk_isi hT hN) hg hm bt_isinstance ha (he := he) (hpl := hp)
end
def Cal (P : Program) (w : World) (K : PySem.W.Frag) (mg : Str → Option Value) (base : Heap) (x : Str) (k : Nat) (ps : List Str) (sp : DSp) : Prop :=
  ∃ f fd, FnOk P w K mg base (L2.CX P w) k f fd ps (liftSp K sp) ∧ mg x = some (.ref f) ∧ PySem.W.keepIn K (.ref f) = true ∧ Binds K fd ps []
section
variable {F : Fam} {W : WX} {e : Expr} {es : List Expr} {t : DTA} {p pos : Pos} {k k2 : Nat} {x : Str} {ps : List Str} {sp : DSp}
abbrev CalF (F : Fam) (x : Str) (k : Nat) (ps : List Str) (sp : DSp) : Prop := ∀ i, Cal (F.X i).prog (F.X i).w (F.X i).K (F.X i).mg (F.X i).base x k ps sp
theorem de_callC (c : CalF F x k ps sp) (hr : ∀ i, Room k2 (F.X i).A) (hk : k ≤ k2) (tk : ∀ i, Takes (F.X i) W) (ha : DA F W (e :: es) t) (hg : ∀ i, Gl (F.X i) x := by intro _; rfl) (hdb : (x == ("__debug__" : Str)) = false := by decide) (he : St1 F e es := by intro _; rfl) (hp : Pl1 F pos es := by intro _; rfl) :
    DE F W (.Call (.Name x p) (e :: es) [] pos) (dCall sp t) := by
  obtain ⟨t1, p1, k1⟩ := ha
  refine ⟨tCallS (liftSp F.K sp) (WE W) t1, fun i => ?_, fun σ ρ φ S H E Q' Q o q h => k1 σ ρ φ S H E _ _ o (fun φ1 H1 S1 ds vs s1 r1 rd h1 => call_link (o.mono s1 r1) (q.mono s1) rd h1) h⟩
  obtain ⟨f, fd, G, gm, kp, bd⟩ := c i
  rw [F.hK i] at G
  have G' : FnOk (F.X i).prog (F.X i).w (F.X i).K (F.X i).mg (F.X i).base (L2.CX (F.X i).prog (F.X i).w) k f fd ps (liftSp F.K sp) := by rw [F.hK i]; exact G
  exact pe_callS G' ((hr i).mono hk) (hg i) gm kp bd (fun σ => passAt (tk i) σ) (p1 i) hdb (he i) (hp i)
theorem de_callC0 (c : CalF F x k ps sp) (hr : ∀ i, Room k2 (F.X i).A) (hk : k ≤ k2) (tk : ∀ i, Takes (F.X i) W) (hg : ∀ i, Gl (F.X i) x := by intro _; rfl) (hdb : (x == ("__debug__" : Str)) = false := by decide) : DE F W (.Call (.Name x p) [] [] pos) (dCall sp dNil) := by
  refine ⟨tCallS (liftSp F.K sp) (WE W) tNil, fun i => ?_, fun σ ρ φ S H E Q' Q o q h => call_link o q .nil h⟩
  obtain ⟨f, fd, G, gm, kp, bd⟩ := c i
  rw [F.hK i] at G
  have G' : FnOk (F.X i).prog (F.X i).w (F.X i).K (F.X i).mg (F.X i).base (L2.CX (F.X i).prog (F.X i).w) k f fd ps (liftSp F.K sp) := by rw [F.hK i]; exact G
  exact pe_callS0' G' ((hr i).mono hk) (hg i) gm kp bd (fun σ => passAt (tk i) σ) hdb
end
end Dy
namespace Dy
open PySem PySem.Spec PyProof.Rows L2
def dPut (d o i : D) (P : Store → Prop) (S : Store) : Prop := ∃ n xs k j, o = .ref n ∧ S[n]? = some (.lst xs) ∧ i = .int k ∧ ixN xs.length k = some j ∧ P (S.set n (.lst (xs.set j d)))
section
variable {ρ : Rho} {S : Store} {Q : QD} {E : XQ} {ta tb tc te to ti : DTE} {uA uB : DTT} {t tr : DTA} {r r' : D2} {d d2 x y : D} {i j n : Nat} {D' : DEnds} {u v : DTS} {QT : Bool → Store → Prop} {QA : List D → Store → Prop}
theorem c_op (h : ta ρ S (fun d1 S1 => tb ρ S1 (fun d2 S2 => r d1 d2 S2 Q) E) E) : dOp r ta tb ρ S Q E := h
theorem c_un {r : D → Store → QD → Prop} (h : ta ρ S (fun d S1 => r d S1 Q) E) : dUn r ta ρ S Q E := h
theorem c_var (e : ρ[i]? = some (some d)) (h : Q d S) : dVar i ρ S Q E := ⟨d, e, h⟩
theorem c_c (h : Q d S) : dC d ρ S Q E := h
theorem c_nil (h : QA [] S) : dNil ρ S QA E := h
theorem c_cons (h : te ρ S (fun d S1 => tr ρ S1 (fun ds S2 => QA (d :: ds) S2) E) E) : dCons te tr ρ S QA E := h
theorem c_tup (h : t ρ S (fun ds S1 => ds.length ≤ sizeLine ∧ Q (.tup ds) S1) E) : dTup t ρ S Q E := h
theorem c_lst (h : t ρ S (fun ds S1 => ds.length ≤ sizeLine ∧ Q (.lst ds) S1) E) : dLst t ρ S Q E := h
theorem c_new (h : t ρ S (fun ds S1 => ds.length ≤ sizeLine ∧ Q (.ref S1.length) (S1 ++ [.lst ds])) E) : dNew t ρ S Q E := h
theorem c_cb {r : DR} (h : t ρ S (fun ds S1 => r ds S1 Q) E) : dCB r t ρ S Q E := h
theorem c_call {sp : DSp} (h : t ρ S (fun ds S1 => sp ds S1 Q E) E) : dCall sp t ρ S Q E := h
theorem c_if (h : uA ρ S (fun c S1 => if c = true then ta ρ S1 Q E else tb ρ S1 Q E) E) : dIf uA ta tb ρ S Q E := h
theorem c_andV (h : ta ρ S (fun d S1 => ∃ c, d = .bl c ∧ if c = true then tb ρ S1 Q E else Q (.bl false) S1) E) : dAndV ta tb ρ S Q E := h
theorem c_orV (h : ta ρ S (fun d S1 => ∃ c, d = .bl c ∧ if c = true then Q (.bl true) S1 else tb ρ S1 Q E) E) : dOrV ta tb ρ S Q E := h
theorem c_notV (h : ta ρ S (fun d S1 => ∃ c, d = .bl c ∧ Q (.bl (!c)) S1) E) : dNotV ta ρ S Q E := h
theorem c_test (h : te ρ S (fun d S1 => ∃ k, d = .bl k ∧ QT k S1) E) : dTest te ρ S QT E := h
theorem c_and (h : uA ρ S (fun c S1 => if c = true then uB ρ S1 QT E else QT false S1) E) : dAnd uA uB ρ S QT E := h
theorem c_or (h : uA ρ S (fun c S1 => if c = true then QT true S1 else uB ρ S1 QT E) E) : dOr uA uB ρ S QT E := h
theorem c_not (h : uA ρ S (fun c S1 => QT (!c) S1) E) : dNot uA ρ S QT E := h
theorem c_yes (h : QT true S) : dYes ρ S QT E := h
theorem c_bl {P : Bool → Prop} {b : Bool} (h : P b) : ∃ k, D.bl b = .bl k ∧ P k := ⟨b, rfl, h⟩
theorem c_chain {r r' : D2} (h : ta ρ S (fun x S1 => tb ρ S1 (fun y S2 => r x y S2 fun z S3 => ∃ k, z = .bl k ∧ (if k = true then tc ρ S3 (fun w S4 => r' y w S4 Q) E else Q (.bl false) S3)) E) E) : dChain r r' ta tb tc ρ S Q E := h
theorem c_sl {r : D → Option Int → Option Int → Store → QD → Prop} {tl th : DTO} (h : te ρ S (fun x S1 => tl ρ S1 (fun l S2 => th ρ S2 (fun u S3 => r x l u S3 Q) E) E) E) : dSl r te tl th ρ S Q E := h
theorem c_nopart {QO : Option Int → Store → Prop} (h : QO none S) : dNoPart ρ S QO E := h
theorem c_part {QO : Option Int → Store → Prop} (h : te ρ S (fun d S1 => ∃ i, d = .int i ∧ QO (some i) S1) E) : dPart te ρ S QO E := h
theorem c_intE {P : Int → Prop} {i : Int} (h : P i) : ∃ k, D.int i = .int k ∧ P k := ⟨i, rfl, h⟩
theorem o_I0 {g : Int → Int → D} {i j : Int} (h : Q (g i j) S) : dI0 g (.int i) (.int j) S Q := ⟨i, j, rfl, rfl, h⟩
theorem o_I {C : Int → Int → Prop} {g : Int → Int → D} {i j : Int} (c : C i j) (h : Q (g i j) S) : dI C g (.int i) (.int j) S Q := ⟨i, j, rfl, rfl, c, h⟩
theorem o_addI {i j : Int} (h : Q (.int (i + j)) S) : dAdd (.int i) (.int j) S Q := h
theorem o_ix {xs : List D} {i : Int} {v : D} (e : sqOf S x = some xs) (e2 : atI xs i = some v) (h : Q v S) : dIx x (.int i) S Q := ⟨xs, i, v, e, rfl, e2, h⟩
theorem o_cat {xs ys : List D} (e1 : lsM S x = some xs) (e2 : lsM S y = some ys) (c : xs.length + ys.length ≤ sizeLine) (h : Q (.lst (xs ++ ys)) S) : dCat x y S Q := ⟨xs, ys, e1, e2, c, h⟩
theorem o_isN (h : Q (.bl (isN x)) S) : dIsN x .non S Q := ⟨rfl, h⟩
theorem o_notN (h : Q (.bl (!isN x)) S) : dNotN x .non S Q := ⟨rfl, h⟩
theorem o_eqI {neg : Bool} {i j : Int} (h : Q (.bl (neg ^^ decide (i = j))) S) : dEqN neg (.int i) (.int j) S Q := h
theorem o_eqS {neg : Bool} {i j : Str} (h : Q (.bl (neg ^^ decide (i = j))) S) : dEqN neg (.str i) (.str j) S Q := h
theorem o_eqB {neg : Bool} {i j : Bool} (h : Q (.bl (neg ^^ decide (i = j))) S) : dEqN neg (.bl i) (.bl j) S Q := h
theorem o_neg {i : Int} (h : Q (.int (-i)) S) : dNeg (.int i) S Q := ⟨i, rfl, h⟩
theorem o_slT {xs : List D} {lo hi : Option Int} (h : Q (.tup (cutD xs lo hi)) S) : dSlT (.tup xs) lo hi S Q := ⟨xs, rfl, h⟩
theorem o_slL {xs : List D} {lo hi : Option Int} (e : lsOf S x = some xs) (h : Q (.lst (cutD xs lo hi)) S) : dSlL x lo hi S Q := ⟨xs, e, h⟩
theorem o_int {i : Int} (h : Q (.int i) S) : cInt [.int i] S Q := .inl ⟨i, rfl, h⟩
theorem o_intB {b : Bool} (h : Q (.int (if b then 1 else 0)) S) : cInt [.bl b] S Q := .inr ⟨b, rfl, h⟩
theorem o_abs {i : Int} (h : Q (.int (if i < 0 then -i else i)) S) : cAbs [.int i] S Q := ⟨i, rfl, h⟩
theorem o_len {xs : List D} (e : sqOf S d = some xs) (h : Q (.int xs.length) S) : cLen [d] S Q := ⟨d, xs, rfl, e, h⟩
theorem o_list {xs : List D} (e : sqOf S d = some xs) (h : Q (.lst xs) S) : cList [d] S Q := ⟨d, xs, rfl, e, h⟩
theorem o_listN {xs : List D} (e : sqOf S d = some xs) (h : Q (.ref S.length) (S ++ [.lst xs])) : cListN [d] S Q := ⟨d, xs, rfl, e, h⟩
theorem o_tuple {xs : List D} (e : sqOf S d = some xs) (h : Q (.tup xs) S) : cTuple [d] S Q := ⟨d, xs, rfl, e, h⟩
theorem o_isi {T tag : String} (e : tagOf S d = some tag) (h : Q (.bl (isiT T tag)) S) : cIsi T [d, .ty T] S Q := ⟨d, tag, rfl, e, h⟩
theorem o_lsAnd {xs : List D} {B : Prop} (e : lsOf S d = some xs) (h : B) : (∃ xs, lsOf S d = some xs) ∧ B := ⟨⟨xs, e⟩, h⟩
variable {nx bk ct : Rho → Store → Prop} {rt : D → Store → Prop} {ex : Exc → Rho → Store → Prop}
theorem s_seq (h : u ⟨v ⟨nx, rt, bk, ct, ex⟩, rt, bk, ct, ex⟩ ρ S) : dSeq u v ⟨nx, rt, bk, ct, ex⟩ ρ S := h
theorem s_next (h : nx ρ S) : dNext ⟨nx, rt, bk, ct, ex⟩ ρ S := h
theorem s_asg (h : te ρ S (fun d S1 => nx (ρ.set i (some d)) S1) (fun x S1 => ex x ρ S1)) : dAsg te (eName i) ⟨nx, rt, bk, ct, ex⟩ ρ S := h
theorem s_asgG {g : DTG} (h : te ρ S (fun d S1 => g d ρ S1 nx) (fun x S1 => ex x ρ S1)) : dAsg te g ⟨nx, rt, bk, ct, ex⟩ ρ S := h
theorem s_drop (h : te ρ S (fun _ S1 => nx ρ S1) (fun x S1 => ex x ρ S1)) : dDrop te ⟨nx, rt, bk, ct, ex⟩ ρ S := h
theorem s_ret (h : te ρ S rt (fun x S1 => ex x ρ S1)) : dRet te ⟨nx, rt, bk, ct, ex⟩ ρ S := h
theorem s_retN (h : rt .non S) : dRetN ⟨nx, rt, bk, ct, ex⟩ ρ S := h
theorem s_ifs (h : uA ρ S (fun b S1 => if b = true then u ⟨nx, rt, bk, ct, ex⟩ ρ S1 else v ⟨nx, rt, bk, ct, ex⟩ ρ S1) (fun x S1 => ex x ρ S1)) : dIfS uA u v ⟨nx, rt, bk, ct, ex⟩ ρ S := h
theorem s_par (h : t ρ S (fun ds S1 => ∃ d c, ds = [d, c] ∧ nx ((ρ.set i (some d)).set j (some c)) S1) (fun x S1 => ex x ρ S1)) : dPar i j t ⟨nx, rt, bk, ct, ex⟩ ρ S := h
theorem s_two {P : D → D → Prop} {a b : D} (h : P a b) : ∃ d c, [a, b] = [d, c] ∧ P d c := ⟨a, b, rfl, h⟩
theorem s_aug (e : ρ[i]? = some (some x)) (h : te ρ S (fun d S1 => r x d S1 fun z S2 => nx (ρ.set i (some z)) S2) (fun x S1 => ex x ρ S1)) : dAug i te r ⟨nx, rt, bk, ct, ex⟩ ρ S := ⟨x, e, h⟩
theorem s_setL (h : te ρ S (fun d S1 => to ρ S1 (fun o S2 => ti ρ S2 (fun i S3 => dPut d o i (nx ρ) S3) (fun x S1 => ex x ρ S1)) (fun x S1 => ex x ρ S1)) (fun x S1 => ex x ρ S1)) : dSetL te to ti ⟨nx, rt, bk, ct, ex⟩ ρ S := h
theorem o_put {P : Store → Prop} {xs : List D} {k : Int} (e : S[n]? = some (.lst xs)) (e2 : ixN xs.length k = some j)
    (h : ∀ S', S'.length = S.length → S'[n]? = some (.lst (xs.set j d)) → (∀ m : Nat, m ≠ n → S'[m]? = S[m]?) → P S') : dPut d (.ref n) (.int k) P S := by
  refine ⟨n, xs, k, j, rfl, e, rfl, e2, h _ (by simp) ?_ fun m hm => List.getElem?_set_ne (Ne.symm hm)⟩
  exact List.getElem?_set_self (List.getElem?_eq_some_iff.mp e).1
theorem g_name {P : Rho → Store → Prop} (h : P (ρ.set i (some d)) S) : eName i d ρ S P := h
theorem g_tup {P : Rho → Store → Prop} {g : DTGs} {xs : List D} (e : xs.length = n) (h : g xs ρ S P) : eTup n g (.tup xs) ρ S P := ⟨xs, rfl, e, h⟩
theorem g_nil {P : Rho → Store → Prop} (h : P ρ S) : eNil [] ρ S P := ⟨rfl, h⟩
theorem g_cons {P : Rho → Store → Prop} {g : DTG} {gs : DTGs} {ds : List D} (h : g d ρ S fun ρ1 S1 => gs ds ρ1 S1 P) : eCons g gs (d :: ds) ρ S P := ⟨d, ds, rfl, h⟩
theorem sq_ref {xs : List D} (e : S[n]? = some (.lst xs)) : sqOf S (.ref n) = some xs := by unfold sqOf lsOf; simp only [e]
theorem ls_ref {xs : List D} (e : S[n]? = some (.lst xs)) : lsOf S (.ref n) = some xs := by unfold lsOf; simp only [e]
theorem lm_ref {xs : List D} (e : S[n]? = some (.lst xs)) : lsM S (.ref n) = some xs := by unfold lsM; simp only [e]
theorem tg_ref {xs : List D} (e : S[n]? = some (.lst xs)) : tagOf S (.ref n) = some "list" := by unfold tagOf; simp only [e]
theorem o_popAt {xs : List D} {k : Int} {y : D} (e : S[n]? = some (.lst xs)) (b1 : -(2 ^ 63) ≤ k) (b2 : k < 2 ^ 63) (e2 : seqIndex? k xs.length = some j) (e3 : xs[j]? = some y)
    (h : ∀ S', S'.length = S.length → S'[n]? = some (.lst (xs.eraseIdx j)) → (∀ m : Nat, m ≠ n → S'[m]? = S[m]?) → Q y S') : mPopAt (.ref n) [.int k] S Q :=
  ⟨n, xs, k, j, y, rfl, rfl, e, b1, b2, e2, e3, h _ (by simp) (List.getElem?_set_self (List.getElem?_eq_some_iff.mp e).1) fun m hm => List.getElem?_set_ne (Ne.symm hm)⟩
theorem s_bm {r : DM} (h : to ρ S (fun o S1 => (∃ xs, lsOf S1 o = some xs) ∧ t ρ S1 (fun ds S2 => r o ds S2 Q) E) E) : dBM r to t ρ S Q E := h
theorem s_bm0 {r : DM} (h : to ρ S (fun o S1 => (∃ xs, lsOf S1 o = some xs) ∧ r o [] S1 Q) E) : dBM0 r to ρ S Q E := h
theorem s_rng1 {R : List D → (Store → Prop) → Store → Prop} (h : t ρ S (fun ds S1 => ∃ j : Int, ds = [.int j] ∧ -(2 ^ 62) ≤ j ∧ j < 2 ^ 62 ∧ R (rngD 0 j.toNat) (fun _ => True) S1) E) : jRng1 t ρ S R E := h
theorem s_sq {R : List D → (Store → Prop) → Store → Prop} (h : te ρ S (fun d S1 => ∃ xs, sqOf S1 d = some xs ∧ R xs (fun S => sqOf S d = some xs) S1) E) : jSq te ρ S R E := h
end
theorem ifD {P : Prop} [Decidable P] {A B : Prop} (h1 : P → A) (h2 : ¬P → B) : if decide P = true then A else B := by
  by_cases h : P
  · rw [if_pos (decide_eq_true h)]; exact h1 h
  · rw [if_neg fun c => h (of_decide_eq_true c)]; exact h2 h
def dLcK (g : D → Rho → (Rho → Prop) → Prop) (tt : DTT) (te : DTE) (ρ : Rho) (Q : QD) (xs : List D) (live : Store → Prop) (S1 : Store) : Prop :=
  ∃ Pv : Nat → List D → Store → Prop, Pv 0 [] S1 ∧ (∀ k acc S, k ≤ xs.length → Pv k acc S → live S) ∧
  (∀ k x acc S, xs[k]? = some x → Pv k acc S → g x ρ fun ρ2 => tt ρ2 S (fun b S2 => if b = true then te ρ2 S2 (fun y S3 => acc.length < sizeLine ∧ Pv (k + 1) (acc ++ [y]) S3) noX else Pv (k + 1) acc S2) noX) ∧
  ∀ acc S, Pv xs.length acc S → Q (.lst acc) S
theorem c_lc {ρ : Rho} {S : Store} {Q : QD} {E : XQ} {ti : DTI} {g : D → Rho → (Rho → Prop) → Prop} {tt : DTT} {te : DTE} (h : ti ρ S (fun xs live S1 => dLcK g tt te ρ Q xs live S1) E) : dLc ti g tt te ρ S Q E := h
theorem c_lcN {ρ : Rho} {S : Store} {Q : QD} {E : XQ} {ti : DTI} {g : D → Rho → (Rho → Prop) → Prop} {tt : DTT} {te : DTE} (h : ti ρ S (fun xs live S1 => dLcK g tt te ρ (fun d S1 => ∃ xs, d = .lst xs ∧ Q (.ref S1.length) (S1 ++ [.lst xs])) xs live S1) E) : dLcN ti g tt te ρ S Q E := h
/-- items told by a function, a test told by a function -/
theorem o_lcG {ρ : Rho} {S : Store} {Q : QD} {tt : DTT} {te : DTE} {i : Nat} {xs : List D} {live : Store → Prop} (f : D → D) (p : D → Bool) (hl : live S) (hz : xs.length ≤ sizeLine)
    (ht : ∀ x ∈ xs, ∀ P : Bool → Store → Prop, P (p x) S → tt (ρ.set i (some x)) S P noX) (he : ∀ x ∈ xs, p x = true → ∀ P : QD, P (f x) S → te (ρ.set i (some x)) S P noX)
    (h : Q (.lst ((xs.filter p).map f)) S) : dLcK (c1 i) tt te ρ Q xs live S := by
  refine ⟨fun k acc S' => S' = S ∧ acc = ((xs.take k).filter p).map f, ⟨rfl, by simp⟩, fun k acc S' _ ⟨e, _⟩ => e ▸ hl, fun k x acc S' hx ⟨e, ea⟩ => ?_, fun acc S' ⟨e, ea⟩ => ?_⟩
  · subst e ea
    have m := List.mem_of_getElem? hx
    refine ht x m _ ?_
    have st : xs.take (k + 1) = xs.take k ++ [x] := by rw [List.take_succ, hx]; rfl
    cases e : p x with
    | false =>
      rw [if_neg Bool.false_ne_true]
      refine ⟨rfl, ?_⟩
      rw [st, List.filter_append]
      simp [e]
    | true =>
      rw [if_pos rfl]
      refine he x m e _ ⟨?_, rfl, ?_⟩
      · have h1 : k < xs.length := (List.getElem?_eq_some_iff.mp hx).1
        have h2 := List.length_filter_le p (xs.take k)
        rw [List.length_take] at h2
        rw [List.length_map]
        omega
      · rw [st, List.filter_append]
        simp [e]
  · subst e ea
    rw [List.take_length]
    exact h
/-- items told by a function -/
theorem o_lcM {ρ : Rho} {S : Store} {Q : QD} {te : DTE} {i : Nat} {xs : List D} {live : Store → Prop} (f : D → D) (hl : live S) (hz : xs.length ≤ sizeLine)
    (he : ∀ x ∈ xs, ∀ P : QD, P (f x) S → te (ρ.set i (some x)) S P noX) (h : Q (.lst (xs.map f)) S) : dLcK (c1 i) dYes te ρ Q xs live S := by
  refine o_lcG f (fun _ => true) hl hz (fun _ _ P h => h) (fun x m _ => he x m) ?_
  rw [List.filter_eq_self.mpr fun _ _ => rfl]
  exact h
/-- a loop behind its items -/
def dForK (g : DTG) (tb : DTS) (nx : Rho → Store → Prop) (rt : D → Store → Prop) (ex : Exc → Rho → Store → Prop) (ρ : Rho) (xs : List D) (live : Store → Prop) (S1 : Store) : Prop :=
  ∃ Pv : Nat → Rho → Store → Prop, Pv 0 ρ S1 ∧ (∀ i ρ S, i ≤ xs.length → Pv i ρ S → live S) ∧
  (∀ i x ρ S, xs[i]? = some x → Pv i ρ S → g x ρ S fun ρ2 S2 => tb ⟨Pv (i + 1), rt, nx, Pv (i + 1), ex⟩ ρ2 S2) ∧ ∀ ρ S, Pv xs.length ρ S → nx ρ S
theorem s_for {ρ : Rho} {S : Store} {nx bk ct : Rho → Store → Prop} {rt : D → Store → Prop} {ex : Exc → Rho → Store → Prop} {ti : DTI} {g : DTG} {tb : DTS} (h : ti ρ S (fun xs live S1 => dForK g tb nx rt ex ρ xs live S1) (fun x S1 => ex x ρ S1)) : dFor ti g tb ⟨nx, rt, bk, ct, ex⟩ ρ S := h
theorem sz_and {n : Nat} {P : Prop} (h : n ≤ 100000) (k : P) : n ≤ sizeLine ∧ P := ⟨Nat.le_trans h (by decide), k⟩
theorem ifB {c : Bool} {A B : Prop} (h1 : c = true → A) (h2 : c = false → B) : if c = true then A else B := by
  cases c with
  | false => rw [if_neg Bool.false_ne_true]; exact h2 rfl
  | true => rw [if_pos rfl]; exact h1 rfl
theorem ifYes {c : Bool} {A B : Prop} (e : c = true) (h : A) : if c = true then A else B := by rw [if_pos e]; exact h
theorem ifNo {c : Bool} {A B : Prop} (e : c = false) (h : B) : if c = true then A else B := by rw [e, if_neg Bool.false_ne_true]; exact h
theorem small {n : Nat} (h : n ≤ 100000) : n ≤ sizeLine := Nat.le_trans h (by decide)
theorem at0 {α : Type} (xs : List α) : atI xs 0 = xs[0]? := by
  unfold atI ixN
  cases xs <;> simp
theorem atN {α : Type} (xs : List α) (k : Nat) : atI xs (k : Int) = xs[k]? := by
  unfold atI ixN
  by_cases h : k < xs.length
  · simp [h]
  · simp [h]
theorem at1 {α : Type} (xs : List α) : atI xs 1 = xs[1]? := atN xs 1
theorem at2 {α : Type} (xs : List α) : atI xs 2 = xs[2]? := atN xs 2
theorem at3 {α : Type} (xs : List α) : atI xs 3 = xs[3]? := atN xs 3
theorem at4 {α : Type} (xs : List α) : atI xs 4 = xs[4]? := atN xs 4
theorem ixN_0 {n : Nat} (h : 0 < n) : ixN n 0 = some 0 := by unfold ixN; simp; omega
theorem at_mod {α β : Type} {f : α → β} {xs : List α} {t : Int} (h : xs ≠ []) : ∃ x, atI (xs.map f) (t % (xs.map f).length) = some (f x) := by
  have hp : (0 : Int) < (xs.map f).length := by
    have := List.length_pos_iff.mpr h
    simp; omega
  have h1 := Int.emod_nonneg t (by omega : ((xs.map f).length : Int) ≠ 0)
  have h2 := Int.emod_lt_of_pos t hp
  obtain ⟨k, hk⟩ := Int.eq_ofNat_of_zero_le h1
  rw [hk] at h2 ⊢
  have hkl : k < xs.length := by simp at h2; omega
  exact ⟨xs[k], by rw [atN, List.getElem?_map, List.getElem?_eq_getElem hkl]; rfl⟩
theorem cut_take {xs : List D} {v : Int} (h : 0 ≤ v) : cutD xs none (some v) = xs.take v.toNat := by
  unfold cutD HT.sIx
  simp only [List.drop_zero, Nat.sub_zero]
  rw [if_neg (by omega)]
  by_cases q : v.toNat ≤ xs.length
  · rw [Nat.min_eq_left q]
  · rw [Nat.min_eq_right (by omega), List.take_of_length_le (by omega), List.take_of_length_le (by omega)]
theorem all_int : ∀ {l : List D}, (∀ x ∈ l, ∃ i, x = .int i) → ∃ is : List Int, l = is.map .int
  | [], _ => ⟨[], rfl⟩
  | x :: l, h => by
    obtain ⟨i, rfl⟩ := h x List.mem_cons_self
    obtain ⟨is, rfl⟩ := all_int fun y m => h y (List.mem_cons_of_mem _ m)
    exact ⟨i :: is, rfl⟩
theorem o_sqAnd {S : Store} {d : D} {xs : List D} {P : List D → Prop} (e : sqOf S d = some xs) (h : P xs) : ∃ xs, sqOf S d = some xs ∧ P xs := ⟨xs, e, h⟩
theorem o_lstE {P : List D → Prop} {xs : List D} (h : P xs) : ∃ ys, D.lst xs = .lst ys ∧ P ys := ⟨xs, rfl, h⟩
theorem o_sum {S : Store} {Q : QD} {ns : List Int} (h : Q (.int ns.sum) S) : cSum [.lst (ns.map .int)] S Q := ⟨_, ns, rfl, rfl, h⟩
end Dy
namespace Dy
open PySem PySem.Spec PyProof.Rows L2 PySem.SeqAt
def isCont : D → Bool
  | .tup _ => true
  | .lst _ => true
  | .frz _ => true
  | .dic _ _ => true
  | _ => false
/-- a value that isinstance and == ask by its kind -/
def plainD : D → Bool
  | .non => true
  | .bl _ => true
  | .int _ => true
  | .str _ => true
  | d => isCont d
def tagD : D → String
  | .non => "NoneType"
  | .bl _ => "bool"
  | .int _ => "int"
  | .str _ => "str"
  | .tup _ => "tuple"
  | .dic _ _ => "dict"
  | _ => "list"
theorem tag_plain {S : Store} {d : D} (c : plainD d = true) : tagOf S d = some (tagD d) := by
  cases d <;> first | rfl | cases c
theorem o_isiP {S : Store} {Q : QD} {T : String} {d : D} (c : plainD d = true) (h : Q (.bl (isiT T (tagD d))) S) : cIsi T [d, .ty T] S Q := ⟨d, _, rfl, tag_plain c, h⟩
/-- plain data, of tuples, lists that nobody changes, and empty dicts -/
inductive Dat : D → Prop
  | non : Dat .non
  | bl (b : Bool) : Dat (.bl b)
  | int (i : Int) : Dat (.int i)
  | str (s : Str) : Dat (.str s)
  | dic : Dat (.dic [] [])
  | tup {xs : List D} (h : ∀ x ∈ xs, Dat x) (z : xs.length ≤ 1000) : Dat (.tup xs)
  | lst {xs : List D} (h : ∀ x ∈ xs, Dat x) (z : xs.length ≤ 1000) : Dat (.lst xs)
theorem Dat.plain {d : D} (h : Dat d) : plainD d = true := by cases h <;> rfl
end Dy
namespace Dy
open PySem PySem.Spec PyProof.Rows L2
section
variable {F : Fam} {W : WX} {e e2 : Expr} {es : List Expr} {te : DTE} {t : DTA} {p pos pos2 : Pos} {k k2 : Nat} {x f : Str} {ps : List Str} {sp : DSp} {C : Addr} {d : D}
/-- an error class with one field -/
def CalE (P : Program) (w : World) (K : PySem.W.Frag) (mg : Str → Option Value) (base : Heap) (x : Str) (C : Addr) (f : Str) : Prop :=
  ∃ fI fd, ErrF K C f fI ∧ mg x = some (.ref C) ∧ FnOk P w K mg base (L2.CX P w) 1 fI fd ["self", f] (spEI C f) ∧ Binds K fd ["self", f] []
end
def cIsE (a dd : Addr) (kt : D → Option Bool) : DR := fun ds S Q => ∃ ks xs c b, ds = [.exo a dd ks xs, c] ∧ kt c = some b ∧ Q (.bl b) S
theorem o_isE {a dd : Addr} {kt : D → Option Bool} {ks : List Str} {xs : List D} {c : D} {b : Bool} {S : Store} {Q : QD} (e : kt c = some b) (h : Q (.bl b) S) : cIsE a dd kt [.exo a dd ks xs, c] S Q := ⟨ks, xs, c, b, rfl, e, h⟩
def oFld (P : Addr → Prop) (f : Str) (d : D) (S : Store) (Q : QD) : Prop := ∃ n C fs v, d = .ref n ∧ S[n]? = some (.ins C fs) ∧ P C ∧ fs.lookup f = some v ∧ Q v S
def oSetF (P : Addr → Prop) (f : Str) (d o : D) (R : Store → Prop) (S : Store) : Prop := ∃ n C fs, o = .ref n ∧ S[n]? = some (.ins C fs) ∧ P C ∧ fs.length < 1000 ∧ R (S.set n (.ins C (putD f d fs)))
def dDnil : DTE := fun _ S Q _ => Q (.dic [] []) S
theorem pe_dnil {X : Cx} {pos : Pos} : PE X (.Dict [] [] pos) (fun _ H Q => ∀ p, H p = none → Q (.ref p) (upd H p (.dK []))) :=
  ⟨fun pins s σ H Q I q => wpAny_Dict_empty
    ⟨.ref s.heap.objs.size, _, I.laid (a := s.heap.objs.size) (o := .dK []) (h' := s.heap.push { cls := .type "dict", data := .dict #[] }) (t' := s.toks) (fun _ _ g => Heap.get?_push_of_some _ g) (Nat.le_refl _) (dk_empty s.heap I.big), rfl,
      q _ (I.hok.fresh (Nat.le_refl _))⟩⟩
theorem de_dnil {F : Fam} {W : WX} {pos : Pos} : DE F W (.Dict [] [] pos) dDnil :=
  ⟨_, fun i => pe_dnil, fun σ ρ φ S H E Q' Q o q h p hp => q φ _ S _ _ (step_new hp) (o.sr.new hp) (by rw [RD]; exact ⟨p, [], rfl, ⟨upd_same, o.sr.out hp, o.sr.outb hp⟩, rfl, .nil⟩) h⟩
theorem c_dnil {ρ : Rho} {S : Store} {Q : QD} {E : XQ} (h : Q (.dic [] []) S) : dDnil ρ S Q E := h
theorem c_make {C : Addr} {sp : DSp} {t : DTA} {ρ : Rho} {S : Store} {Q : QD} {E : XQ} (h : t ρ S (fun ds S1 => sp (.ref S1.length :: ds) (S1 ++ [.ins C []]) (fun d S2 => d = .non ∧ Q (.ref S1.length) S2) E) E) : dMake C sp t ρ S Q E := h
theorem c_fld {P : Addr → Prop} {f : Str} {to : DTE} {ρ : Rho} {S : Store} {Q : QD} {E : XQ} (h : to ρ S (fun d S1 => oFld P f d S1 Q) E) : dFld P f to ρ S Q E := h
theorem o_fld {P : Addr → Prop} {f : Str} {n : Nat} {C : Addr} {fs : List (Str × D)} {v : D} {S : Store} {Q : QD} (e : S[n]? = some (.ins C fs)) (hP : P C) (hl : fs.lookup f = some v) (h : Q v S) : oFld P f (.ref n) S Q := ⟨n, C, fs, v, rfl, e, hP, hl, h⟩
theorem s_setF {P : Addr → Prop} {f : Str} {to te : DTE} {nx bk ct : Rho → Store → Prop} {rt : D → Store → Prop} {ex : Exc → Rho → Store → Prop} {ρ : Rho} {S : Store} (h : te ρ S (fun d S1 => to ρ S1 (fun o S2 => oSetF P f d o (nx ρ) S2) (fun x S1 => ex x ρ S1)) (fun x S1 => ex x ρ S1)) : dSetF P f to te ⟨nx, rt, bk, ct, ex⟩ ρ S := h
theorem s_raiseF {C : Addr} {f : Str} {te : DTE} {nx bk ct : Rho → Store → Prop} {rt : D → Store → Prop} {ex : Exc → Rho → Store → Prop} {ρ : Rho} {S : Store} (h : te ρ S (fun d S1 => ex ⟨C, some [(f, d)]⟩ ρ S1) (fun x S1 => ex x ρ S1)) : dRaiseF C f te ⟨nx, rt, bk, ct, ex⟩ ρ S := h
theorem s_tryAs {em : Addr → Option Bool} {i : Nat} {tb : DTS} {ts : Addr → Exc → Option Addr → DTS} {nx bk ct : Rho → Store → Prop} {rt : D → Store → Prop} {ex : Exc → Rho → Store → Prop} {ρ : Rho} {S : Store}
    (h : tb ⟨nx, rt, bk, ct, fun x ρ1 S1 => ∃ b, em x.C = some b ∧ (b = true → ∀ a d, d.isSome = x.fs.isSome → ts a x d ⟨fun ρ2 S2 => nx (ρ2.set i none) S2, rt, fun ρ2 S2 => bk (ρ2.set i none) S2, fun ρ2 S2 => ct (ρ2.set i none) S2, fun _ _ _ => False⟩ (ρ1.set i (some (exV a d x))) S1) ∧ (b = false → ex x ρ1 S1)⟩ ρ S) :
    dTryAs em i tb ts ⟨nx, rt, bk, ct, ex⟩ ρ S := h
def oXe (a dd : Addr) (f : Str) (v : D) (S1 : Store) (Q : QD) : Prop := ∃ ks xs u, v = .exo a dd ks xs ∧ (ks.zip xs).lookup f = some u ∧ Q u S1
def dXe (a dd : Addr) (f : Str) (te : DTE) : DTE := fun ρ S Q E => te ρ S (fun v S1 => oXe a dd f v S1 Q) E
def tsOnly (C : Addr) (t : Addr → Addr → DTS) (a : Addr) (x : Exc) : Option Addr → DTS
  | some dd => if x.C = C then t a dd else fun _ _ _ => False
  | none => fun _ _ _ => False
theorem s_only {C : Addr} {t : Addr → Addr → DTS} {a dd : Addr} {fs : Option (List (Str × D))} {D' : DEnds} {ρ : Rho} {S : Store} (h : t a dd D' ρ S) : tsOnly C t a ⟨C, fs⟩ (some dd) D' ρ S := by
  have e : tsOnly C t a ⟨C, fs⟩ (some dd) = t a dd := if_pos rfl
  rw [e]; exact h
theorem c_xe {a dd : Addr} {f : Str} {te : DTE} {ρ : Rho} {S : Store} {Q : QD} {E : XQ} (h : te ρ S (fun v S1 => oXe a dd f v S1 Q) E) : dXe a dd f te ρ S Q E := h
theorem o_xe {a dd : Addr} {f : Str} {ks : List Str} {xs : List D} {u : D} {S : Store} {Q : QD} (e : (ks.zip xs).lookup f = some u) (h : Q u S) : oXe a dd f (.exo a dd ks xs) S Q := ⟨ks, xs, u, rfl, e, h⟩
end Dy
namespace Dy
open PySem PySem.Spec PyProof.Rows L2
/-- data of tuples, at most n deep -/
def okD : Nat → D → Bool
  | _, .non => true
  | _, .bl _ => true
  | _, .int _ => true
  | _, .str _ => true
  | n + 1, .tup xs => xs.all (okD n)
  | _, _ => false
mutual
theorem py_ok : ∀ (n : Nat) (d : D), okD n d = true → ∃ p, pyD d = some p ∧ p.depth ≤ n ∧ p.plain = true
  | n, .non, _ => ⟨.none, by rw [pyD], by rw [PyData.depth] <;> first | omega | (intros; contradiction), rfl⟩
  | n, .bl b, _ => ⟨.bool b, by rw [pyD], by rw [PyData.depth] <;> first | omega | (intros; contradiction), rfl⟩
  | n, .int b, _ => ⟨.int b, by rw [pyD], by rw [PyData.depth] <;> first | omega | (intros; contradiction), rfl⟩
  | n, .str b, _ => ⟨.str b, by rw [pyD], by rw [PyData.depth] <;> first | omega | (intros; contradiction), rfl⟩
  | n + 1, .tup xs, h => by
    obtain ⟨ps, e, hd, hp⟩ := pys_ok n xs (by unfold okD at h; exact h)
    exact ⟨.tuple ps, by rw [pyD, e]; rfl, by rw [PyData.depth]; omega, by rw [PyData.plain]; exact hp⟩
  | 0, .tup _, h => by unfold okD at h; cases h
  | _, .lst _, h => by unfold okD at h; cases h
  | _, .frz _, h => by unfold okD at h; cases h
  | _, .dic _ _, h => by unfold okD at h; cases h
  | _, .ref _, h => by unfold okD at h; cases h
  | _, .ty _, h => by unfold okD at h; cases h
  | _, .cls _, h => by unfold okD at h; cases h
  | _, .exo _ _ _ _, h => by unfold okD at h; cases h
  | _, .im _ _, h => by unfold okD at h; cases h
theorem pys_ok : ∀ (n : Nat) (xs : List D), xs.all (okD n) = true → ∃ ps, pyDs xs = some ps ∧ PyData.depthAll ps ≤ n ∧ PyData.plainAll ps = true
  | n, [], _ => ⟨[], by rw [pyDs], by rw [PyData.depthAll]; omega, by rw [PyData.plainAll]⟩
  | n, x :: xs, h => by
    rw [List.all_cons, Bool.and_eq_true] at h
    obtain ⟨p, e1, h1, h2⟩ := py_ok n x h.1
    obtain ⟨ps, e3, h3, h4⟩ := pys_ok n xs h.2
    exact ⟨p :: ps, by rw [pyDs, e1, e3]; rfl, by rw [PyData.depthAll]; omega, by rw [PyData.plainAll, h2, h4]; rfl⟩
end
end Dy
namespace Dy
open PySem PySem.Spec PyProof.Rows L2
/-- the law's own promise -/
def spLaw : DSp := fun ds S Q E => ∃ ns : List Int, ds = [.frz (ns.map .int)] ∧ S = [] ∧ ∀ S', Q (.bl true) S'
theorem rds_ints {K : PySem.W.Frag} {φ : Al} {H : Hp} : ∀ ns : List Int, RDs K φ H (ns.map D.int) (ns.map V.int)
  | [] => by rw [List.map_nil, List.map_nil, RDs]
  | n :: ns => by rw [List.map_cons, List.map_cons, RDs]; exact ⟨_, _, rfl, by rw [RD], rds_ints ns⟩
theorem law_starts {K : PySem.W.Frag} {H : Hp} {a : Addr} {ns : List Int} (o : Only H) (h : SqL K H a (ns.map V.int)) : liftSp K spLaw [V.ref a] H (fun v _ => v = .bl true) fun _ _ _ => False := by
  have hf : FrF K H a (ns.map V.int) := by
    rcases h with (h | ⟨p, h⟩) | h
    · rcases o a with e | ⟨p, xs, e⟩
      · rw [e] at h; cases h
      · rw [e] at h; cases h
    · exact .inl ⟨p, h⟩
    · exact .inr (.inr h)
  refine ⟨⟨[], []⟩, [], [.frz (ns.map .int)], fun d _ => d = .bl true, fun _ _ => False, ⟨List.nodup_nil, rfl, fun n a o h => by simp at h, (fun a h => nomatch h), (fun a h => nomatch h)⟩, ?_, ⟨ns, rfl, rfl, fun _ => rfl⟩, ?_, ?_⟩
  · rw [RDs]
    exact ⟨_, _, rfl, by rw [RD]; exact ⟨a, _, rfl, hf, rds_ints ns⟩, by rw [RDs]⟩
  · intro φ' H' S' d v s r rd e
    cases e
    rw [RD] at rd
    exact rd
  · intro φ' H' S' x cls d s r xr z
    exact z.elim
theorem kit_ty_of {K : PySem.W.Frag} {C : Addr} (h : PySem.W.subIn K (.ref C) (.type "ValueError") = some true) : PySem.W.kitOne K (.ref C) (.type "ValueError") = some true := by
  unfold PySem.W.kitOne
  have q : (Value.ref C == Value.type "ValueError") = false := by rfl
  rw [q, if_neg Bool.false_ne_true]
  unfold PySem.W.kitCls
  exact (if_pos (by decide +kernel)).trans h
end Dy
namespace Dy
open PySem PySem.Spec PyProof.Rows L2
abbrev KVD := List (Key × D)
def valD (kvs : KVD) (k : Key) : Option D := (kvs.find? fun kv => decide (kv.1 = k)).map (·.2)
def dputK (kvs : KVD) (k : Key) (d : D) : KVD := if (kvs.any fun kv => decide (kv.1 = k)) = true then kvs.map (fun kv => if kv.1 = k then (kv.1, d) else kv) else kvs ++ [(k, d)]
def ddropK (kvs : KVD) (k : Key) : KVD := kvs.filter fun kv => decide (kv.1 ≠ k)
def dvOf (S : Store) : D → Option KVD
  | .dic ks xs => some (ks.zip xs)
  | .ref n => match S[n]? with
    | some (.dK kvs) => some kvs
    | _ => none
  | _ => none
def kyOf : D → Option Key
  | .int i => some (.inl i)
  | .str s => some (.inr s)
  | _ => none
def kyD : Key → D
  | .inl i => .int i
  | .inr s => .str s
section
variable {K : PySem.W.Frag} {φ : Al} {H : Hp} {S : Store}
theorem rk_nil {ws : List (Key × V)} (h : RK K φ H ([] : KVD) ws) : ws = [] := by
  have := h.1
  cases ws with
  | nil => rfl
  | cons w ws => cases this
theorem rk_cons {p : Key × D} {kvs : KVD} {ws : List (Key × V)} (h : RK K φ H (p :: kvs) ws) : ∃ v ws', ws = (p.1, v) :: ws' ∧ RD K φ H p.2 v ∧ RK K φ H kvs ws' := by
  obtain ⟨h1, h2⟩ := h
  cases ws with
  | nil => cases h1
  | cons w ws =>
    rw [List.map_cons, List.map_cons] at h1 h2
    rw [RDs] at h2
    obtain ⟨v, r, e, r1, r2⟩ := h2
    obtain ⟨e1, e2⟩ := List.cons.inj e
    obtain ⟨e3, e4⟩ := List.cons.inj h1
    refine ⟨w.2, ws, by rw [e3], by rw [e1]; exact r1, e4, ?_⟩
    rw [e2]; exact r2
theorem rk_mk_nil : RK K φ H ([] : KVD) ([] : List (Key × V)) := ⟨rfl, .nil⟩
theorem rk_mk {k : Key} {d : D} {v : V} {kvs : KVD} {ws : List (Key × V)} (h : RD K φ H d v) (r : RK K φ H kvs ws) : RK K φ H ((k, d) :: kvs) ((k, v) :: ws) := by
  refine ⟨?_, ?_⟩
  · rw [List.map_cons, List.map_cons, r.1]
  · rw [List.map_cons, List.map_cons]; exact .cons h r.2
theorem rk_len {kvs : KVD} {ws : List (Key × V)} (h : RK K φ H kvs ws) : ws.length = kvs.length := by
  have := congrArg List.length h.1
  simpa using this.symm
theorem rk_val {k : Key} : ∀ {kvs : KVD} {ws : List (Key × V)}, RK K φ H kvs ws → (∀ d, valD kvs k = some d → ∃ v, valV ws k = some v ∧ RD K φ H d v) ∧ (valD kvs k).isSome = (valV ws k).isSome
  | [], ws, h => by
    cases rk_nil h
    exact ⟨(fun d e => by cases e), rfl⟩
  | p :: kvs, ws, h => by
    obtain ⟨v, ws', rfl, r1, r2⟩ := rk_cons h
    by_cases e : p.1 = k
    · have e1 : valD (p :: kvs) k = some p.2 := by simp [valD, List.find?_cons, e]
      have e2 : valV ((p.1, v) :: ws') k = some v := valV_pos (p := (p.1, v)) e
      rw [e1, e2]
      exact ⟨(fun d q => by cases q; exact ⟨v, rfl, r1⟩), rfl⟩
    · have e1 : valD (p :: kvs) k = valD kvs k := by simp [valD, List.find?_cons, e]
      have e2 : valV ((p.1, v) :: ws') k = valV ws' k := valV_neg (p := (p.1, v)) e
      rw [e1, e2]
      exact rk_val r2
theorem rk_zip : ∀ {ks : List Key} {xs : List D} {vs : List V}, ks.length = vs.length → RDs K φ H xs vs → RK K φ H (ks.zip xs) (ks.zip vs)
  | [], xs, vs, e, h => rk_mk_nil
  | k :: ks, [], vs, e, h => by
    have := h.length
    cases vs with
    | nil => cases e
    | cons v vs => cases this
  | k :: ks, x :: xs, vs, e, h => by
    rw [RDs] at h
    obtain ⟨v, r, rfl, r1, r2⟩ := h
    exact rk_mk r1 (rk_zip (by simpa using e) r2)
theorem dv_of {d : D} {v : V} {kvs : KVD} (r : SR K φ S H) (rd : RD K φ H d v) (e : dvOf S d = some kvs) : ∃ a ws, v = .ref a ∧ H a = some (.dK ws) ∧ RK K φ H kvs ws := by
  cases d with
  | dic ks xs =>
    rw [RD] at rd
    obtain ⟨a, vs, rfl, h1, h2, h3⟩ := rd
    cases e
    exact ⟨a, _, rfl, h1.1, rk_zip h2 h3⟩
  | ref n =>
    obtain ⟨a, rfl, ha⟩ := rd_ref rd
    simp only [dvOf] at e
    split at e
    · rename_i q hq
      cases e
      obtain ⟨ws, h1, h2⟩ := r.at_ n a _ ha hq
      exact ⟨a, ws, rfl, h1, h2⟩
    · cases e
  | _ => cases e
end
/-- a dict that may be read, walked over just now or not -/
def dvF (S : Store) (d : D) (kvs : KVD) : Prop := dvOf S d = some kvs ∨ ∃ n od ws, d = .ref n ∧ S[n]? = some (.fdK od ws kvs)
def dDGet : D2 := fun x y S Q => ∃ kvs k v, dvF S x kvs ∧ kyOf y = some k ∧ valD kvs k = some v ∧ Q v S
section
variable {F : Fam} {W : WX} {o i e value : Expr} {td ty tv : DTE} {pos pos' apos cpos : Pos} {k : Nat}
def dDIn (neg : Bool) : D2 := fun y x S Q => ∃ kvs k, dvF S x kvs ∧ kyOf y = some k ∧ Q (.bl (neg ^^ (valD kvs k).isSome)) S
def oDPut (d o i : D) (R : Store → Prop) (S : Store) : Prop := ∃ n kvs k, o = .ref n ∧ S[n]? = some (.dK kvs) ∧ kyOf i = some k ∧ kvs.length < 1000 ∧ R (S.set n (.dK (dputK kvs k d)))
def dSetD (te to ti : DTE) : DTS := fun D ρ S => te ρ S (fun d S1 => to ρ S1 (fun o S2 => ti ρ S2 (fun i S3 => oDPut d o i (D.nx ρ) S3) (fun x S1 => D.ex x ρ S1)) (fun x S1 => D.ex x ρ S1)) (fun x S1 => D.ex x ρ S1)
end
end Dy
namespace Dy
open PySem PySem.Spec PyProof.Rows L2
section
variable {K : PySem.W.Frag}
def cLenD : DR := fun ds S Q => ∃ d kvs, ds = [d] ∧ dvOf S d = some kvs ∧ Q (.int kvs.length) S
def cListD : DR := fun ds S Q => ∃ d kvs, ds = [d] ∧ dvOf S d = some kvs ∧ Q (.lst (kvs.map fun kv => kyD kv.1)) S
/-- dict(d): a new one -/
def cDictD : DR := fun ds S Q => ∃ d kvs, ds = [d] ∧ dvOf S d = some kvs ∧ Q (.ref S.length) (S ++ [.dK kvs])
end
end Dy
namespace Dy
open PySem PySem.Spec PyProof.Rows L2
def dPairs : List (DTE × DTE) → Rho → Store → (List (D × D) → Store → Prop) → XQ → Prop
  | [], _, S, Q, _ => Q [] S
  | (tk, tv) :: r, ρ, S, Q, E => tk ρ S (fun x S1 => tv ρ S1 (fun y S2 => dPairs r ρ S2 (fun ps S3 => Q ((x, y) :: ps) S3) E) E) E
def dmergeK (more : KVD) : KVD := more.foldl (fun acc kv => dputK acc kv.1 kv.2) []
section
variable {F : Fam} {W : WX} {pos : Pos} {ks : List (Option Expr)} {vs : List Expr} {trs : List (DTE × DTE)}
def dDisp (trs : List (DTE × DTE)) : DTE := fun ρ S Q E => dPairs trs ρ S (fun ps S1 => ∃ kvs : KVD, ps = kvs.map (fun kv => (kyD kv.1, kv.2)) ∧ kvs.length ≤ 15 ∧ Q (.dic ((dmergeK kvs).map (·.1)) ((dmergeK kvs).map (·.2))) S1) E
def dDispN (trs : List (DTE × DTE)) : DTE := fun ρ S Q E => dPairs trs ρ S (fun ps S1 => ∃ kvs : KVD, ps = kvs.map (fun kv => (kyD kv.1, kv.2)) ∧ kvs.length ≤ 15 ∧ Q (.ref S1.length) (S1 ++ [.dK (dmergeK kvs)])) E
end
end Dy
namespace Dy
open PySem PySem.Spec PyProof.Rows L2
section
variable {F : Fam} {W : WX} {o i e value : Expr} {to ti te : DTE} {pos tpos apos cpos : Pos} {k : Nat}
def oDAug (r : D2) (o i : D) (te : DTE) (R : Rho → Store → Prop) (E : XQ) (ρ : Rho) (S : Store) : Prop := ∃ kvs ky v, dvOf S o = some kvs ∧ kyOf i = some ky ∧ valD kvs ky = some v ∧ te ρ S (fun d S1 => r v d S1 fun z S2 => oDPut z o i (R ρ) S2) E
def dAugD (to ti te : DTE) (r : D2) : DTS := fun D ρ S => to ρ S (fun o S1 => ti ρ S1 (fun i S2 => oDAug r o i te D.nx (fun x S3 => D.ex x ρ S3) ρ S2) (fun x S1 => D.ex x ρ S1)) (fun x S1 => D.ex x ρ S1)
def oDDel (o i : D) (R : Store → Prop) (S : Store) : Prop := ∃ n kvs ky, o = .ref n ∧ S[n]? = some (.dK kvs) ∧ kyOf i = some ky ∧ (valD kvs ky).isSome = true ∧ R (S.set n (.dK (ddropK kvs ky)))
def dDelD (to ti : DTE) : DTS := fun D ρ S => to ρ S (fun o S1 => ti ρ S1 (fun i S2 => oDDel o i (D.nx ρ) S2) (fun x S1 => D.ex x ρ S1)) (fun x S1 => D.ex x ρ S1)
def oDPop (o i : D) (S : Store) (Q : QD) : Prop := ∃ n kvs ky v, o = .ref n ∧ S[n]? = some (.dK kvs) ∧ kyOf i = some ky ∧ valD kvs ky = some v ∧ Q v (S.set n (.dK (ddropK kvs ky)))
def dPopD (to ti : DTE) : DTE := fun ρ S Q E => to ρ S (fun o S1 => (∃ kvs, dvOf S1 o = some kvs) ∧ ti ρ S1 (fun i S2 => oDPop o i S2 Q) E) E
end
def truD (S : Store) : D → Option Bool
  | .non => some false
  | .bl b => some b
  | .int i => some (i != 0)
  | .tup xs => some (!xs.isEmpty)
  | .lst xs => some (!xs.isEmpty)
  | .frz xs => some (!xs.isEmpty)
  | .dic ks xs => some (!(ks.zip xs).isEmpty)
  | .ref n => match S[n]? with
    | some (.lst xs) => some (!xs.isEmpty)
    | some (.dK kvs) => some (!kvs.isEmpty)
    | _ => none
  | _ => none
def dTru (te : DTE) : DTT := fun ρ S Q E => te ρ S (fun d S1 => ∃ b, truD S1 d = some b ∧ Q b S1) E
end Dy
namespace Dy
open PySem PySem.Spec PyProof.Rows L2
def enD (xs : List D) : List D := (List.range xs.length).map fun i => .tup [.int (i : Nat), xs.getD i .non]
def jEnT (t : DTA) : DTI := fun ρ S R E => t ρ S (fun ds S1 => ∃ xs, ds = [.tup xs] ∧ R (enD xs) (fun _ => True) S1) E
def jEnL (t : DTA) : DTI := fun ρ S R E => t ρ S (fun ds S1 => ∃ d xs, ds = [d] ∧ lsOf S1 d = some xs ∧ R (enD xs) (fun S => lsOf S d = some xs) S1) E
end Dy
namespace Dy
open PySem PySem.Spec PyProof.Rows L2
theorem s_raise0 {C : Addr} {nx bk ct : Rho → Store → Prop} {rt : D → Store → Prop} {ex : Exc → Rho → Store → Prop} {ρ : Rho} {S : Store} (h : ex ⟨C, none⟩ ρ S) : dRaise0 C ⟨nx, rt, bk, ct, ex⟩ ρ S := h
end Dy
namespace Dy
open PySem PySem.Spec PyProof.Rows L2
def dSortSet (te : DTE) : DTE := fun ρ S Q E => te ρ S (fun d S1 => ∃ ns : List Int, d = .tup (ns.map .int) ∧ ns.length < 64 ∧ ∀ ns' : List Int, ns'.Pairwise (· < ·) → (∀ k, k ∈ ns' ↔ k ∈ ns) → Q (.lst (ns'.map .int)) S1) E
end Dy
namespace Dy
open PySem PySem.Spec PyProof.Rows L2
section
variable {ρ : Rho} {S : Store} {Q : QD} {E : XQ} {ta tb tc te to ti : DTE} {t : DTA} {d d2 x y : D} {i j n : Nat} {k : Key} {kvs : KVD} {nx bk ct : Rho → Store → Prop} {rt : D → Store → Prop} {ex : Exc → Rho → Store → Prop}
theorem dv_ref (e : S[n]? = some (.dK kvs)) : dvOf S (.ref n) = some kvs := by unfold dvOf; simp only [e]
theorem o_dget {v : D} (e : dvOf S x = some kvs) (e2 : kyOf y = some k) (e3 : valD kvs k = some v) (h : Q v S) : dDGet x y S Q := ⟨kvs, k, v, .inl e, e2, e3, h⟩
theorem o_dIn {neg : Bool} (e : dvOf S x = some kvs) (e2 : kyOf y = some k) (h : Q (.bl (neg ^^ (valD kvs k).isSome)) S) : dDIn neg y x S Q := ⟨kvs, k, .inl e, e2, h⟩
theorem s_setD (h : te ρ S (fun d S1 => to ρ S1 (fun o S2 => ti ρ S2 (fun i S3 => oDPut d o i (nx ρ) S3) (fun x S1 => ex x ρ S1)) (fun x S1 => ex x ρ S1)) (fun x S1 => ex x ρ S1)) : dSetD te to ti ⟨nx, rt, bk, ct, ex⟩ ρ S := h
theorem s_augD {r : D2} (h : to ρ S (fun o S1 => ti ρ S1 (fun i S2 => oDAug r o i te nx (fun x S3 => ex x ρ S3) ρ S2) (fun x S1 => ex x ρ S1)) (fun x S1 => ex x ρ S1)) : dAugD to ti te r ⟨nx, rt, bk, ct, ex⟩ ρ S := h
theorem s_delD (h : to ρ S (fun o S1 => ti ρ S1 (fun i S2 => oDDel o i (nx ρ) S2) (fun x S1 => ex x ρ S1)) (fun x S1 => ex x ρ S1)) : dDelD to ti ⟨nx, rt, bk, ct, ex⟩ ρ S := h
theorem c_dpop (h : to ρ S (fun o S1 => (∃ kvs, dvOf S1 o = some kvs) ∧ ti ρ S1 (fun i S2 => oDPop o i S2 Q) E) E) : dPopD to ti ρ S Q E := h
theorem o_dvAnd {B : Prop} (e : dvOf S d = some kvs) (h : B) : (∃ kvs, dvOf S d = some kvs) ∧ B := ⟨⟨kvs, e⟩, h⟩
theorem c_disp {trs : List (DTE × DTE)} (h : dPairs trs ρ S (fun ps S1 => ∃ kvs : KVD, ps = kvs.map (fun kv => (kyD kv.1, kv.2)) ∧ kvs.length ≤ 15 ∧ Q (.dic ((dmergeK kvs).map (·.1)) ((dmergeK kvs).map (·.2))) S1) E) : dDisp trs ρ S Q E := h
theorem c_dispN {trs : List (DTE × DTE)} (h : dPairs trs ρ S (fun ps S1 => ∃ kvs : KVD, ps = kvs.map (fun kv => (kyD kv.1, kv.2)) ∧ kvs.length ≤ 15 ∧ Q (.ref S1.length) (S1 ++ [.dK (dmergeK kvs)])) E) : dDispN trs ρ S Q E := h
theorem c_pnil {QP : List (D × D) → Store → Prop} (h : QP [] S) : dPairs [] ρ S QP E := h
theorem c_pcons {QP : List (D × D) → Store → Prop} {tk tv : DTE} {r : List (DTE × DTE)} (h : tk ρ S (fun x S1 => tv ρ S1 (fun y S2 => dPairs r ρ S2 (fun ps S3 => QP ((x, y) :: ps) S3) E) E) E) : dPairs ((tk, tv) :: r) ρ S QP E := h
theorem c_tru {QT : Bool → Store → Prop} (h : te ρ S (fun d S1 => ∃ b, truD S1 d = some b ∧ QT b S1) E) : dTru te ρ S QT E := h
theorem o_tru {P : Bool → Prop} {b : Bool} (e : truD S d = some b) (h : P b) : ∃ b, truD S d = some b ∧ P b := ⟨b, e, h⟩
theorem o_lenD (e : dvOf S d = some kvs) (h : Q (.int kvs.length) S) : cLenD [d] S Q := ⟨d, kvs, rfl, e, h⟩
theorem o_listD (e : dvOf S d = some kvs) (h : Q (.lst (kvs.map fun kv => kyD kv.1)) S) : cListD [d] S Q := ⟨d, kvs, rfl, e, h⟩
theorem o_dictD (e : dvOf S d = some kvs) (h : Q (.ref S.length) (S ++ [.dK kvs])) : cDictD [d] S Q := ⟨d, kvs, rfl, e, h⟩
theorem c_sortSet (h : te ρ S (fun d S1 => ∃ ns : List Int, d = .tup (ns.map .int) ∧ ns.length < 64 ∧ ∀ ns' : List Int, ns'.Pairwise (· < ·) → (∀ k, k ∈ ns' ↔ k ∈ ns) → Q (.lst (ns'.map .int)) S1) E) : dSortSet te ρ S Q E := h
theorem s_enT {R : List D → (Store → Prop) → Store → Prop} (h : t ρ S (fun ds S1 => ∃ xs, ds = [.tup xs] ∧ R (enD xs) (fun _ => True) S1) E) : jEnT t ρ S R E := h
theorem s_enL {R : List D → (Store → Prop) → Store → Prop} (h : t ρ S (fun ds S1 => ∃ d xs, ds = [d] ∧ lsOf S1 d = some xs ∧ R (enD xs) (fun S => lsOf S d = some xs) S1) E) : jEnL t ρ S R E := h
theorem o_enT {R : List D → Prop} {xs : List D} (h : R xs) : ∃ ys, [D.tup xs] = [.tup ys] ∧ R ys := ⟨xs, rfl, h⟩
end
end Dy
namespace Dy
open PySem PySem.Spec PyProof.Rows L2
end Dy
namespace Dy
open PySem PySem.Spec PyProof.Rows L2
end Dy
namespace Dy
open PySem PySem.Spec PyProof.Rows L2 SrtO
end Dy
namespace Dy
open PySem PySem.Spec PyProof.Rows L2
section
variable {α β : Type}
def kget (kn : List (Nat × α)) (i : Nat) : Option α := (kn.find? fun p => decide (p.1 = i)).map (·.2)
def kput (kn : List (Nat × α)) (i : Nat) (v : α) : List (Nat × α) := if (kn.any fun p => decide (p.1 = i)) = true then kn.map (fun p => if p.1 = i then (p.1, v) else p) else kn ++ [(i, v)]
def kdrop (kn : List (Nat × α)) (i : Nat) : List (Nat × α) := kn.filter fun p => decide (p.1 ≠ i)
def keysN (kn : List (Nat × α)) : List Nat := kn.map (·.1)
def kvsF (f : α → D) (kn : List (Nat × α)) : KVD := kn.map fun p => (.inl ((p.1 : Nat) : Int), f p.2)
theorem keys_put {kn : List (Nat × α)} {i : Nat} {v : α} : keysN (kput kn i v) = if i ∈ keysN kn then keysN kn else keysN kn ++ [i] := by
  have e : ((kn.any fun p => decide (p.1 = i)) = true) ↔ i ∈ keysN kn := by
    unfold keysN
    rw [List.any_eq_true, List.mem_map]
    constructor
    · rintro ⟨p, m, h⟩; exact ⟨p, m, of_decide_eq_true h⟩
    · rintro ⟨p, m, h⟩; exact ⟨p, m, decide_eq_true h⟩
  unfold kput
  by_cases h : i ∈ keysN kn
  · rw [if_pos (e.mpr h), if_pos h]
    unfold keysN
    rw [List.map_map]
    refine List.map_congr_left fun p _ => ?_
    show (if p.1 = i then (p.1, v) else p).1 = p.1
    split <;> rfl
  · rw [if_neg (fun z => h (e.mp z)), if_neg h]
    unfold keysN
    rw [List.map_append]; rfl
theorem keys_drop {kn : List (Nat × α)} {i : Nat} : keysN (kdrop kn i) = (keysN kn).filter fun k => decide (k ≠ i) := by
  unfold keysN kdrop
  rw [List.filter_map]
  rfl
theorem kget_put {kn : List (Nat × α)} {i j : Nat} {v : α} : kget (kput kn i v) j = if i = j then some v else kget kn j := by
  by_cases h : i ∈ keysN kn
  · have e : (kn.any fun p => decide (p.1 = i)) = true := by
      obtain ⟨p, m, e⟩ := List.mem_map.mp h
      exact List.any_eq_true.mpr ⟨p, m, decide_eq_true e⟩
    unfold kput
    rw [if_pos e]
    clear e
    induction kn with
    | nil => cases h
    | cons p kn ih =>
      unfold kget at ih ⊢
      rw [List.map_cons, List.find?_cons, List.find?_cons]
      by_cases e : p.1 = i
      · rw [if_pos e]
        by_cases e2 : i = j
        · have : p.1 = j := e.trans e2
          simp [e2, this]
        · have : ¬ p.1 = j := fun z => e2 (e.symm.trans z)
          rw [if_neg e2, decide_eq_false this]
          simp only [this, decide_false]
          clear ih h
          congr 1
          induction kn with
          | nil => rfl
          | cons q kn ih =>
            rw [List.map_cons, List.find?_cons, List.find?_cons]
            by_cases e3 : q.1 = i
            · have : ¬ q.1 = j := fun z => e2 (e3.symm.trans z)
              rw [if_pos e3, decide_eq_false this]
              simpa using ih
            · rw [if_neg e3, ih]
      · rw [if_neg e]
        have h' : i ∈ keysN kn := by
          rcases List.mem_cons.mp h with h | h
          · exact absurd h.symm e
          · exact h
        by_cases e2 : p.1 = j
        · have : ¬ i = j := fun z => e (e2.trans z.symm)
          simp [e2, this]
        · rw [decide_eq_false e2]
          exact ih h'
  · have e : ¬ (kn.any fun p => decide (p.1 = i)) = true := by
      intro z
      obtain ⟨p, m, q⟩ := List.any_eq_true.mp z
      exact h (List.mem_map.mpr ⟨p, m, of_decide_eq_true q⟩)
    unfold kput
    rw [if_neg e]
    unfold kget
    rw [List.find?_append]
    by_cases e2 : i = j
    · subst e2
      have : kn.find? (fun p => decide (p.1 = i)) = none := by
        rw [List.find?_eq_none]
        intro p m q
        exact h (List.mem_map.mpr ⟨p, m, of_decide_eq_true q⟩)
      rw [this]
      simp
    · simp [e2]
theorem kget_drop {kn : List (Nat × α)} {i j : Nat} : kget (kdrop kn i) j = if i = j then none else kget kn j := by
  unfold kget kdrop
  rw [List.find?_filter]
  by_cases e : i = j
  · rw [if_pos e]
    have : kn.find? (fun a => decide (a.1 ≠ i ∧ a.1 = j)) = none := by
      rw [List.find?_eq_none]
      intro p m q
      simp only [decide_eq_true_eq] at q
      exact q.1 (q.2.trans e.symm)
    have e3 : (fun a : Nat × α => decide (decide (a.1 ≠ i) = true ∧ decide (a.1 = j) = true)) = fun a => decide (a.1 ≠ i ∧ a.1 = j) := by
      funext a
      simp
    first | rw [e3, this]; rfl | (simp only [decide_eq_true_eq] at *; rw [this]; rfl)
  · rw [if_neg e]
    congr 2
    funext a
    by_cases h : a.1 = j
    · have : ¬ a.1 = i := fun z => e (z.symm.trans h)
      simp [h, Ne.symm e]
    · simp [h]
end
inductive Deed where
  | ch (i : Nat) | fk (i : Nat) | jn (i j : Nat) | ls (i : Nat)
  deriving DecidableEq
abbrev natD (m : Nat) : D := .int (m : Int)
def Deed.d : Deed → D
  | .ch i => .tup [.str "change", natD i]
  | .fk i => .tup [.str "fork", natD i]
  | .jn i j => .tup [.str "join", natD i, natD j]
  | .ls i => .tup [.str "lose", natD i]
structure Wld where
  most : Nat
  kind : Str
  los : Bool
structure HM where
  kn : List (Nat × Nat)
  forks : Nat
  pen : Nat
abbrev HM.ks (h : HM) : List Nat := keysN h.kn
def HM.lets (w : Wld) (h : HM) : Deed → Bool
  | .ch i => decide (i ∈ h.ks) && (!decide (w.kind = "pen") || decide (i = h.pen))
  | .fk i => decide (i ∈ h.ks) && (decide (h.ks.length < w.most) && (!decide (w.kind = "trunk") || decide (i = 0)))
  | .jn i j => decide (i ∈ h.ks) && decide (j ∈ h.ks) && (!decide (w.kind = "trunk") || decide (i = 0))
  | .ls i => decide (i ∈ h.ks) && (w.los && decide (1 < h.ks.length))
def HM.at (h : HM) (i : Nat) : Nat := (kget h.kn i).getD 0
def HM.act (h : HM) (idx : Nat) : Deed → HM
  | .ch i => { h with kn := kput h.kn i (h.at i ||| 2 ^ idx) }
  | .fk i => { h with forks := h.forks + 1, kn := kput h.kn (h.forks + 1) (h.at i) }
  | .jn i j => { h with kn := kput (kdrop h.kn j) i (h.at i ||| h.at j), pen := if h.pen = j then i else h.pen }
  | .ls i => { h with kn := kdrop h.kn i }
abbrev HM.zero : HM := ⟨[(0, 0)], 0, 0⟩
end Dy
namespace Dy
open PySem PySem.Spec PyProof.Rows L2
def deedWf : Deed → Prop
  | .jn i j => i ≠ j
  | _ => True
/-- what a deed asks of the herd -/
def HM.ok (h : HM) : Deed → Prop
  | .ch i => i ∈ h.ks
  | .fk i => i ∈ h.ks
  | .jn i j => i ∈ h.ks ∧ j ∈ h.ks ∧ i ≠ j
  | .ls i => i ∈ h.ks
theorem HM.lets_ok {w : Wld} {h : HM} {x : Deed} (l : h.lets w x = true) (wf : deedWf x) : h.ok x := by
  cases x with
  | ch i =>
    have l : (decide (i ∈ h.ks) && _) = true := l
    rw [Bool.and_eq_true] at l
    exact (of_decide_eq_true l.1 : i ∈ h.ks)
  | fk i =>
    have l : (decide (i ∈ h.ks) && _) = true := l
    rw [Bool.and_eq_true] at l
    exact (of_decide_eq_true l.1 : i ∈ h.ks)
  | jn i j =>
    have l : ((decide (i ∈ h.ks) && decide (j ∈ h.ks)) && _) = true := l
    rw [Bool.and_eq_true, Bool.and_eq_true] at l
    exact ⟨of_decide_eq_true l.1.1, of_decide_eq_true l.1.2, wf⟩
  | ls i =>
    have l : (decide (i ∈ h.ks) && _) = true := l
    rw [Bool.and_eq_true] at l
    exact (of_decide_eq_true l.1 : i ∈ h.ks)
structure HM.Inv (h : HM) : Prop where
  nd : h.ks.Nodup
  ne : h.ks ≠ []
  le : ∀ k ∈ h.ks, k ≤ h.forks
  pe : h.pen ≤ h.forks
theorem HM.Inv.act {w : Wld} {h : HM} {x : Deed} {i : Nat} (l : h.lets w x = true) (H : h.Inv) (wf : deedWf x) : (h.act i x).Inv := by
  have o := HM.lets_ok l wf
  cases x with
  | ch a =>
    have o : a ∈ h.ks := o
    have e : (h.act i (.ch a)).ks = h.ks := by
      show keysN (kput h.kn a _) = _
      rw [keys_put, if_pos o]
    exact ⟨by rw [e]; exact H.nd, by rw [e]; exact H.ne, by rw [e]; exact H.le, H.pe⟩
  | fk a =>
    have nw : h.forks + 1 ∉ h.ks := fun z => by have := H.le _ z; omega
    have e : (h.act i (.fk a)).ks = h.ks ++ [h.forks + 1] := by
      show keysN (kput h.kn (h.forks + 1) _) = _
      rw [keys_put, if_neg nw]
    refine ⟨?_, by rw [e]; simp, fun k hk => ?_, Nat.le_succ_of_le H.pe⟩
    · rw [e, List.nodup_append]
      exact ⟨H.nd, by simp, fun a ha b hb => by rw [List.mem_singleton.mp hb]; exact fun z => nw (z ▸ ha)⟩
    · rw [e] at hk
      show k ≤ h.forks + 1
      rcases List.mem_append.mp hk with hk | hk
      · exact Nat.le_succ_of_le (H.le k hk)
      · rw [List.mem_singleton.mp hk]; exact Nat.le_refl _
  | jn a b =>
    have o : a ∈ h.ks ∧ b ∈ h.ks ∧ a ≠ b := o
    have : a ∈ keysN (kdrop h.kn b) := by rw [keys_drop]; exact List.mem_filter.mpr ⟨o.1, decide_eq_true o.2.2⟩
    have e : (h.act i (.jn a b)).ks = h.ks.filter fun k => decide (k ≠ b) := by
      show keysN (kput (kdrop h.kn b) a _) = _
      rw [keys_put, if_pos this, keys_drop]
    refine ⟨by rw [e]; exact H.nd.filter _, by rw [e, ← keys_drop]; exact List.ne_nil_of_mem this, fun k hk => ?_, ?_⟩
    · rw [e] at hk
      exact H.le k (List.mem_filter.mp hk).1
    · show (if h.pen = b then a else h.pen) ≤ h.forks
      split
      · exact H.le a o.1
      · exact H.pe
  | ls a =>
    have o : a ∈ h.ks := o
    have e : (h.act i (.ls a)).ks = h.ks.filter fun k => decide (k ≠ a) := by
      show keysN (kdrop h.kn a) = _
      rw [keys_drop]
    have l : (decide (a ∈ h.ks) && (w.los && decide (1 < h.ks.length))) = true := l
    rw [Bool.and_eq_true, Bool.and_eq_true] at l
    have h2 := of_decide_eq_true l.2.2
    refine ⟨by rw [e]; exact H.nd.filter _, ?_, fun k hk => ?_, H.pe⟩
    · rw [e]
      intro z
      have hall : ∀ k ∈ h.ks, k = a := fun k hk => by
        rcases Decidable.em (k = a) with q | q
        · exact q
        · have : k ∈ h.ks.filter fun k => decide (k ≠ a) := List.mem_filter.mpr ⟨hk, decide_eq_true q⟩
          rw [z] at this; cases this
      match hk : h.ks, h2 with
      | k1 :: k2 :: r, _ =>
        have e1 := hall k1 (by rw [hk]; simp)
        have e2 := hall k2 (by rw [hk]; simp)
        have := H.nd
        rw [hk] at this
        simp [e1, e2] at this
      | [k1], h2 => simp at h2
      | [], h2 => simp at h2
    · rw [e] at hk
      exact H.le k (List.mem_filter.mp hk).1
end Dy
namespace Dy
open PySem PySem.Spec PyProof.Rows L2
end Dy
namespace Dy
open PySem PySem.Spec PyProof.Rows L2
theorem pyDs_ints : ∀ ns : List Int, pyDs (ns.map D.int) = some (ns.map PyData.int)
  | [] => by rw [List.map_nil, pyDs]; rfl
  | n :: ns => by rw [List.map_cons, pyDs, pyDs_ints ns, pyD]; rfl
theorem depth_ints : ∀ ns : List Int, PyData.depthAll (ns.map PyData.int) = 0
  | [] => rfl
  | n :: ns => by
    show max (PyData.depth (.int n)) (PyData.depthAll (ns.map PyData.int)) = 0
    rw [depth_ints ns]; rfl
theorem eqvAll_ints : ∀ ns ms : List Int, PyData.eqvAll (ns.map PyData.int) (ms.map PyData.int) = decide (ns = ms)
  | [], [] => by simp [PyData.eqvAll]
  | [], m :: ms => by simp [PyData.eqvAll]
  | n :: ns, [] => by simp [PyData.eqvAll]
  | n :: ns, m :: ms => by
    rw [List.map_cons, List.map_cons, PyData.eqvAll, eqvAll_ints ns ms, PyData.eqv]
    by_cases h : n = m
    · subst h; simp
    · have : (n == m) = false := by simpa using h
      rw [this]; simp [h]
/-- two lists of ints are compared -/
theorem o_eqLI {S : Store} {Q : QD} {neg : Bool} {ns ms : List Int} (h : Q (.bl (neg ^^ decide (ns = ms))) S) : dEqN neg (.lst (ns.map .int)) (.lst (ms.map .int)) S Q := by
  show ∃ d e, pyS S (.lst (ns.map .int)) = some d ∧ pyS S (.lst (ms.map .int)) = some e ∧ min d.depth e.depth ≤ 60 ∧ Q (.bl (neg ^^ PyData.eqv d e)) S
  refine ⟨.list (ns.map .int), .list (ms.map .int), ?_, ?_, ?_, ?_⟩
  · show pyD (.lst (ns.map .int)) = _
    rw [pyD, pyDs_ints]; rfl
  · show pyD (.lst (ms.map .int)) = _
    rw [pyD, pyDs_ints]; rfl
  · show min (PyData.depthAll (ns.map PyData.int) + 1) (PyData.depthAll (ms.map PyData.int) + 1) ≤ 60
    rw [depth_ints, depth_ints]; decide
  · have e : PyData.eqv (.list (ns.map .int)) (.list (ms.map .int)) = decide (ns = ms) := by
      rw [PyData.eqv, eqvAll_ints]
    rw [e]; exact h
end Dy
namespace Dy
open PySem PySem.Spec PyProof.Rows L2
abbrev tupNs (l : List Nat) : D := .tup (l.map natD)
structure LM where
  kn : List (Nat × List Nat)
  born : Nat
  done : Nat
  mark : Int
abbrev LM.ks (l : LM) : List Nat := keysN l.kn
def LM.at (l : LM) (i : Nat) : List Nat := (kget l.kn i).getD []
/-- the ascending list of what stands in either -/
def mergeN (a b : List Nat) : List Nat := (List.range ((a ++ b).foldl max 0 + 1)).filter fun k => decide (k ∈ a ++ b)
theorem le_fold {l : List Nat} : ∀ {a : Nat}, a ≤ l.foldl max a ∧ ∀ k ∈ l, k ≤ l.foldl max a := by
  induction l with
  | nil => intro a; exact ⟨Nat.le_refl _, fun k hk => by cases hk⟩
  | cons x l ih =>
    intro a
    rw [List.foldl_cons]
    have h := ih (a := max a x)
    refine ⟨Nat.le_trans (Nat.le_max_left _ _) h.1, fun k hk => ?_⟩
    rcases List.mem_cons.mp hk with rfl | hk
    · exact Nat.le_trans (Nat.le_max_right _ _) h.1
    · exact h.2 k hk
theorem mem_merge {a b : List Nat} {k : Nat} : k ∈ mergeN a b ↔ k ∈ a ∨ k ∈ b := by
  unfold mergeN
  rw [List.mem_filter, List.mem_range, decide_eq_true_eq, List.mem_append]
  constructor
  · exact fun h => h.2
  · intro h
    have := (le_fold (l := a ++ b) (a := 0)).2 k (List.mem_append.mpr h)
    exact ⟨by omega, h⟩
theorem merge_lt (a b : List Nat) : (mergeN a b).Pairwise (· < ·) := List.pairwise_lt_range.filter _
def LM.lets (w : Wld) (l : LM) : Deed → Bool
  | .ch i => decide (i ∈ l.ks) && (!decide (w.kind = "pen") || decide (l.mark = (i : Int)))
  | .fk i => decide (i ∈ l.ks) && (decide (l.ks.length < w.most) && (!decide (w.kind = "trunk") || decide (i = 0)))
  | .jn i j => decide (i ∈ l.ks) && decide (j ∈ l.ks) && (decide (i ≠ j) && (!decide (w.kind = "trunk") || decide (i = 0)))
  | .ls i => decide (i ∈ l.ks) && (w.los && decide (1 < l.ks.length))
def LM.act (l : LM) : Deed → LM
  | .ch i => ⟨kput l.kn i (l.at i ++ [l.done]), l.born, l.done + 1, l.mark⟩
  | .fk i => ⟨kput l.kn l.born (l.at i), l.born + 1, l.done + 1, l.mark⟩
  | .jn i j => ⟨kput (kdrop l.kn j) i (mergeN (l.at i) (l.at j)), l.born, l.done + 1, if l.mark = (j : Int) then (i : Int) else l.mark⟩
  | .ls i => ⟨kdrop l.kn i, l.born, l.done + 1, if l.mark = (i : Int) then -1 else l.mark⟩
def LM.zero (w : Wld) : LM := ⟨[(0, [])], 1, 0, if w.kind = "free" then -1 else 0⟩
def LM.ok (l : LM) : Deed → Prop
  | .ch i => i ∈ l.ks
  | .fk i => i ∈ l.ks
  | .jn i j => i ∈ l.ks ∧ j ∈ l.ks ∧ i ≠ j
  | .ls i => i ∈ l.ks
/-- the program's herd and the law's state tell the same -/
structure Rel (w : Wld) (h : HM) (l : LM) : Prop where
  ks : l.ks = h.ks
  born : l.born = h.forks + 1
  bits : ∀ i ∈ h.ks, ∀ b, (h.at i).testBit b = decide (b ∈ l.at i)
  asc : ∀ i ∈ h.ks, (l.at i).Pairwise (· < ·)
  lt : ∀ i ∈ h.ks, ∀ b ∈ l.at i, b < l.done
  mark : w.kind ≠ "free" → (l.mark = (h.pen : Int) ∧ h.pen ∈ h.ks) ∨ (l.mark = -1 ∧ h.pen ∉ h.ks)
  free : w.kind = "free" → l.mark = -1
theorem Rel.lets {w : Wld} {h : HM} {l : LM} {x : Deed} (r : Rel w h l) (wf : deedWf x) : l.lets w x = h.lets w x := by
  have hks := r.ks
  cases x with
  | ch i =>
    show (decide (i ∈ l.ks) && (!decide (w.kind = "pen") || decide (l.mark = (i : Int)))) = (decide (i ∈ h.ks) && (!decide (w.kind = "pen") || decide (i = h.pen)))
    rw [hks]
    by_cases hi : i ∈ h.ks
    · by_cases hk : w.kind = "pen"
      · rcases r.mark (by rw [hk]; decide) with ⟨e, _⟩ | ⟨e, hn⟩
        · rw [e]
          congr 2
          exact decide_eq_decide.mpr (by omega)
        · have h1 : ¬ (i = h.pen) := fun z => hn (z ▸ hi)
          have h2 : ¬ (l.mark = (i : Int)) := by rw [e]; omega
          simp [h1, h2]
      · simp [hk]
    · simp [hi]
  | fk i =>
    show (decide (i ∈ l.ks) && (decide (l.ks.length < w.most) && _)) = (decide (i ∈ h.ks) && (decide (h.ks.length < w.most) && _))
    rw [hks]
  | jn i j =>
    have wf : i ≠ j := wf
    show (decide (i ∈ l.ks) && decide (j ∈ l.ks) && (decide (i ≠ j) && _)) = (decide (i ∈ h.ks) && decide (j ∈ h.ks) && _)
    rw [hks, decide_eq_true wf, Bool.true_and]
  | ls i =>
    show (decide (i ∈ l.ks) && (w.los && decide (1 < l.ks.length))) = (decide (i ∈ h.ks) && (w.los && decide (1 < h.ks.length)))
    rw [hks]
theorem HM.at_put {kn : List (Nat × Nat)} {i j v f p f' p' : Nat} : HM.at ⟨kput kn i v, f, p⟩ j = if i = j then v else HM.at ⟨kn, f', p'⟩ j := by
  unfold HM.at
  rw [kget_put]
  split <;> rfl
theorem LM.at_put {kn : List (Nat × List Nat)} {i j : Nat} {v : List Nat} {a b a' b' : Nat} {m m' : Int} : LM.at ⟨kput kn i v, a, b, m⟩ j = if i = j then v else LM.at ⟨kn, a', b', m'⟩ j := by
  unfold LM.at
  rw [kget_put]
  split <;> rfl
theorem HM.at_drop {kn : List (Nat × Nat)} {i j f p f' p' : Nat} (h : i ≠ j) : HM.at ⟨kdrop kn i, f, p⟩ j = HM.at ⟨kn, f', p'⟩ j := by
  unfold HM.at
  rw [kget_drop, if_neg h]
theorem LM.at_drop {kn : List (Nat × List Nat)} {i j a b a' b' : Nat} {m m' : Int} (h : i ≠ j) : LM.at ⟨kdrop kn i, a, b, m⟩ j = LM.at ⟨kn, a', b', m'⟩ j := by
  unfold LM.at
  rw [kget_drop, if_neg h]
theorem Rel.act {w : Wld} {h : HM} {l : LM} {x : Deed} (r : Rel w h l) (H : h.Inv) (ok : h.ok x) : Rel w (h.act l.done x) (l.act x) := by
  obtain ⟨kn, forks, pen⟩ := h
  obtain ⟨ln, born, done, mark⟩ := l
  obtain ⟨hks0, hborn0, hbits, hasc, hlt, hmark, hfree⟩ := r
  obtain rfl : born = forks + 1 := hborn0
  have hks : keysN ln = keysN kn := hks0
  clear hks0
  cases x with
  | ch i =>
    have o : i ∈ keysN kn := ok
    have ek : (HM.act ⟨kn, forks, pen⟩ done (.ch i)).ks = keysN kn := by
      show keysN (kput kn i _) = _
      rw [keys_put, if_pos o]
    refine ⟨?_, rfl, fun j hj b => ?_, fun j hj => ?_, fun j hj b hb => ?_, fun hk => ?_, hfree⟩
    · rw [ek]
      show keysN (kput ln i _) = _
      rw [keys_put, if_pos (hks ▸ o), hks]
    · rw [ek] at hj
      have e1 : HM.at (HM.act ⟨kn, forks, pen⟩ done (.ch i)) j = if i = j then HM.at ⟨kn, forks, pen⟩ i ||| 2 ^ done else HM.at ⟨kn, forks, pen⟩ j := HM.at_put
      have e2 : LM.at (LM.act ⟨ln, forks + 1, done, mark⟩ (.ch i)) j = if i = j then LM.at ⟨ln, forks + 1, done, mark⟩ i ++ [done] else LM.at ⟨ln, forks + 1, done, mark⟩ j := LM.at_put
      rw [e1, e2]
      split
      · rw [Nat.testBit_or, hbits i o b, Nat.testBit_two_pow]
        by_cases hb : b = done
        · subst hb; simp
        · simp [hb, Ne.symm hb]
      · exact hbits j hj b
    · rw [ek] at hj
      have e2 : LM.at (LM.act ⟨ln, forks + 1, done, mark⟩ (.ch i)) j = if i = j then LM.at ⟨ln, forks + 1, done, mark⟩ i ++ [done] else LM.at ⟨ln, forks + 1, done, mark⟩ j := LM.at_put
      rw [e2]
      split
      · exact List.pairwise_append.mpr ⟨hasc i o, List.pairwise_singleton _ _, fun a ha b hb => by rw [List.mem_singleton.mp hb]; exact hlt i o a ha⟩
      · exact hasc j hj
    · rw [ek] at hj
      have e2 : LM.at (LM.act ⟨ln, forks + 1, done, mark⟩ (.ch i)) j = if i = j then LM.at ⟨ln, forks + 1, done, mark⟩ i ++ [done] else LM.at ⟨ln, forks + 1, done, mark⟩ j := LM.at_put
      rw [e2] at hb
      show b < done + 1
      split at hb
      · rcases List.mem_append.mp hb with hb | hb
        · exact Nat.lt_succ_of_lt (hlt i o b hb)
        · rw [List.mem_singleton.mp hb]; omega
      · exact Nat.lt_succ_of_lt (hlt j hj b hb)
    · rw [ek]; exact hmark hk
  | fk i =>
    have o : i ∈ keysN kn := ok
    have nw : forks + 1 ∉ keysN kn := fun z => by have : forks + 1 ≤ forks := H.le _ z; omega
    have ek : (HM.act ⟨kn, forks, pen⟩ done (.fk i)).ks = keysN kn ++ [forks + 1] := by
      show keysN (kput kn (forks + 1) _) = _
      rw [keys_put, if_neg nw]
    have e1 : ∀ j, HM.at (HM.act ⟨kn, forks, pen⟩ done (.fk i)) j = if forks + 1 = j then HM.at ⟨kn, forks, pen⟩ i else HM.at ⟨kn, forks, pen⟩ j := fun j => HM.at_put
    have e2 : ∀ j, LM.at (LM.act ⟨ln, forks + 1, done, mark⟩ (.fk i)) j = if forks + 1 = j then LM.at ⟨ln, forks + 1, done, mark⟩ i else LM.at ⟨ln, forks + 1, done, mark⟩ j := fun j => LM.at_put
    have old : ∀ j ∈ keysN kn ++ [forks + 1], ¬ forks + 1 = j → j ∈ keysN kn := fun j hj ne => by
      rcases List.mem_append.mp hj with hj | hj
      · exact hj
      · exact absurd (List.mem_singleton.mp hj).symm ne
    refine ⟨?_, rfl, fun j hj b => ?_, fun j hj => ?_, fun j hj b hb => ?_, fun hk => ?_, hfree⟩
    · rw [ek]
      show keysN (kput ln (forks + 1) _) = _
      rw [keys_put, if_neg (hks ▸ nw), hks]
    · rw [ek] at hj
      rw [e1, e2]
      split
      · exact hbits i o b
      · rename_i ne; exact hbits j (old j hj ne) b
    · rw [ek] at hj
      rw [e2]
      split
      · exact hasc i o
      · rename_i ne; exact hasc j (old j hj ne)
    · rw [ek] at hj
      rw [e2] at hb
      show b < done + 1
      split at hb
      · exact Nat.lt_succ_of_lt (hlt i o b hb)
      · rename_i ne; exact Nat.lt_succ_of_lt (hlt j (old j hj ne) b hb)
    · rw [ek]
      rcases hmark hk with ⟨e, m⟩ | ⟨e, m⟩
      · exact .inl ⟨e, List.mem_append_left _ m⟩
      · refine .inr ⟨e, fun z => ?_⟩
        rcases List.mem_append.mp z with z | z
        · exact m z
        · have e3 : pen = forks + 1 := List.mem_singleton.mp z
          have : pen ≤ forks := H.pe
          omega
  | jn i j =>
    have o : i ∈ keysN kn ∧ j ∈ keysN kn ∧ i ≠ j := ok
    have hi' : i ∈ keysN (kdrop kn j) := by rw [keys_drop]; exact List.mem_filter.mpr ⟨o.1, decide_eq_true o.2.2⟩
    have ek : (HM.act ⟨kn, forks, pen⟩ done (.jn i j)).ks = (keysN kn).filter fun k => decide (k ≠ j) := by
      show keysN (kput (kdrop kn j) i _) = _
      rw [keys_put, if_pos hi', keys_drop]
    have e1 : ∀ k, k ≠ j → HM.at (HM.act ⟨kn, forks, pen⟩ done (.jn i j)) k = if i = k then HM.at ⟨kn, forks, pen⟩ i ||| HM.at ⟨kn, forks, pen⟩ j else HM.at ⟨kn, forks, pen⟩ k := fun k hk => by
      have : HM.at (HM.act ⟨kn, forks, pen⟩ done (.jn i j)) k = if i = k then HM.at ⟨kn, forks, pen⟩ i ||| HM.at ⟨kn, forks, pen⟩ j else HM.at ⟨kdrop kn j, forks, pen⟩ k := HM.at_put
      rw [this, HM.at_drop (Ne.symm hk)]
    have e2 : ∀ k, k ≠ j → LM.at (LM.act ⟨ln, forks + 1, done, mark⟩ (.jn i j)) k = if i = k then mergeN (LM.at ⟨ln, forks + 1, done, mark⟩ i) (LM.at ⟨ln, forks + 1, done, mark⟩ j) else LM.at ⟨ln, forks + 1, done, mark⟩ k := fun k hk => by
      have : LM.at (LM.act ⟨ln, forks + 1, done, mark⟩ (.jn i j)) k = if i = k then mergeN (LM.at ⟨ln, forks + 1, done, mark⟩ i) (LM.at ⟨ln, forks + 1, done, mark⟩ j) else LM.at ⟨kdrop ln j, forks + 1, done, mark⟩ k := LM.at_put
      rw [this, LM.at_drop (Ne.symm hk)]
    have old : ∀ k ∈ (keysN kn).filter (fun k => decide (k ≠ j)), k ∈ keysN kn ∧ k ≠ j := fun k hk => ⟨(List.mem_filter.mp hk).1, of_decide_eq_true (List.mem_filter.mp hk).2⟩
    refine ⟨?_, rfl, fun k hk b => ?_, fun k hk => ?_, fun k hk b hb => ?_, fun hk => ?_, fun hk => ?_⟩
    · rw [ek]
      show keysN (kput (kdrop ln j) i _) = _
      have : i ∈ keysN (kdrop ln j) := by rw [keys_drop, hks]; exact List.mem_filter.mpr ⟨o.1, decide_eq_true o.2.2⟩
      rw [keys_put, if_pos this, keys_drop, hks]
    · rw [ek] at hk
      obtain ⟨k1, k2⟩ := old k hk
      rw [e1 k k2, e2 k k2]
      split
      · rw [Nat.testBit_or, hbits i o.1 b, hbits j o.2.1 b]
        rw [← Bool.decide_or]
        exact decide_eq_decide.mpr mem_merge.symm
      · exact hbits k k1 b
    · rw [ek] at hk
      obtain ⟨k1, k2⟩ := old k hk
      rw [e2 k k2]
      split
      · exact merge_lt _ _
      · exact hasc k k1
    · rw [ek] at hk
      obtain ⟨k1, k2⟩ := old k hk
      rw [e2 k k2] at hb
      show b < done + 1
      split at hb
      · rcases mem_merge.mp hb with hb | hb
        · exact Nat.lt_succ_of_lt (hlt i o.1 b hb)
        · exact Nat.lt_succ_of_lt (hlt j o.2.1 b hb)
      · exact Nat.lt_succ_of_lt (hlt k k1 b hb)
    · rw [ek]
      show ((if mark = (j : Int) then (i : Int) else mark) = (((if pen = j then i else pen : Nat)) : Int) ∧ (if pen = j then i else pen) ∈ _) ∨ ((if mark = (j : Int) then (i : Int) else mark) = -1 ∧ (if pen = j then i else pen) ∉ _)
      rcases hmark hk with ⟨e, m⟩ | ⟨e, m⟩
      · have e : mark = (pen : Int) := e
        have m : pen ∈ keysN kn := m
        left
        by_cases hp : pen = j
        · rw [if_pos hp, if_pos (by omega)]
          exact ⟨rfl, List.mem_filter.mpr ⟨o.1, decide_eq_true o.2.2⟩⟩
        · rw [if_neg hp, if_neg (by omega)]
          exact ⟨e, List.mem_filter.mpr ⟨m, decide_eq_true hp⟩⟩
      · have e : mark = -1 := e
        have m : pen ∉ keysN kn := m
        right
        have hp : ¬ pen = j := fun z => m (z ▸ o.2.1)
        rw [if_neg hp, if_neg (by omega)]
        exact ⟨e, fun z => m (List.mem_filter.mp z).1⟩
    · have e : mark = -1 := hfree hk
      show (if mark = (j : Int) then (i : Int) else mark) = -1
      rw [if_neg (by omega)]; exact e
  | ls i =>
    have o : i ∈ keysN kn := ok
    have ek : (HM.act ⟨kn, forks, pen⟩ done (.ls i)).ks = (keysN kn).filter fun k => decide (k ≠ i) := by
      show keysN (kdrop kn i) = _
      rw [keys_drop]
    have e1 : ∀ k, k ≠ i → HM.at (HM.act ⟨kn, forks, pen⟩ done (.ls i)) k = HM.at ⟨kn, forks, pen⟩ k := fun k hk => HM.at_drop (Ne.symm hk)
    have e2 : ∀ k, k ≠ i → LM.at (LM.act ⟨ln, forks + 1, done, mark⟩ (.ls i)) k = LM.at ⟨ln, forks + 1, done, mark⟩ k := fun k hk => LM.at_drop (Ne.symm hk)
    have old : ∀ k ∈ (keysN kn).filter (fun k => decide (k ≠ i)), k ∈ keysN kn ∧ k ≠ i := fun k hk => ⟨(List.mem_filter.mp hk).1, of_decide_eq_true (List.mem_filter.mp hk).2⟩
    refine ⟨?_, rfl, fun k hk b => ?_, fun k hk => ?_, fun k hk b hb => ?_, fun hk => ?_, fun hk => ?_⟩
    · rw [ek]
      show keysN (kdrop ln i) = _
      rw [keys_drop, hks]
    · rw [ek] at hk
      obtain ⟨k1, k2⟩ := old k hk
      rw [e1 k k2, e2 k k2]
      exact hbits k k1 b
    · rw [ek] at hk
      obtain ⟨k1, k2⟩ := old k hk
      rw [e2 k k2]
      exact hasc k k1
    · rw [ek] at hk
      obtain ⟨k1, k2⟩ := old k hk
      rw [e2 k k2] at hb
      exact Nat.lt_succ_of_lt (hlt k k1 b hb)
    · rw [ek]
      show ((if mark = (i : Int) then -1 else mark) = ((pen : Nat) : Int) ∧ pen ∈ _) ∨ ((if mark = (i : Int) then -1 else mark) = -1 ∧ pen ∉ _)
      rcases hmark hk with ⟨e, m⟩ | ⟨e, m⟩
      · have e : mark = (pen : Int) := e
        have m : pen ∈ keysN kn := m
        by_cases hp : pen = i
        · right
          rw [if_pos (by omega)]
          exact ⟨rfl, fun z => (old pen z).2 hp⟩
        · left
          rw [if_neg (by omega)]
          exact ⟨e, List.mem_filter.mpr ⟨m, decide_eq_true hp⟩⟩
      · have e : mark = -1 := e
        have m : pen ∉ keysN kn := m
        right
        rw [if_neg (by omega)]
        exact ⟨e, fun z => m (List.mem_filter.mp z).1⟩
    · have e : mark = -1 := hfree hk
      show (if mark = (i : Int) then -1 else mark) = -1
      rw [if_neg (by omega)]; exact e
end Dy
namespace Dy
open PySem PySem.Spec PyProof.Rows L2
abbrev stKeys : List Key := [.inr "knows", .inr "born", .inr "done", .inr "mark"]
/-- d is the laws' state l -/
def StAt (S : Store) (d : D) (l : LM) : Prop := ∃ kd, d = .dic stKeys [kd, natD l.born, natD l.done, .int l.mark] ∧ dvOf S kd = some (kvsF tupNs l.kn)
/-- dicts stand as they did -/
def DKept (S S' : Store) : Prop := ∀ (m : Nat) (kvs : KVD), S[m]? = some (.dK kvs) → S'[m]? = some (.dK kvs)
theorem dv_kept {S S' : Store} {d : D} {kvs : KVD} (h : dvOf S d = some kvs) (k : DKept S S') : dvOf S' d = some kvs := by
  cases d with
  | dic ks xs => exact h
  | ref n =>
    have h : (match S[n]? with | some (.dK kvs) => some kvs | _ => none) = some kvs := h
    cases e : S[n]? with
    | none => rw [e] at h; cases h
    | some o =>
      rw [e] at h
      cases o with
      | dK kvs2 =>
        cases h
        exact dv_ref (k n _ e)
      | _ => cases h
  | _ => cases h
theorem StAt.kept {S S' : Store} {d : D} {l : LM} (h : StAt S d l) (k : DKept S S') : StAt S' d l := by
  obtain ⟨kd, e, h⟩ := h
  exact ⟨kd, e, dv_kept h k⟩
end Dy
namespace Dy
open PySem PySem.Spec PyProof.Rows L2
end Dy
namespace Dy
open PySem PySem.Spec PyProof.Rows L2
theorem exm_of {K : PySem.W.Frag} {C S : Addr} (h1 : PySem.W.subIn K (.ref S) (.type "BaseException") = some true) (h2 : PySem.W.isClsIn K S = true) (h3 : PySem.W.typeIn K (.ref S) = some (.type "type")) {b : Bool} (h4 : PySem.W.subIn K (.ref C) (.ref S) = some b) : PySem.W.exmOne K (.ref C) (.ref S) = some b := by
  have e1 : (PySem.W.subIn K (.ref S) (.type "BaseException") == some true) = true := by rw [h1]; rfl
  have e2 : ((PySem.W.clsIn K S).isSome && PySem.W.typeIn K (.ref S) == some (.type "type")) = true := by
    have h2' : (PySem.W.clsIn K S).isSome = true := h2
    rw [h2', h3]; rfl
  unfold PySem.W.exmOne
  rw [if_pos e1]
  unfold PySem.W.kitCls
  exact (if_pos e2).trans h4
end Dy
namespace Dy
open PySem PySem.Spec PyProof.Rows L2
end Dy
namespace Dy
open PySem PySem.Spec PyProof.Rows L2
theorem dy_walkX (x : Str) {l : PySem.W.OpenLaw} {k : Nat} {q : Program} {loose : List Str} {XP : (Str → Option Value) → Heap → Prop} {YP : World → Heap → Prop} {d : DefRec} {K : Params → PySem.W.Frag} (hn : l.most = some 63) (hdf : d.params.defaults = []) (hr : Room k PySem.callerA)
    (hY : ∀ (w : World) (h : Heap), YP w h → (K w.params).In h)
    (F : ∀ (w : World) (mg : Str → Option Value) (fa : Addr) (h : Heap), (K w.params).In h → h.Ns mainGlobals mg → mg d.name = some (.ref fa) →
      ∃ fd : FuncData, (∀ (s : Shared) (u : Value), BindsTo s fd ⟨[u], []⟩ [(x, u)]) ∧ ∀ base : Heap, (K w.params).In base → base.Ns mainGlobals mg → FnOk l.prog w (K w.params) mg base (L2.CX l.prog w) k fa fd [x] (liftSp (K w.params) spLaw)) :
    PySem.W.WalkO q loose XP YP l.row.toRowW d [] (fun f vs => PySem.call f vs) :=
  L2.walk_of (n := 63) (x := x) (CX := fun w => L2.CX l.prog w) (sp := fun w => liftSp (K w.params) spLaw) hn (by decide) hdf hr hY F (fun _ _ a ns hl o h => law_starts o h) fun _ _ _ _ _ z => by
    obtain ⟨_, _, _, _, _, _, _, _, _, _, _, _, z⟩ := z
    exact z
end Dy
namespace Dy
open PySem PySem.Spec PyProof.Rows L2
/-- all bits from idx on are off -/
def HM.Low (h : HM) (idx : Nat) : Prop := ∀ i ∈ h.ks, ∀ b, idx ≤ b → (h.at i).testBit b = false
structure Sim (f : Nat → Nat) (h h' : HM) : Prop where
  inj : ∀ a b, f a = f b → a = b
  zero : f 0 = 0
  up : ∀ k, h.forks < k → f (k + 1) = f k + 1
  ks : h'.ks = h.ks.map f
  born : h'.forks + 1 = f (h.forks + 1)
  pen1 : h.pen ∈ h.ks → h'.pen = f h.pen
  pen2 : h.pen ∉ h.ks → h'.pen ∉ h'.ks
  to : ∀ b, ∃ b', ∀ i ∈ h.ks, (h.at i).testBit b = (h'.at (f i)).testBit b'
  fro : ∀ b', ∃ b, ∀ i ∈ h.ks, (h.at i).testBit b = (h'.at (f i)).testBit b'
def Deed.re (f : Nat → Nat) : Deed → Deed
  | .ch i => .ch (f i)
  | .fk i => .fk (f i)
  | .jn i j => .jn (f i) (f j)
  | .ls i => .ls (f i)
theorem Sim.mem {f : Nat → Nat} {h h' : HM} (s : Sim f h h') {i : Nat} : f i ∈ h'.ks ↔ i ∈ h.ks := by
  rw [s.ks, List.mem_map]
  constructor
  · rintro ⟨k, hk, e⟩
    exact s.inj _ _ e ▸ hk
  · exact fun hk => ⟨i, hk, rfl⟩
theorem at_put {kn : List (Nat × Nat)} {i j : Nat} {v : Nat} {fo pe : Nat} : HM.at ⟨kput kn i v, fo, pe⟩ j = if i = j then v else ((kget kn j).getD 0) := by
  unfold HM.at
  rw [kget_put]
  split <;> rfl
theorem at_drop {kn : List (Nat × Nat)} {i j : Nat} (h : i ≠ j) : (kget (kdrop kn i) j).getD 0 = (kget kn j).getD 0 := by
  rw [kget_drop, if_neg h]
theorem Sim.lets {f : Nat → Nat} {h h' : HM} {v : Wld} {x : Deed} (s : Sim f h h') : h'.lets v (x.re f) = h.lets v x := by
  have hm : ∀ i, decide (f i ∈ h'.ks) = decide (i ∈ h.ks) := fun i => decide_eq_decide.mpr s.mem
  have hz : ∀ i, decide (f i = 0) = decide (i = 0) := fun i => decide_eq_decide.mpr ⟨fun e => s.inj _ _ (e.trans s.zero.symm), fun e => e ▸ s.zero⟩
  have hl : h'.ks.length = h.ks.length := by rw [s.ks, List.length_map]
  cases x with
  | ch i =>
    show (decide (f i ∈ h'.ks) && (!decide (v.kind = "pen") || decide (f i = h'.pen))) = (decide (i ∈ h.ks) && (!decide (v.kind = "pen") || decide (i = h.pen)))
    rw [hm]
    by_cases hi : i ∈ h.ks
    · have : decide (f i = h'.pen) = decide (i = h.pen) := by
        refine decide_eq_decide.mpr ?_
        by_cases hp : h.pen ∈ h.ks
        · rw [s.pen1 hp]
          exact ⟨s.inj _ _, fun e => by rw [e]⟩
        · constructor
          · intro e
            exact absurd (e ▸ s.mem.mpr hi) (s.pen2 hp)
          · intro e
            exact absurd (e ▸ hi) hp
      rw [this]
    · rw [decide_eq_false hi]; rfl
  | fk i =>
    show (decide (f i ∈ h'.ks) && (decide (h'.ks.length < v.most) && (!decide (v.kind = "trunk") || decide (f i = 0)))) = (decide (i ∈ h.ks) && (decide (h.ks.length < v.most) && (!decide (v.kind = "trunk") || decide (i = 0))))
    rw [hm, hz, hl]
  | jn i j =>
    show (decide (f i ∈ h'.ks) && decide (f j ∈ h'.ks) && (!decide (v.kind = "trunk") || decide (f i = 0))) = (decide (i ∈ h.ks) && decide (j ∈ h.ks) && (!decide (v.kind = "trunk") || decide (i = 0)))
    rw [hm, hm, hz]
  | ls i =>
    show (decide (f i ∈ h'.ks) && (v.los && decide (1 < h'.ks.length))) = (decide (i ∈ h.ks) && (v.los && decide (1 < h.ks.length)))
    rw [hm, hl]
theorem filter_map_ne {f : Nat → Nat} (inj : ∀ a b, f a = f b → a = b) (l : List Nat) (j : Nat) : (l.map f).filter (fun k => decide (k ≠ f j)) = (l.filter fun k => decide (k ≠ j)).map f := by
  rw [List.filter_map]
  congr 1
  refine List.filter_congr fun k _ => ?_
  show decide (f k ≠ f j) = decide (k ≠ j)
  exact decide_eq_decide.mpr ⟨fun a e => a (by rw [e]), fun a e => a (inj _ _ e)⟩
theorem bit_or_pow (a n b : Nat) : (a ||| 2 ^ n).testBit b = (a.testBit b || decide (n = b)) := by
  rw [Nat.testBit_or, Nat.testBit_two_pow]
theorem Sim.act {f : Nat → Nat} {h h' : HM} {v : Wld} {x : Deed} {i i' : Nat} (s : Sim f h h') (l : h.lets v x = true) (wf : deedWf x) (lo : h.Low i) (lo' : h'.Low i') (iv : h.Inv) (iv' : h'.Inv) : Sim f (h.act i x) (h'.act i' (x.re f)) := by
  have ok := HM.lets_ok l wf
  have nb : h.forks + 1 ∉ h.ks := fun m => by
    have := iv.le _ m
    omega
  have ipe := iv.pe
  have pe' := iv'.pe
  cases x with
  | ch c =>
    have hc : c ∈ h.ks := ok
    have k1 : (h.act i (.ch c)).ks = h.ks := by
      show keysN (kput h.kn c _) = _
      rw [keys_put, if_pos hc]
    have k2 : (h'.act i' (.ch (f c))).ks = h'.ks := by
      show keysN (kput h'.kn (f c) _) = _
      rw [keys_put, if_pos (s.mem.mpr hc)]
    have a1 : ∀ j, (h.act i (.ch c)).at j = if c = j then h.at c ||| 2 ^ i else h.at j := fun j => at_put
    have a2 : ∀ j, (h'.act i' (.ch (f c))).at (f j) = if c = j then h'.at (f c) ||| 2 ^ i' else h'.at (f j) := fun j => by
      refine at_put.trans ?_
      by_cases e : c = j
      · rw [if_pos e, if_pos (by rw [e])]
      · rw [if_neg e, if_neg fun z => e (s.inj _ _ z)]; rfl
    refine ⟨s.inj, s.zero, s.up, by rw [k1]; exact k2.trans s.ks, s.born, fun hp => s.pen1 (by rw [k1] at hp; exact hp), fun hp => ?_, fun b => ?_, fun b' => ?_⟩
    · show h'.pen ∉ (h'.act i' (.ch (f c))).ks
      rw [k2]
      exact s.pen2 (by rw [k1] at hp; exact hp)
    · rw [k1]
      show ∃ b', ∀ j ∈ h.ks, ((h.act i (.ch c)).at j).testBit b = ((h'.act i' (.ch (f c))).at (f j)).testBit b'
      by_cases e : b = i
      · refine ⟨i', fun j hj => ?_⟩
        rw [a1, a2, e]
        by_cases ec : c = j
        · rw [if_pos ec, if_pos ec, bit_or_pow, bit_or_pow, decide_eq_true rfl, decide_eq_true rfl, Bool.or_true, Bool.or_true]
        · rw [if_neg ec, if_neg ec, lo j hj i (Nat.le_refl _), lo' (f j) (s.mem.mpr hj) i' (Nat.le_refl _)]
      · obtain ⟨b', hb⟩ := s.to b
        by_cases e' : b' = i'
        · refine ⟨i' + 1, fun j hj => ?_⟩
          have z1 := hb j hj
          rw [e', lo' (f j) (s.mem.mpr hj) i' (Nat.le_refl _)] at z1
          have z2 := lo' (f j) (s.mem.mpr hj) (i' + 1) (by omega)
          rw [a1, a2]
          by_cases ec : c = j
          · subst ec
            rw [if_pos rfl, if_pos rfl, bit_or_pow, bit_or_pow, z1, z2, decide_eq_false (fun z => e z.symm), decide_eq_false (by omega)]
          · rw [if_neg ec, if_neg ec, z1, z2]
        · refine ⟨b', fun j hj => ?_⟩
          have z1 := hb j hj
          rw [a1, a2]
          by_cases ec : c = j
          · subst ec
            rw [if_pos rfl, if_pos rfl, bit_or_pow, bit_or_pow, z1, decide_eq_false (fun z => e z.symm), decide_eq_false (fun z => e' z.symm)]
          · rw [if_neg ec, if_neg ec, z1]
    · rw [k1]
      show ∃ b, ∀ j ∈ h.ks, ((h.act i (.ch c)).at j).testBit b = ((h'.act i' (.ch (f c))).at (f j)).testBit b'
      by_cases e : b' = i'
      · refine ⟨i, fun j hj => ?_⟩
        rw [a1, a2, e]
        by_cases ec : c = j
        · rw [if_pos ec, if_pos ec, bit_or_pow, bit_or_pow, decide_eq_true rfl, decide_eq_true rfl, Bool.or_true, Bool.or_true]
        · rw [if_neg ec, if_neg ec, lo j hj i (Nat.le_refl _), lo' (f j) (s.mem.mpr hj) i' (Nat.le_refl _)]
      · obtain ⟨b, hb⟩ := s.fro b'
        by_cases e' : b = i
        · refine ⟨i + 1, fun j hj => ?_⟩
          have z1 := hb j hj
          rw [e', lo j hj i (Nat.le_refl _)] at z1
          have z2 := lo j hj (i + 1) (by omega)
          rw [a1, a2]
          by_cases ec : c = j
          · subst ec
            rw [if_pos rfl, if_pos rfl, bit_or_pow, bit_or_pow, ← z1, z2, decide_eq_false (show ¬ (i = i + 1) by omega), decide_eq_false (fun z => e z.symm)]
          · rw [if_neg ec, if_neg ec, ← z1, z2]
        · refine ⟨b, fun j hj => ?_⟩
          have z1 := hb j hj
          rw [a1, a2]
          by_cases ec : c = j
          · subst ec
            rw [if_pos rfl, if_pos rfl, bit_or_pow, bit_or_pow, z1, decide_eq_false (fun z => e' z.symm), decide_eq_false (fun z => e z.symm)]
          · rw [if_neg ec, if_neg ec, z1]
  | fk c =>
    have hc : c ∈ h.ks := ok
    have nb : h.forks + 1 ∉ h.ks := nb
    have nb' : h'.forks + 1 ∉ h'.ks := fun m => nb (s.mem.mp (by rw [← s.born]; exact m))
    have k1 : (h.act i (.fk c)).ks = h.ks ++ [h.forks + 1] := by
      show keysN (kput h.kn (h.forks + 1) _) = _
      rw [keys_put, if_neg nb]
    have k2 : (h'.act i' (.fk (f c))).ks = h'.ks ++ [h'.forks + 1] := by
      show keysN (kput h'.kn (h'.forks + 1) _) = _
      rw [keys_put, if_neg nb']
    have a1 : ∀ j, (h.act i (.fk c)).at j = if h.forks + 1 = j then h.at c else h.at j := fun j => at_put
    have a2 : ∀ j, (h'.act i' (.fk (f c))).at (f j) = if h.forks + 1 = j then h'.at (f c) else h'.at (f j) := fun j => by
      refine at_put.trans ?_
      by_cases e : h.forks + 1 = j
      · rw [if_pos e, if_pos (by rw [s.born, e])]
      · rw [if_neg e, if_neg fun z => e (s.inj _ _ (s.born ▸ z))]; rfl
    refine ⟨s.inj, s.zero, fun k hk => s.up k (by have : h.forks + 1 < k := hk; omega), ?_, ?_, fun hp => ?_, fun hp => ?_, fun b => ?_, fun b' => ?_⟩
    · rw [k1, List.map_append]
      refine k2.trans ?_
      rw [s.ks, s.born]; rfl
    · show h'.forks + 1 + 1 = f (h.forks + 1 + 1)
      rw [s.up (h.forks + 1) (by omega), s.born]
    · show h'.pen = f h.pen
      rw [k1, List.mem_append, List.mem_singleton] at hp
      rcases hp with hp | hp
      · exact s.pen1 hp
      · have hp : h.pen = h.forks + 1 := hp
        omega
    · show h'.pen ∉ (h'.act i' (.fk (f c))).ks
      rw [k2, List.mem_append, List.mem_singleton]
      rw [k1, List.mem_append, List.mem_singleton] at hp
      rintro (m | m)
      · exact s.pen2 (fun z => hp (.inl z)) m
      · omega
    · obtain ⟨b', hb⟩ := s.to b
      refine ⟨b', fun j hj => ?_⟩
      rw [k1, List.mem_append, List.mem_singleton] at hj
      show ((h.act i (.fk c)).at j).testBit b = ((h'.act i' (.fk (f c))).at (f j)).testBit b'
      rw [a1, a2]
      by_cases e : h.forks + 1 = j
      · rw [if_pos e, if_pos e]; exact hb c hc
      · rw [if_neg e, if_neg e]; exact hb j (hj.resolve_right fun z => e z.symm)
    · obtain ⟨b, hb⟩ := s.fro b'
      refine ⟨b, fun j hj => ?_⟩
      rw [k1, List.mem_append, List.mem_singleton] at hj
      show ((h.act i (.fk c)).at j).testBit b = ((h'.act i' (.fk (f c))).at (f j)).testBit b'
      rw [a1, a2]
      by_cases e : h.forks + 1 = j
      · rw [if_pos e, if_pos e]; exact hb c hc
      · rw [if_neg e, if_neg e]; exact hb j (hj.resolve_right fun z => e z.symm)
  | jn c d =>
    have hc : c ∈ h.ks ∧ d ∈ h.ks ∧ c ≠ d := ok
    obtain ⟨hc, hd, hcd⟩ := hc
    have hfcd : f c ≠ f d := fun z => hcd (s.inj _ _ z)
    have k1 : (h.act i (.jn c d)).ks = h.ks.filter fun k => decide (k ≠ d) := by
      show keysN (kput (kdrop h.kn d) c _) = _
      rw [keys_put, keys_drop, if_pos (List.mem_filter.mpr ⟨hc, decide_eq_true hcd⟩)]
    have k2 : (h'.act i' (.jn (f c) (f d))).ks = h'.ks.filter fun k => decide (k ≠ f d) := by
      show keysN (kput (kdrop h'.kn (f d)) (f c) _) = _
      rw [keys_put, keys_drop, if_pos (List.mem_filter.mpr ⟨s.mem.mpr hc, decide_eq_true hfcd⟩)]
    have a1 : ∀ j, j ≠ d → (h.act i (.jn c d)).at j = if c = j then h.at c ||| h.at d else h.at j := fun j hj => by
      refine at_put.trans ?_
      by_cases e : c = j
      · rw [if_pos e, if_pos e]
      · rw [if_neg e, if_neg e, at_drop (fun z => hj z.symm)]; rfl
    have a2 : ∀ j, j ≠ d → (h'.act i' (.jn (f c) (f d))).at (f j) = if c = j then h'.at (f c) ||| h'.at (f d) else h'.at (f j) := fun j hj => by
      refine at_put.trans ?_
      by_cases e : c = j
      · rw [if_pos e, if_pos (by rw [e])]
      · rw [if_neg e, if_neg fun z => e (s.inj _ _ z), at_drop (fun z => hj (s.inj _ _ z.symm))]; rfl
    have mk : ∀ {j}, j ∈ (h.act i (.jn c d)).ks → j ∈ h.ks ∧ j ≠ d := fun {j} m => by
      rw [k1] at m
      exact ⟨(List.mem_filter.mp m).1, of_decide_eq_true (List.mem_filter.mp m).2⟩
    have p1 : (h.act i (.jn c d)).pen = if h.pen = d then c else h.pen := rfl
    have p2 : (h'.act i' (.jn (f c) (f d))).pen = if h'.pen = f d then f c else h'.pen := rfl
    refine ⟨s.inj, s.zero, s.up, ?_, s.born, fun hp => ?_, fun hp => ?_, fun b => ?_, fun b' => ?_⟩
    · refine k2.trans ?_
      rw [k1, s.ks, filter_map_ne s.inj]
    · show (h'.act i' (.jn (f c) (f d))).pen = f (h.act i (.jn c d)).pen
      rw [p1, p2]
      by_cases e : h.pen = d
      · have := s.pen1 (e ▸ hd)
        rw [if_pos e, if_pos (by rw [this, e])]
      · rw [p1, if_neg e] at hp
        have := s.pen1 (mk hp).1
        rw [if_neg e, if_neg (fun z => e (s.inj _ _ (this ▸ z))), this]
    · show (h'.act i' (.jn (f c) (f d))).pen ∉ (h'.act i' (.jn (f c) (f d))).ks
      rw [k2, p2]
      by_cases e : h.pen = d
      · rw [p1, if_pos e, k1] at hp
        exact absurd (List.mem_filter.mpr ⟨hc, decide_eq_true hcd⟩) hp
      · rw [p1, if_neg e, k1] at hp
        have hn : h.pen ∉ h.ks := fun m => hp (List.mem_filter.mpr ⟨m, decide_eq_true e⟩)
        have hn' := s.pen2 hn
        have e' : ¬ (h'.pen = f d) := fun z => hn' (z ▸ s.mem.mpr hd)
        rw [if_neg e']
        exact fun m => hn' (List.mem_filter.mp m).1
    · obtain ⟨b', hb⟩ := s.to b
      refine ⟨b', fun j hj => ?_⟩
      obtain ⟨hj, hjd⟩ := mk hj
      show ((h.act i (.jn c d)).at j).testBit b = ((h'.act i' (.jn (f c) (f d))).at (f j)).testBit b'
      rw [a1 j hjd, a2 j hjd]
      by_cases e : c = j
      · rw [if_pos e, if_pos e, Nat.testBit_or, Nat.testBit_or, hb c hc, hb d hd]
      · rw [if_neg e, if_neg e]; exact hb j hj
    · obtain ⟨b, hb⟩ := s.fro b'
      refine ⟨b, fun j hj => ?_⟩
      obtain ⟨hj, hjd⟩ := mk hj
      show ((h.act i (.jn c d)).at j).testBit b = ((h'.act i' (.jn (f c) (f d))).at (f j)).testBit b'
      rw [a1 j hjd, a2 j hjd]
      by_cases e : c = j
      · rw [if_pos e, if_pos e, Nat.testBit_or, Nat.testBit_or, hb c hc, hb d hd]
      · rw [if_neg e, if_neg e]; exact hb j hj
  | ls d =>
    have hd : d ∈ h.ks := ok
    have k1 : (h.act i (.ls d)).ks = h.ks.filter fun k => decide (k ≠ d) := keys_drop
    have k2 : (h'.act i' (.ls (f d))).ks = h'.ks.filter fun k => decide (k ≠ f d) := keys_drop
    have a1 : ∀ j, j ≠ d → (h.act i (.ls d)).at j = h.at j := fun j hj => at_drop (fun z => hj z.symm)
    have a2 : ∀ j, j ≠ d → (h'.act i' (.ls (f d))).at (f j) = h'.at (f j) := fun j hj => at_drop (fun z => hj (s.inj _ _ z.symm))
    have mk : ∀ {j}, j ∈ (h.act i (.ls d)).ks → j ∈ h.ks ∧ j ≠ d := fun {j} m => by
      rw [k1] at m
      exact ⟨(List.mem_filter.mp m).1, of_decide_eq_true (List.mem_filter.mp m).2⟩
    refine ⟨s.inj, s.zero, s.up, ?_, s.born, fun hp => s.pen1 (mk hp).1, fun hp => ?_, fun b => ?_, fun b' => ?_⟩
    · refine k2.trans ?_
      rw [k1, s.ks, filter_map_ne s.inj]
    · show h'.pen ∉ (h'.act i' (.ls (f d))).ks
      rw [k2]
      intro m
      have m := List.mem_filter.mp m
      have m2 : h'.pen ≠ f d := of_decide_eq_true m.2
      by_cases e : h.pen ∈ h.ks
      · have e2 := s.pen1 e
        refine hp ?_
        show h.pen ∈ (h.act i (.ls d)).ks
        rw [k1]
        exact List.mem_filter.mpr ⟨e, decide_eq_true fun z => m2 (by rw [e2, z])⟩
      · exact s.pen2 e m.1
    · obtain ⟨b', hb⟩ := s.to b
      refine ⟨b', fun j hj => ?_⟩
      obtain ⟨hj, hjd⟩ := mk hj
      show ((h.act i (.ls d)).at j).testBit b = ((h'.act i' (.ls (f d))).at (f j)).testBit b'
      rw [a1 j hjd, a2 j hjd]
      exact hb j hj
    · obtain ⟨b, hb⟩ := s.fro b'
      refine ⟨b, fun j hj => ?_⟩
      obtain ⟨hj, hjd⟩ := mk hj
      show ((h.act i (.ls d)).at j).testBit b = ((h'.act i' (.ls (f d))).at (f j)).testBit b'
      rw [a1 j hjd, a2 j hjd]
      exact hb j hj
end Dy
namespace Dy
open PySem PySem.Spec PyProof.Rows L2
theorem HM.Low.mono {h : HM} {i k : Nat} (l : h.Low i) (e : i ≤ k) : h.Low k := fun j hj b hb => l j hj b (by omega)
theorem HM.Low.act {h : HM} {v : Wld} {x : Deed} {i : Nat} (lo : h.Low i) (l : h.lets v x = true) (wf : deedWf x) : (h.act i x).Low (i + 1) := by
  have ok := HM.lets_ok l wf
  intro j hj b hb
  cases x with
  | ch c =>
    have hc : c ∈ h.ks := ok
    have k1 : (h.act i (.ch c)).ks = h.ks := by
      show keysN (kput h.kn c _) = _
      rw [keys_put, if_pos hc]
    rw [k1] at hj
    have a1 : (h.act i (.ch c)).at j = if c = j then h.at c ||| 2 ^ i else h.at j := Dy.at_put
    rw [a1]
    by_cases e : c = j
    · rw [if_pos e, bit_or_pow, lo c hc b (by omega), decide_eq_false (by omega)]; rfl
    · rw [if_neg e]; exact lo j hj b (by omega)
  | fk c =>
    have hc : c ∈ h.ks := ok
    have a1 : (h.act i (.fk c)).at j = if h.forks + 1 = j then h.at c else h.at j := Dy.at_put
    rw [a1]
    by_cases e : h.forks + 1 = j
    · rw [if_pos e]; exact lo c hc b (by omega)
    · rw [if_neg e]
      have hj : j ∈ keysN (kput h.kn (h.forks + 1) (h.at c)) := hj
      rw [keys_put] at hj
      refine lo j ?_ b (by omega)
      split at hj
      · exact hj
      · rcases List.mem_append.mp hj with m | m
        · exact m
        · exact absurd (List.mem_singleton.mp m).symm e
  | jn c d =>
    obtain ⟨hc, hd, hcd⟩ : c ∈ h.ks ∧ d ∈ h.ks ∧ c ≠ d := ok
    have k1 : (h.act i (.jn c d)).ks = h.ks.filter fun k => decide (k ≠ d) := by
      show keysN (kput (kdrop h.kn d) c _) = _
      rw [keys_put, keys_drop, if_pos (List.mem_filter.mpr ⟨hc, decide_eq_true hcd⟩)]
    rw [k1] at hj
    have m := List.mem_filter.mp hj
    have mj : j ≠ d := of_decide_eq_true m.2
    have a1 : (h.act i (.jn c d)).at j = if c = j then h.at c ||| h.at d else h.at j := by
      have a0 : (h.act i (.jn c d)).at j = if c = j then h.at c ||| h.at d else (kget (kdrop h.kn d) j).getD 0 := Dy.at_put
      rw [a0]
      by_cases e : c = j
      · rw [if_pos e, if_pos e]
      · rw [if_neg e, if_neg e, Dy.at_drop (fun z => mj z.symm)]; rfl
    rw [a1]
    by_cases e : c = j
    · rw [if_pos e, Nat.testBit_or, lo c hc b (by omega), lo d hd b (by omega)]; rfl
    · rw [if_neg e]; exact lo j m.1 b (by omega)
  | ls d =>
    have k1 : (h.act i (.ls d)).ks = h.ks.filter fun k => decide (k ≠ d) := keys_drop
    rw [k1] at hj
    have m := List.mem_filter.mp hj
    have mj : j ≠ d := of_decide_eq_true m.2
    have a1 : (h.act i (.ls d)).at j = h.at j := Dy.at_drop (fun z => mj z.symm)
    rw [a1]
    exact lo j m.1 b (by omega)
theorem sub_eq {A B : Nat} : A &&& B = A ↔ ∀ k, A.testBit k = true → B.testBit k = true := by
  constructor
  · intro e k hk
    have h1 : (A &&& B).testBit k = A.testBit k := by rw [e]
    rw [Nat.testBit_and, hk, Bool.true_and] at h1
    exact h1
  · intro h
    refine Nat.eq_of_testBit_eq fun k => ?_
    rw [Nat.testBit_and]
    cases e : A.testBit k
    · rfl
    · rw [h k e]; rfl
theorem Sim.sub {f : Nat → Nat} {h h' : HM} (s : Sim f h h') {a b : Nat} (ha : a ∈ h.ks) (hb : b ∈ h.ks) : h.at a &&& h.at b = h.at a ↔ h'.at (f a) &&& h'.at (f b) = h'.at (f a) := by
  rw [sub_eq, sub_eq]
  constructor
  · intro z k hk
    obtain ⟨k', q⟩ := s.fro k
    rw [← q b hb]
    exact z k' (by rw [q a ha]; exact hk)
  · intro z k hk
    obtain ⟨k', q⟩ := s.to k
    rw [q b hb]
    exact z k' (by rw [← q a ha]; exact hk)
end Dy
namespace Dy
open PySem PySem.Spec PyProof.Rows L2
def Deed.gone : Deed → Option Nat
  | .jn _ d => some d
  | .ls d => some d
  | _ => none
def Deed.pn (p : Nat) : Deed → Nat
  | .jn c d => if p = d then c else p
  | _ => p
end Dy
namespace Dy
open PySem PySem.Spec PyProof.Rows L2
end Dy
namespace Dy
open PySem PySem.Spec PyProof.Rows L2
end Dy
namespace Dy
open PySem PySem.Spec PyProof.Rows L2
section
variable {prog : Program} {w : World} {A : Around} {E : Value → Shared → Prop} {s : Shared} {K : PySem.W.Frag} {x C f L : Addr} {h₀ : Heap} {m : Str → Option Value} {ox : Obj} {od : Option Obj} {b tb : Value}
theorem ne_plain : plainId "object.__ne__" = true := PySem.F.cmp_object.ne.plain
end
end Dy
namespace Dy
open PySem PySem.Spec PyProof.Rows L2
def cIsCls (C : Addr) : DR := fun ds S Q => ∃ n fs, ds = [.ref n, .cls C] ∧ S[n]? = some (.ins C fs) ∧ Q (.bl true) S
theorem o_isCls {C : Addr} {n : Nat} {fs : List (Str × D)} {S : Store} {Q : QD} (e : S[n]? = some (.ins C fs)) (h : Q (.bl true) S) : cIsCls C [.ref n, .cls C] S Q := ⟨n, fs, rfl, e, h⟩
end Dy
namespace Dy
open PySem PySem.Spec PyProof.Rows L2
end Dy
namespace Dy
open PySem PySem.Spec PyProof.Rows L2
section
variable {F : Fam} {W : WX} {e e2 o i : Expr} {t : DTA} {p pos pos' : Pos} {C : Addr} {tb : List (Addr × Bool)} {td ty : DTE} {k : Nat}
def eSubD (td ty : DTE) : DTG := fun d ρ S Q => td ρ S (fun o S1 => ty ρ S1 (fun i S2 => oDPut d o i (fun S3 => Q ρ S3) S2) noX) noX
theorem g_sub {td ty : DTE} {d : D} {ρ : Rho} {S : Store} {Q : Rho → Store → Prop} (h : td ρ S (fun o S1 => ty ρ S1 (fun i S2 => oDPut d o i (fun S3 => Q ρ S3) S2) noX) noX) : eSubD td ty d ρ S Q := h
end
def rDictEq (K : PySem.W.Frag) (neg : Bool) : R2 := fun x y H Q => ∃ a b ks ls, x = .ref a ∧ y = .ref b ∧ H a = some (.dK ks) ∧ H b = some (.dK ls) ∧ ks.length = ls.length ∧
  (∀ p ∈ ks, ∃ v d e, valV ls p.1 = some v ∧ Dp K H p.2 d ∧ Dp K H v e ∧ d.plain = true ∧ e.plain = true ∧ min d.depth e.depth ≤ 60 ∧ PyData.eqv d e = true) ∧ Q (.bl (neg ^^ true)) H
theorem hits_dp {X : Cx} {pins : List (Addr × Obj)} {σ : L2.St} {H : Hp} {s : Shared} (I : Inv X pins σ H s) {A : Around} (hu : A.units + 61 < cLine) {kvs : List (Key × V)} {vb : List (Key × Value)} (rb : KV kvs vb) {ks : List (Key × V)} {va : List (Key × Value)} (ra : KV ks va) :
    (∀ p ∈ ks, ∃ v d e, valV kvs p.1 = some v ∧ Dp X.K H p.2 d ∧ Dp X.K H v e ∧ d.plain = true ∧ e.plain = true ∧ min d.depth e.depth ≤ 60 ∧ PyData.eqv d e = true) → PySem.W.KeqHits A s vb va true := by
  unfold KV at ra
  induction ra with
  | nil => intro _; exact .nil
  | @cons p q ps qs h t ih =>
    intro hp
    obtain ⟨h1, h2⟩ := h
    obtain ⟨v, d, e, ev, d1, d2, p1, p2, hd, he⟩ := hp p List.mem_cons_self
    have rr : RelO (some v) (valueAt vb p.1) := by rw [← ev]; exact rb.val p.1
    obtain ⟨y, hy, ry⟩ := rr.some_of
    obtain ⟨k, u⟩ := q
    have h1' : p.1 = k := h1
    rw [h1'] at hy
    show PySem.W.KeqHits A s vb ((k, u) :: qs) (true && true)
    obtain ⟨as, g1⟩ := Dp.reads I d p.2 u d1 h2
    obtain ⟨bs, g2⟩ := Dp.reads I e v y d2 ry
    have := SeqAt.eqAt_plain d e A s u y as bs g1 g2 p1 p2 (by omega)
    rw [he] at this
    exact .hit hy this (ih fun p' hm => hp p' (List.mem_cons_of_mem _ hm))
theorem op_eqDict {X : Cx} (hu : X.A.units + 64 < cLine) : OpR X (compareOp .Eq) (rDictEq X.K false) := by
  intro pins s σ H x y v u Q I rx ry h
  obtain ⟨a, b, ks, ls, rfl, rfl, ea, eb, hlen, hp, q⟩ := h
  obtain rfl : v = Value.ref a := rx
  obtain rfl : u = Value.ref b := ry
  obtain ⟨_, ya, va, ra, da⟩ := (show ObjOk X.prog X.w H s.heap a (.dK ks) from I.hok a _ ea)
  obtain ⟨_, yb, vb, rb, db⟩ := (show ObjOk X.prog X.w H s.heap b (.dK ls) from I.hok b _ eb)
  have hl : va.length = vb.length := by rw [← ra.length, ← rb.length]; exact hlen
  exact PySem.W.keq_eq (knd := mixKind X.prog X.w) (r := true) ya yb da db (by omega) (fun _ => hits_dp I (by show X.A.units + 1 + 61 < cLine; omega) rb ra hp) (fin_bl I q (by simp [hl]))
/-- two dicts with like values at like keys, whatever their order -/
def dDictEq (neg : Bool) : D2 := fun x y S Q => ∃ ks ls, dvOf S x = some ks ∧ dvOf S y = some ls ∧ ks.length = ls.length ∧ (∀ p ∈ ks, valD ls p.1 = some p.2 ∧ okD 50 p.2 = true) ∧ Q (.bl (neg ^^ true)) S
theorem lk_dictEq {K : PySem.W.Frag} {neg : Bool} : Lk K (dDictEq neg) (rDictEq K neg) := by
  rintro φ S H Q' Q x y v1 v2 r r1 r2 q ⟨ks, ls, e1, e2, hl, hp, h⟩
  obtain ⟨a, ws, rfl, g1, k1⟩ := dv_of r r1 e1
  obtain ⟨b, us, rfl, g2, k2⟩ := dv_of r r2 e2
  refine ⟨a, b, ws, us, rfl, rfl, g1, g2, by rw [rk_len k1, rk_len k2]; exact hl, fun p mp => ?_, q φ H S _ _ .refl r rd_bl h⟩
  obtain ⟨i, hi⟩ := List.mem_iff_getElem?.mp mp
  have li : i < ks.length := by rw [← rk_len k1]; exact (List.getElem?_eq_some_iff.mp hi).1
  have hk : ks[i]? = some ks[i] := List.getElem?_eq_getElem li
  obtain ⟨hv, hok⟩ := hp ks[i] (List.getElem_mem li)
  have ek : ks[i].1 = p.1 := by
    have := congrArg (fun l => l[i]?) k1.1
    simp only [List.getElem?_map, hk, hi, Option.map_some] at this
    exact Option.some.inj this
  have rv : RD K φ H ks[i].2 p.2 := by
    obtain ⟨v, h1, h2⟩ := RDs.get k1.2 (show (ks.map (·.2))[i]? = some ks[i].2 by rw [List.getElem?_map, hk]; rfl)
    rw [List.getElem?_map, hi] at h1
    cases h1
    exact h2
  rw [ek] at hv
  obtain ⟨v, h1, h2⟩ := (rk_val k2 (k := p.1)).1 _ hv
  obtain ⟨d, ed, hd, hpl⟩ := py_ok 50 _ hok
  obtain ⟨i1, i2⟩ := dp_of _ _ d rv ed
  obtain ⟨j1, j2⟩ := dp_of _ _ d h2 ed
  exact ⟨v, d, d, h1, i1, j1, hpl, hpl, by omega, PySem.SeqAt.eqv_refl_plain d hpl⟩
section
variable {F : Fam} {k : Nat}
theorem oq_eqDict (hr : ∀ i, Room k (F.X i).A) (i : F.ι) : OpR (F.X i) (compareOp .Eq) (rDictEq F.K false) := F.hK i ▸ op_eqDict (hr i).units
end
end Dy
namespace Dy
open PySem PySem.Spec PyProof.Rows L2
end Dy
namespace Dy
open PySem PySem.Spec PyProof.Rows L2
def dBits (to : DTE) : DTE := fun ρ S Q E => to ρ S (fun d S1 => ∃ i, d = .int i ∧ Q (.int (Builtin.Int.intBits i : Nat)) S1) E
theorem c_bits {to : DTE} {ρ : Rho} {S : Store} {Q : QD} {E : XQ} (h : to ρ S (fun d S1 => ∃ i, d = .int i ∧ Q (.int (Builtin.Int.intBits i : Nat)) S1) E) : dBits to ρ S Q E := h
end Dy
namespace Dy
open PySem PySem.Spec PyProof.Rows L2
section
variable {F : Fam} {W : WX} {o e i a b : Expr} {es : List Expr} {to te ti ta tb : DTE} {t : DTA} {pos apos p : Pos}
def dSM1 (r : DM) (to te : DTE) : DTE := fun ρ S Q E => to ρ S (fun o S1 => (∃ a, o = .str a) ∧ te ρ S1 (fun d S2 => r o [d] S2 Q) E) E
def dSlS : D → Option Int → Option Int → Store → QD → Prop := fun x lo hi S Q => ∃ z, x = .str z ∧ z.length ≤ sizeLine ∧ Q (.str (cutS z lo hi)) S
def dInStr (neg : Bool) : D2 := fun x y S Q => ∃ (c : Nat) (z : Str), x = .str ⟨#[c]⟩ ∧ y = .str z ∧ Q (.bl (neg ^^ decide (c ∈ z.cps.toList))) S
def jStr (te : DTE) : DTI := fun ρ S R E => te ρ S (fun d S1 => ∃ z : Str, d = .str z ∧ R (z.cps.toList.map fun c => D.str ⟨#[c]⟩) (fun _ => True) S1) E
def cLenS : DR := fun ds S Q => ∃ z, ds = [.str z] ∧ z.length ≤ sizeLine ∧ Q (.int z.length) S
/-- str(i), str(s) -/
def cStr : DR := fun ds S Q => (∃ i : Int, ds = [.int i] ∧ i.natAbs.log2 < 1920 ∧ Q (.str (toString i)) S) ∨ ∃ a, ds = [.str a] ∧ Q (.str a) S
def dStar (te : DTE) (t : DTA) : DTA := fun ρ S Q E => te ρ S (fun d S1 => ∃ xs, sqOf S1 d = some xs ∧ t ρ S1 (fun ds S2 => Q (xs ++ ds) S2) E) E
def dRevL (te : DTE) : DTE := fun ρ S Q E => te ρ S (fun d S1 => ∃ xs, lsOf S1 d = some xs ∧ Q (.lst xs.reverse) S1) E
theorem RDs.reverse {K : PySem.W.Frag} {φ : Al} {H : Hp} : ∀ {xs : List D} {vs : List V}, RDs K φ H xs vs → RDs K φ H xs.reverse vs.reverse
  | [], vs, h => by rw [RDs] at h; subst h; exact RDs.nil
  | x :: xs, vs, h => by
    rw [RDs] at h
    obtain ⟨v, r, rfl, h1, h2⟩ := h
    rw [List.reverse_cons, List.reverse_cons]
    exact RDs.append (RDs.reverse h2) (.cons h1 .nil)
end
section
variable {F : Fam} {W : WX} {e e2 : Expr} {te : DTE} {t : DTA} {p pos pos2 : Pos}
def dIsi2 (A B : String) (te : DTE) : DTE := fun ρ S Q E => te ρ S (fun d S1 => ∃ tag, tagOf S1 d = some tag ∧ Q (.bl (isiT A tag || isiT B tag)) S1) E
end
section
variable {ρ : Rho} {S : Store} {Q : QD} {E : XQ} {to te : DTE} {t : DTA} {d : D} {QA : List D → Store → Prop}
theorem c_sm1 {r : DM} (h : to ρ S (fun o S1 => (∃ a, o = .str a) ∧ te ρ S1 (fun d S2 => r o [d] S2 Q) E) E) : dSM1 r to te ρ S Q E := h
theorem o_strE {a : Str} {B : Prop} (h : B) : (∃ b, D.str a = .str b) ∧ B := ⟨⟨a, rfl⟩, h⟩
theorem o_slS {z : Str} {lo hi : Option Int} (hz : z.length ≤ sizeLine) (h : Q (.str (cutS z lo hi)) S) : dSlS (.str z) lo hi S Q := ⟨z, rfl, hz, h⟩
theorem o_inStr {c : Nat} {z : Str} {neg : Bool} (h : Q (.bl (neg ^^ decide (c ∈ z.cps.toList))) S) : dInStr neg (.str ⟨#[c]⟩) (.str z) S Q := ⟨c, z, rfl, rfl, h⟩
theorem s_str {R : List D → (Store → Prop) → Store → Prop} (h : te ρ S (fun d S1 => ∃ z : Str, d = .str z ∧ R (z.cps.toList.map fun c => D.str ⟨#[c]⟩) (fun _ => True) S1) E) : jStr te ρ S R E := h
theorem o_strI {P : Str → Prop} {a : Str} (h : P a) : ∃ z : Str, D.str a = .str z ∧ P z := ⟨a, rfl, h⟩
theorem o_lenS {z : Str} (hz : z.length ≤ sizeLine) (h : Q (.int z.length) S) : cLenS [.str z] S Q := ⟨z, rfl, hz, h⟩
theorem o_strS {a : Str} (h : Q (.str a) S) : cStr [.str a] S Q := .inr ⟨a, rfl, h⟩
theorem c_star (h : te ρ S (fun d S1 => ∃ xs, sqOf S1 d = some xs ∧ t ρ S1 (fun ds S2 => QA (xs ++ ds) S2) E) E) : dStar te t ρ S QA E := h
theorem c_revL (h : te ρ S (fun d S1 => ∃ xs, lsOf S1 d = some xs ∧ Q (.lst xs.reverse) S1) E) : dRevL te ρ S Q E := h
theorem c_isi2 {A B : String} (h : te ρ S (fun d S1 => ∃ tag, tagOf S1 d = some tag ∧ Q (.bl (isiT A tag || isiT B tag)) S1) E) : dIsi2 A B te ρ S Q E := h
theorem o_tagP {P : String → Prop} (c : plainD d = true) (h : P (tagD d)) : ∃ tag, tagOf S d = some tag ∧ P tag := ⟨_, tag_plain c, h⟩
end
end Dy
namespace Dy
open PySem PySem.Spec PyProof.Rows L2
end Dy
namespace Dy
open PySem PySem.Spec PyProof.Rows L2 LamX NdefX
/-- at c: a cell that holds v -/
def CellV (c : Addr) (v : V) : HO := .ext fun h => ∃ u, RelV v u ∧ h.IsCell c (some u)
end Dy
namespace Dy
open PySem PySem.Spec PyProof.Rows L2 LamX NdefX
end Dy
namespace Dy
open PySem PySem.Spec PyProof.Rows L2 LamX NdefX
/-- the cells cs stand, looked after -/
def HasC (H : Hp) (cs : List (Addr × V)) : Prop := (cs.map (·.1)).Nodup ∧ ∀ p ∈ cs, H p.1 = some (CellV p.1 p.2)
theorem HasC.out {H : Hp} {cs : List (Addr × V)} (C : HasC H cs) {b : Addr} {o : HO} (e : H b = some o) (h : ∀ c v, o ≠ CellV c v) : b ∉ cs.map (·.1) := fun m => by
  obtain ⟨p, mp, rfl⟩ := List.mem_map.mp m
  rw [C.2 p mp] at e
  exact h _ _ (Option.some.inj e).symm
end Dy
namespace Dy
open PySem PySem.Spec PyProof.Rows L2 LamX NdefX
end Dy
namespace Dy
open PySem PySem.Spec PyProof.Rows L2 LamX NdefX
end Dy
namespace Dy
open PySem PySem.Spec PyProof.Rows L2 LamX NdefX
end Dy
namespace Dy
open PySem PySem.Spec PyProof.Rows L2 LamX NdefX
end Dy
namespace Dy
open PySem PySem.Spec PyProof.Rows L2 LamX NdefX
end Dy
namespace Dy
open PySem PySem.Spec PyProof.Rows L2 LamX NdefX
end Dy
namespace Dy
open PySem PySem.Spec PyProof.Rows L2
structure OpsA (α : Type) where
  first : α
  chg : α → α
  frk : α → α × α
  jn : α → α → α
structure SM (α : Type) where
  kn : List (Nat × α)
  forks : Nat
section
variable {α : Type}
def SM.zero (o : OpsA α) : SM α := ⟨[(0, o.first)], 0⟩
def SM.at (o : OpsA α) (s : SM α) (i : Nat) : α := (kget s.kn i).getD o.first
def SM.act (o : OpsA α) (s : SM α) : Deed → SM α
  | .ch i => ⟨kput s.kn i (o.chg (s.at o i)), s.forks⟩
  | .fk i => ⟨kput (kput s.kn i (o.frk (s.at o i)).1) (s.forks + 1) (o.frk (s.at o i)).2, s.forks + 1⟩
  | .jn i j => ⟨kput (kdrop s.kn j) i (o.jn (s.at o i) (s.at o j)), s.forks⟩
  | .ls i => ⟨kdrop s.kn i, s.forks⟩
def SM.run (o : OpsA α) : List Deed → SM α → SM α
  | [], s => s
  | x :: r, s => SM.run o r (s.act o x)
structure SRel (h : HM) (s : SM α) : Prop where
  ks : keysN s.kn = h.ks
  fo : s.forks = h.forks
theorem SRel.act {o : OpsA α} {h : HM} {s : SM α} {x : Deed} {i : Nat} (r : SRel h s) (ok : h.ok x) : SRel (h.act i x) (s.act o x) := by
  cases x with
  | ch a =>
    refine ⟨?_, r.fo⟩
    show keysN (kput s.kn a _) = keysN (kput h.kn a _)
    have ok : a ∈ h.ks := ok
    rw [keys_put, keys_put, r.ks]
  | fk a =>
    refine ⟨?_, by show s.forks + 1 = h.forks + 1; rw [r.fo]⟩
    show keysN (kput (kput s.kn a _) (s.forks + 1) _) = keysN (kput h.kn (h.forks + 1) _)
    have ok : a ∈ h.ks := ok
    have ok' : a ∈ keysN s.kn := by rw [r.ks]; exact ok
    rw [keys_put, keys_put, keys_put, if_pos ok', r.ks, r.fo]
  | jn a b =>
    refine ⟨?_, r.fo⟩
    show keysN (kput (kdrop s.kn b) a _) = keysN (kput (kdrop h.kn b) a _)
    rw [keys_put, keys_put, keys_drop, keys_drop, r.ks]
  | ls a =>
    refine ⟨?_, r.fo⟩
    show keysN (kdrop s.kn a) = keysN (kdrop h.kn a)
    rw [keys_drop, keys_drop, r.ks]
/-- all values are good -/
def SM.Good (okv : α → Prop) (s : SM α) : Prop := ∀ i v, kget s.kn i = some v → okv v
structure OpsOk (o : OpsA α) (okv : α → Prop) : Prop where
  first : okv o.first
  chg : ∀ x, okv x → okv (o.chg x)
  frk : ∀ x, okv x → okv (o.frk x).1 ∧ okv (o.frk x).2
  jn : ∀ x y, okv x → okv y → okv (o.jn x y)
theorem SM.Good.at {o : OpsA α} {okv : α → Prop} {s : SM α} {i : Nat} (g : s.Good okv) (k : OpsOk o okv) : okv (s.at o i) := by
  unfold SM.at
  cases e : kget s.kn i with
  | none => exact k.first
  | some v => exact g i v e
theorem SM.Good.act {o : OpsA α} {okv : α → Prop} {s : SM α} (g : s.Good okv) (k : OpsOk o okv) (x : Deed) : (s.act o x).Good okv := fun i v e => by
  cases x with
  | ch a =>
    have e : kget (kput s.kn a (o.chg (s.at o a))) i = some v := e
    rw [kget_put] at e
    split at e
    · cases e; exact k.chg _ (g.at k)
    · exact g i v e
  | fk a =>
    have e : kget (kput (kput s.kn a (o.frk (s.at o a)).1) (s.forks + 1) (o.frk (s.at o a)).2) i = some v := e
    rw [kget_put] at e
    split at e
    · cases e; exact (k.frk _ (g.at k)).2
    · rw [kget_put] at e
      split at e
      · cases e; exact (k.frk _ (g.at k)).1
      · exact g i v e
  | jn a b =>
    have e : kget (kput (kdrop s.kn b) a (o.jn (s.at o a) (s.at o b))) i = some v := e
    rw [kget_put] at e
    split at e
    · cases e; exact k.jn _ _ (g.at k) (g.at k)
    · rw [kget_drop] at e
      split at e
      · cases e
      · exact g i v e
  | ls a =>
    have e : kget (kdrop s.kn a) i = some v := e
    rw [kget_drop] at e
    split at e
    · cases e
    · exact g i v e
end
end Dy
namespace Dy
open PySem PySem.Spec PyProof.Rows L2
/-- at a stands an error of the class C, its own dict at d -/
def IsErr (a C : Addr) (d : Option Addr) (o : HO) : Prop := ∃ φ, o = .ext φ ∧ ∀ h, φ h → ∃ (oe : Obj) (vs : Array Value), h.get? a = some oe ∧ Zc (.ref C) d oe ∧ oe.data = .fields vs
/-- o is a dict of the field f -/
def IsDct (dd : Addr) (f : Str) (v : V) (o : HO) : Prop := ∀ P w H h, ObjOk P w H h dd o → ∃ mA, h.Ns1 dd mA ∧ ∀ g, RelO ([(f, v)].lookup g) (mA g)
theorem exd_dct {dd : Addr} {f : Str} {v : V} : IsDct dd f v (exd dd [(f, v)]) := fun P w H h ⟨e, _, _⟩ => e
def Err0T (C : Addr) : Addr → List (Addr × HO) → List V → Prop := fun a os vs => vs = [] ∧ ∃ o, os = [(a, o)] ∧ IsErr a C none o
def Err1T (C : Addr) (f : Str) : Addr → List (Addr × HO) → List V → Prop := fun a os vs => ∃ dd v o u, vs = [v] ∧ os = [(a, o), (dd, u)] ∧ IsErr a C (some dd) o ∧ IsDct dd f v u
def err0D (C : Addr) : D := .im (Err0T C) []
def err1D (C : Addr) (f : Str) (x : D) : D := .im (Err1T C f) [x]
/-- an error of the class C -/
def errC (C : Addr) (d : D) : Prop := d = err0D C ∨ ∃ f x, d = err1D C f x
section
variable {X : Cx}
theorem pe_exc0 {C : Addr} {bmB : List Value} {B newId initId : String} {x : Str} {p pos : Pos} (F : ExcBaseFacts B newId initId bmB) (q : PySem.W.excIn X.K C bmB newId = true) (gC : X.mg x = some (.ref C)) (kC : PySem.W.keepIn X.K (.ref C) = true) (hg : Gl X x)
    (hdb : (x == ("__debug__" : Str)) = false := by decide) : PE X (.Call (.Name x p) [] [] pos) (fun _ H Q => ∀ a, H a = none → Q (.ref a) (upd H a (ExO (.ref C) a))) := by
  refine ⟨fun pins s σ H Q I h => ?_⟩
  refine wpAny_Call_Name_kw (ld_glob I hg gC (PySem.W.callWith_K0 I.kIn kC ?_) hdb)
  show wpAny _ _ (call (.ref C) []) _ _ _
  obtain ⟨bm, N, nm, qn, bs, hdct, sn, sub, ab, col, dd, k0, k1, k2, k3, k5, mN, hC, hN, hni, T⟩ := exc_obj I.kIn q
  refine wpAny_call_exc_subT F T hC hN hni (fun h' a hm => ?_) (Nat.zero_le _)
  have hn : H a = none := I.hok.gone hm.new
  obtain ⟨t, ht, _, _⟩ := hm.there
  exact ⟨.ref a, upd H a (ExO (.ref C) a), I.laidN hm.keeps hm.new hn (exO_ok ht ⟨rfl, rfl⟩ rfl rfl rfl (show 4 < 6 by decide)), rfl, h a hn⟩
def tMkV (C : Addr) (sp : Sp) (ta : TA) : TE := fun σ H Q => ta σ H fun vs H1 => vs.length ≤ 1000 ∧ ∀ a, H1 a = none → sp (.ref a :: vs) (upd H1 a (exo a C none)) (fun v H2 => v = .non ∧ Q (.ref a) H2) (fun _ _ _ => False)
/-- C(e, ..), C's own __init__ keeps what it is given -/
theorem pe_oex {CX : CXT} {x : Str} {e : Expr} {es : List Expr} {ta : TA} {p pos : Pos} {C fI : Addr} {k : Nat} {fd : FuncData} {ps : List Str} {sp : Sp} (T : OexC X.K C) (iC : PySem.W.findIn X.K (.ref C) "__init__" = some (some (.ref fI))) (tI : PySem.W.typeIn X.K (.ref fI) = some (.type "function"))
    (F1 : FnOk X.prog X.w X.K X.mg X.base CX k fI fd ps sp) (hr : Room (k + 1) X.A) (hb : Binds X.K fd ps []) (hx : Passes CX X (fun _ _ _ => False)) (hg : Gl X x) (hm : X.mg x = some (.ref C)) (ha : PA X (e :: es) ta)
    (hdb : (x == ("__debug__" : Str)) = false := by decide) (he : starEach (e :: es) X.env = (false, eval e X.env) :: starEach es X.env := by rfl) (hpl : (backTo pos (starEach es X.env)).any (·.1) = false := by rfl) :
    PE X (.Call (.Name x p) (e :: es) [] pos) (tMkV C sp ta) := by
  refine ⟨fun pins s σ H Q I h => ?_⟩
  obtain ⟨nm, q, N, bs, bm, sn, sub, ab, col, dd, k0, k1, k2, k3, k5, hC, hbm⟩ := T.cls
  refine wpAny_Call_Name_kw (ld_glob I hg hm ?_ hdb)
  refine PySem.W.callWith_K (h₀ := X.base) I.ok.mod.kin T.kC (thn (ha.run pos pins s σ H _ I h) fun us s1 ⟨vs, H1, I1, r1, hz, q1⟩ => ⟨I1.kIn, ?_⟩) he hpl
  show wpAny _ _ (call (.ref C) us) _ _ _
  obtain ⟨hp, g, dr, tk, os⟩ := s1
  have hsz : hp.objs.size ≤ hp.objs.size + 1 := Nat.le_succ _
  have hn : H1 (hp.objs.size + 1) = none := I1.hok.fresh hsz
  have hq := q1 (hp.objs.size + 1) hn
  have kk : ∀ b o, hp.get? b = some o → ((hp.push (PySem.W.kdv_tup us)).push (PySem.HandSPX.excO C hp.objs.size)).get? b = some o := fun b o e => Heap.get?_push_of_some _ (Heap.get?_push_of_some _ e)
  have hget : ((hp.push (PySem.W.kdv_tup us)).push (PySem.HandSPX.excO C hp.objs.size)).get? (hp.objs.size + 1) = some (PySem.HandSPX.excO C hp.objs.size) := by heap_get
  have I2 : Inv X pins σ (upd H1 (hp.objs.size + 1) (exo (hp.objs.size + 1) C none)) ⟨(hp.push (PySem.W.kdv_tup us)).push (PySem.HandSPX.excO C hp.objs.size), g, dr, tk, os⟩ :=
    I1.laid (t' := tk) (a := hp.objs.size + 1) (o := exo (hp.objs.size + 1) C none) (h' := (hp.push (PySem.W.kdv_tup us)).push (PySem.HandSPX.excO C hp.objs.size)) kk hsz (exo_ok hget)
  have r2 : Vals (V.ref (hp.objs.size + 1) :: vs) (Value.ref (hp.objs.size + 1) :: us) := .cons rfl r1
  have hl : (Value.ref (hp.objs.size + 1) :: us).length = ps.length := by
    have e := r2.length
    rw [F1.len _ _ _ _ hq] at e
    exact e.symm
  have hus : us.length ≤ sizeLine := by
    rw [← Paired.length r1, sizeLine_eq]
    omega
  have b2 := hb _ (Value.ref (hp.objs.size + 1) :: us) I2.kIn (by rw [List.append_nil]; exact hl)
  rw [List.append_nil] at b2
  refine wpAny_call (PySem.HandSPX.call_own F.excBase_ValueError (fun Y => PySem.HandSPX.refsVE_contains Y bm hbm) (I1.kIn _ _ hC) (PySem.W.looks_findIn I1.kIn iC) (fun self => PySem.W.bind_fn I1.kIn self tI) hus
    (codeAny_mono (F1.run _ X.stack _ _ ⟨Value.ref (hp.objs.size + 1) :: us, []⟩ (Value.ref (hp.objs.size + 1) :: us) _ _ (fun _ _ _ => False) (hr.make C us []) (I2.env0.make C us []) b2 r2 hq) fun r s' hq' => ?_))
  cases r with
  | error er => exact hx pins σ _ _ er s' I2 hq'
  | ok fl =>
    cases fl with
    | ret u =>
      obtain ⟨v, H2, os2, bare2, un2, hok2, rv, ev, q2⟩ := hq'
      subst ev
      obtain ⟨h2, g2, d2, t2, os'⟩ := s'
      exact ⟨rv, .ref (hp.objs.size + 1), H2, I2.call' (ch := []) os2 un2 hok2 bare2 (fun b z => absurd z (by simp)), rfl, q2⟩
    | next => exact False.elim hq'
    | brk => exact False.elim hq'
    | cont => exact False.elim hq'
/-- what is asked of the class of an error that is looked at -/
structure ErrI (K : PySem.W.Frag) (C : Addr) : Prop where
  cl : (PySem.W.clsIn K C).isSome = true
  hg : PySem.W.findIn K (.ref C) "__getattribute__" = some (some (.builtin "BaseException.__getattribute__"))
  hk : PySem.W.findIn K (.ref C) "__getattr__" = some none
  hs : PySem.W.subIn K (.ref C) (.type "BaseException") = some true
  ha : PySem.W.findIn K (.ref C) "__class__" = some (some (.builtin "object.__class__"))
  hn : PySem.W.specialIn K (.builtin "object.__class__") "__get__" = some (some (.builtin "getset_descriptor.__get__"))
  ht : PySem.W.takesIn K (.builtin "object.__class__") = some true
  hm : PySem.W.mroIn K C (.type "object") = some true
def rIsErr (K : PySem.W.Frag) : List V → Hp → VK → Prop := fun xs H Q => ∃ (a C : Addr) (d : Option Addr) (o : HO) (c : V) (cv : Value) (b : Bool), xs = [.ref a, c] ∧ H a = some o ∧ IsErr a C d o ∧ (∀ dd, d = some dd → ∃ f v u, H dd = some u ∧ IsDct dd f v u) ∧ ErrI K C ∧ (∀ u, RelV c u → u = cv) ∧ PySem.W.kitOne K (.ref C) cv = some b ∧ Q (.bl b) H
theorem err_inst {pins : List (Addr × Obj)} {σ : L2.St} {H : Hp} {s : Shared} {a C : Addr} {d : Option Addr} {o : HO} (I : Inv X pins σ H s) (e : H a = some o) (ie : IsErr a C d o) (id : ∀ dd, d = some dd → ∃ f v u, H dd = some u ∧ IsDct dd f v u) :
    ∃ oe od, PySem.W.InstAt s.heap a oe C od ∧ (∀ dd, d = some dd → ∀ f v u, H dd = some u → IsDct dd f v u → ∃ (o' : Obj) (mA : Str → Option Value), od = some o' ∧ (∀ n, PySem.W.lookIn n o' = some (mA n)) ∧ ∀ g, RelO ([(f, v)].lookup g) (mA g)) := by
  obtain ⟨φ, rfl, hφ⟩ := ie
  have hx : ObjOk X.prog X.w H s.heap a (.ext φ) := I.hok a _ e
  obtain ⟨oe, vs, h1, h2, h3⟩ := hφ _ hx.1
  obtain ⟨oc, odi, oda, osl⟩ := oe
  obtain ⟨z1, z2⟩ := h2
  dsimp only at z1 z2 h3
  subst z1 z2 h3
  cases odi with
  | none => exact ⟨_, none, ⟨h1, rfl, rfl, trivial⟩, fun dd z => by cases z⟩
  | some dd =>
    obtain ⟨f, v, u, hu, iu⟩ := id dd rfl
    obtain ⟨mA, hns, hr⟩ := iu _ _ _ _ (I.hok dd u hu)
    obtain ⟨od, ho, hl⟩ := lookIn_ns hns
    refine ⟨_, some od, ⟨h1, rfl, rfl, ho⟩, fun dd' z f' v' u' hu' iu' => ?_⟩
    cases z
    obtain ⟨mA', hns', hr'⟩ := iu' _ _ _ _ (I.hok dd u' hu')
    obtain ⟨od', ho', hl'⟩ := lookIn_ns hns'
    rw [ho] at ho'
    cases ho'
    exact ⟨od, mA', rfl, hl', hr'⟩
theorem call_isErr : CallR X (.builtin "isinstance") (rIsErr X.K) := by
  intro pins s σ H xs us Q I r h
  obtain ⟨a, C, d, o, c, cv, b, rfl, e, ie, id, T, hcv, hk, q⟩ := h
  cases r with
  | cons rx rr =>
    cases rr with
    | cons rt rr =>
      cases rr
      cases rx
      have ec := hcv _ rt
      subst ec
      obtain ⟨oe, od, J, _⟩ := err_inst I e ie id
      exact PySem.W.kia_one (PySem.W.kitx_exc T.cl T.hg T.hk T.hs T.ha T.hn T.ht T.hm) I.kIn J hk (fun z => nomatch z) fun tk => ⟨.bl b, H, I.kept (t' := tk) fun _ _ z => z, rfl, q⟩
/-- e.f, e an error that bears the field f -/
def tErrF (PC : Addr → Prop) (f : Str) (te : TE) : TE := fun σ H Q => te σ H fun x H1 => ∃ C a dd o u v, PC C ∧ x = .ref a ∧ H1 a = some o ∧ IsErr a C (some dd) o ∧ H1 dd = some u ∧ IsDct dd f v u ∧ Q v H1
theorem pe_errF {PC : Addr → Prop} {e : Expr} {te : TE} {pos : Pos} {n : Str} (TT : ∀ C, PC C → XfC X.K C ∧ PySem.W.findIn X.K (.ref C) n = some none) (he : PE X e te) (hb : attributeBase e n X.env (eval e X.env) = eval e X.env := by rfl) :
    PE X (.Attribute e n pos) (tErrF PC n te) := by
  refine ⟨fun pins s σ H Q I h => ?_⟩
  refine attr_of hb (thn (he.run pins s σ H _ I h) fun u s1 hh => ?_)
  obtain ⟨x, H1, I1, rx, C, a, dd, o, u', v, hPC, ex, ea, ie, eu, iu, q⟩ := hh
  obtain ⟨T, hno⟩ := TT C hPC
  subst ex
  obtain rfl : u = Value.ref a := rx
  obtain ⟨oe, od, J, hl⟩ := err_inst I1 ea ie (fun dd' z => by cases z; exact ⟨n, v, u', eu, iu⟩)
  obtain ⟨o', mA, rfl, hl, hr⟩ := hl dd rfl n v u' eu iu
  obtain ⟨w, hw, rw⟩ := RelO.some_of (v := v) (o := mA n) (by have := hr n; simpa using this)
  exact HandSPX.exc_get I1.kIn J T.ga T.gg T.exC (PySem.W.findObj_own T.hdC hno rfl (by rw [hl, hw])) (handed_of rw) ⟨v, H1, I1.tok _, rw, q⟩
end
section
variable {F : Fam} {W : WX} {e e2 : Expr} {te : DTE} {t : DTA} {x f : Str} {C fI : Addr} {p pos : Pos} {fd : FuncData} {k k2 : Nat}
def dErr0 (C : Addr) : DTE := fun _ S Q _ => Q (err0D C) S
theorem de_err0 (T : ErrN F.K C) (hm : ∀ i, (F.X i).mg x = some (.ref C)) (hg : ∀ i, Gl (F.X i) x := by intro _; rfl) (hdb : (x == ("__debug__" : Str)) = false := by decide) : DE F W (.Call (.Name x p) [] [] pos) (dErr0 C) := by
  refine ⟨fun _ H Q => ∀ a, H a = none → Q (.ref a) (upd H a (ExO (.ref C) a)), fun i => ?_, fun σ ρ φ S H E Q' Q o q h a ha => ?_⟩
  · have T' : ErrN (F.X i).K C := by rw [F.hK]; exact T
    exact pe_exc0 PySem.F.excBase_ValueError T'.ex (hm i) T'.kp (hg i) hdb
  · refine q φ _ S _ _ (step_new ha) (o.sr.new ha) ?_ h
    unfold err0D
    rw [RD]
    refine ⟨a, [(a, ExO (.ref C) a)], [], rfl, fun z mz => ?_, ⟨rfl, _, rfl, _, rfl, fun h ⟨oe, vs, h1, h2, h3, _⟩ => ⟨oe, vs, h1, h2, h3⟩⟩, .nil⟩
    rw [List.mem_singleton.mp mz]
    exact ⟨upd_same, o.sr.out ha, o.sr.outb ha⟩
def dErrF (C : Addr) (f : Str) (te : DTE) : DTE := fun ρ S Q E => te ρ S (fun d S1 => Q (err1D C f d) S1) E
theorem de_errF {P : Program} {w : World} {mg : Str → Option Value} {base : Heap} (c : CalE P w F.K mg base x C f) (hP : ∀ i, (F.X i).prog = P) (hw : ∀ i, (F.X i).w = w) (hmg : ∀ i, (F.X i).mg = mg) (hb : ∀ i, (F.X i).base = base) (hr : ∀ i, Room k2 (F.X i).A) (hk : 2 ≤ k2)
    (he : DE F W e te) (hg : ∀ i, Gl (F.X i) x := by intro _; rfl) (hdb : (x == ("__debug__" : Str)) = false := by decide)
    (hs : ∀ i, starEach [e] (F.X i).env = (false, eval e (F.X i).env) :: starEach [] (F.X i).env := by intro _; rfl) (hpl : ∀ i, (backTo pos (starEach [] (F.X i).env)).any (·.1) = false := by intro _; rfl) :
    DE F W (.Call (.Name x p) [e] [] pos) (dErrF C f te) := by
  obtain ⟨fI, fd, T, gm, G, bd⟩ := c
  obtain ⟨t1, p1, k1⟩ := he
  refine ⟨tMkV C (spEI C f) (tCons t1 tNil), fun i => ?_, fun σ ρ φ S H E Q' Q o q h => ?_⟩
  · have T' : OexC (F.X i).K C := by rw [F.hK]; exact T.oex
    exact pe_oex T' (by rw [F.hK]; exact T.init) (by rw [F.hK]; exact T.tI) (by have := G; rw [← hP i, ← hw i, ← hmg i, ← hb i, ← F.hK i] at this; exact this) ((hr i).mono hk) (by rw [F.hK i]; exact bd) passL (hg i) (by rw [hmg i]; exact gm) (pa_cons (p1 i) pa_nil (hs i)) hdb (hs i) (hpl i)
  · refine k1 σ ρ φ S H _ _ _ o (fun φ1 H1 S1 d v s1 r1 rd h1 => ?_) h
    refine ⟨by show 1 ≤ 1000; decide, fun a ha => ⟨a, v, rfl, upd_same, fun dx hdx ne => ⟨rfl, ?_⟩⟩⟩
    have hdx' : H1 dx = none := by rw [upd_ne ne] at hdx; exact hdx
    have eH : upd (upd (upd H1 a (exo a C none)) dx (exd dx [(f, v)])) a (exo a C (some dx)) = upd (upd H1 dx (exd dx [(f, v)])) a (exo a C (some dx)) := by
      funext b
      by_cases hba : b = a
      · subst hba; rw [upd_same, upd_same]
      · rw [upd_ne hba, upd_ne hba]
        by_cases hbd : b = dx
        · subst hbd; rw [upd_same, upd_same]
        · rw [upd_ne hbd, upd_ne hbd, upd_ne hba]
    rw [eH]
    have st1 : Step φ1 φ1 H1 (upd H1 dx (exd dx [(f, v)])) := step_new hdx'
    have ha' : (upd H1 dx (exd dx [(f, v)])) a = none := by rw [upd_ne (Ne.symm ne)]; exact ha
    have st2 : Step φ1 φ1 (upd H1 dx (exd dx [(f, v)])) (upd (upd H1 dx (exd dx [(f, v)])) a (exo a C (some dx))) := step_new ha'
    have r2 := r1.new (ho := exd dx [(f, v)]) hdx'
    have r3 := r2.new (ho := exo a C (some dx)) ha'
    refine q φ1 _ S1 _ _ ((s1.trans st1).trans st2) r3 ?_ h1
    unfold err1D
    rw [RD]
    refine ⟨a, [(a, exo a C (some dx)), (dx, exd dx [(f, v)])], [v], rfl, fun z mz => ?_, ⟨dx, v, _, _, rfl, rfl, ⟨_, rfl, fun h ⟨t1, h1⟩ => ⟨_, _, h1, ⟨rfl, rfl⟩, rfl⟩⟩, exd_dct⟩, .cons (RD.mono (st1.trans st2) r1.muts _ _ rd) .nil⟩
    rcases List.mem_cons.mp mz with rfl | mz
    · exact ⟨upd_same, r1.out ha, r1.outb ha⟩
    · rw [List.mem_singleton.mp mz]
      exact ⟨by show (upd _ a _) dx = _; rw [upd_ne ne, upd_same], r1.out hdx', r1.outb hdx'⟩
def cIsErr (kt : Addr → D → Bool → Prop) : DR := fun ds S Q => ∃ d c C b, ds = [d, c] ∧ errC C d ∧ kt C c b ∧ Q (.bl b) S
/-- kt tells whether C is under a class -/
def KitE (K : PySem.W.Frag) (kt : Addr → D → Bool → Prop) : Prop := ∀ C c b, kt C c b → ErrI K C ∧ ((∃ n, c = .ty n ∧ PySem.W.kitOne K (.ref C) (.type n) = some b) ∨ ∃ C2, c = .cls C2 ∧ PySem.W.kitOne K (.ref C) (.ref C2) = some b)
theorem lk_isErr {K : PySem.W.Frag} {kt : Addr → D → Bool → Prop} (hk : KitE K kt) : LkC K (cIsErr kt) (rIsErr K) := by
  rintro φ S H Q' Q ds vs r rd q ⟨d, c, C, b, rfl, hd, e, hq⟩
  obtain ⟨v, w, rfl, h1, h2⟩ := rds2 rd
  obtain ⟨T, hc⟩ := hk C c b e
  have fin : Q (.bl b) H := q φ H S _ _ .refl r rd_bl hq
  obtain ⟨cv, hcv, hkit⟩ : ∃ cv, (∀ u, RelV w u → u = cv) ∧ PySem.W.kitOne K (.ref C) cv = some b := by
    rcases hc with ⟨n, rfl, hk⟩ | ⟨C2, rfl, hk⟩
    · rw [RD] at h2
      subst h2
      exact ⟨.type n, fun u z => z, hk⟩
    · rw [RD] at h2
      subst h2
      exact ⟨.ref C2, fun u z => z, hk⟩
  rcases hd with rfl | ⟨f, x, rfl⟩
  · unfold err0D at h1
    rw [RD] at h1
    obtain ⟨a, os, vs, rfl, ko, ⟨rfl, o, rfl, ie⟩, _⟩ := h1
    exact ⟨a, C, none, o, w, cv, b, rfl, (ko (a, o) (by simp)).1, ie, fun dd z => (by cases z), T, hcv, hkit, fin⟩
  · unfold err1D at h1
    rw [RD] at h1
    obtain ⟨a, os, vs, rfl, ko, ⟨dd, v, o, u, rfl, rfl, ie, iu⟩, _⟩ := h1
    exact ⟨a, C, some dd, o, w, cv, b, rfl, (ko (a, o) (by simp)).1, ie, fun d' z => (by cases z; exact ⟨f, v, u, (ko (dd, u) (by simp)).1, iu⟩), T, hcv, hkit, fin⟩
theorem dc_isErr {kt : Addr → D → Bool → Prop} (hk : KitE F.K kt) (hm : ∀ i, (F.X i).mg "isinstance" = none) (ha : DA F W [e, e2] t) (hg : ∀ i, Gl (F.X i) "isinstance" := by intro _; rfl) (he : St1 F e [e2] := by intro _; rfl) (hp : Pl1 F pos [e2] := by intro _; rfl) :
    DE F W (.Call (.Name "isinstance" p) [e, e2] [] pos) (dCB (cIsErr kt) t) := de_callB (fun i => by have := call_isErr (X := F.X i); rw [F.hK i] at this; exact this) (lk_isErr hk) hg hm bt_isinstance ha (he := he) (hpl := hp)
def oErrF (PC : Addr → Prop) (f : Str) (d : D) (S : Store) (Q : QD) : Prop := ∃ C x, PC C ∧ d = err1D C f x ∧ Q x S
def dErrGet (PC : Addr → Prop) (f : Str) (te : DTE) : DTE := fun ρ S Q E => te ρ S (fun d S1 => oErrF PC f d S1 Q) E
theorem de_errGet {PC : Addr → Prop} (T : ∀ C, PC C → XfC F.K C ∧ PySem.W.findIn F.K (.ref C) f = some none) (he : DE F W e te) (hb : ∀ i, attributeBase e f (F.X i).env (eval e (F.X i).env) = eval e (F.X i).env := by intro _; rfl) : DE F W (.Attribute e f pos) (dErrGet PC f te) := by
  obtain ⟨t1, p1, k1⟩ := he
  refine ⟨tErrF PC f t1, fun i => pe_errF (by rw [F.hK]; exact T) (p1 i) (hb i), fun σ ρ φ S H E Q' Q o q h => ?_⟩
  refine k1 σ ρ φ S H _ _ _ o (fun φ1 H1 S1 d v s1 r1 rd h1 => ?_) h
  obtain ⟨C, x, hPC, rfl, hq⟩ := h1
  unfold err1D at rd
  rw [RD] at rd
  obtain ⟨a, os, vs, rfl, ko, ⟨dd, v, o', u, rfl, rfl, ie, iu⟩, rx⟩ := rd
  obtain ⟨v', r, e, rv, _⟩ := rx
  cases e
  exact ⟨C, a, dd, o', u, v, hPC, rfl, (ko (a, o') (by simp)).1, ie, (ko (dd, u) (by simp)).1, iu, q φ1 H1 S1 x v s1 r1 rv hq⟩
theorem o_isErr {kt : Addr → D → Bool → Prop} {d c : D} {C : Addr} {b : Bool} {S : Store} {Q : QD} (hd : errC C d) (e : kt C c b) (h : Q (.bl b) S) : cIsErr kt [d, c] S Q := ⟨d, c, C, b, rfl, hd, e, h⟩
theorem c_err0 {C : Addr} {ρ : Rho} {S : Store} {Q : QD} {E : XQ} (h : Q (err0D C) S) : dErr0 C ρ S Q E := h
theorem c_errF {C : Addr} {f : Str} {te : DTE} {ρ : Rho} {S : Store} {Q : QD} {E : XQ} (h : te ρ S (fun d S1 => Q (err1D C f d) S1) E) : dErrF C f te ρ S Q E := h
theorem c_errGet {PC : Addr → Prop} {f : Str} {te : DTE} {ρ : Rho} {S : Store} {Q : QD} {E : XQ} (h : te ρ S (fun d S1 => oErrF PC f d S1 Q) E) : dErrGet PC f te ρ S Q E := h
theorem o_errF {PC : Addr → Prop} {f : Str} {C : Addr} {x : D} {S : Store} {Q : QD} (hC : PC C) (h : Q x S) : oErrF PC f (err1D C f x) S Q := ⟨C, x, hC, rfl, h⟩
end
def rOr (r1 r2 : R2) : R2 := fun x y H Q => r1 x y H Q ∨ r2 x y H Q
theorem oq_or {F : Fam} {op : Value → Value → Sem Value} {r1 r2 : R2} (h1 : ∀ i : F.ι, OpR (F.X i) op r1) (h2 : ∀ i : F.ι, OpR (F.X i) op r2) (i : F.ι) : OpR (F.X i) op (rOr r1 r2) := by
  intro pins s σ H x y u v Q I rx ry h
  rcases h with h | h
  · exact h1 i pins s σ H x y u v Q I rx ry h
  · exact h2 i pins s σ H x y u v Q I rx ry h
theorem lk_or {K : PySem.W.Frag} {d1 d2 : D2} {r1 r2 : R2} (h1 : Lk K d1 r1) (h2 : Lk K d2 r2) : Lk K (fun x y S Q => d1 x y S Q ∨ d2 x y S Q) (rOr r1 r2) := by
  rintro φ S H Q' Q x y v1 v2 r ra rb q (h | h)
  · exact .inl (h1 φ S H Q' Q x y v1 v2 r ra rb q h)
  · exact .inr (h2 φ S H Q' Q x y v1 v2 r ra rb q h)
end Dy
namespace Dy
open PySem PySem.Spec PyProof.Rows L2 SrtO
def dSortSetB (te : DTE) : DTE := fun ρ S Q E => te ρ S (fun d S1 => ∃ ns : List Int, d = .tup (ns.map .int) ∧ ns.length ≤ 1000 ∧ ∀ ns' : List Int, ns'.Pairwise (· < ·) → (∀ k, k ∈ ns' ↔ k ∈ ns) → Q (.lst (ns'.map .int)) S1) E
theorem c_sortSetB {te : DTE} {ρ : Rho} {S : Store} {Q : QD} {E : XQ} (h : te ρ S (fun d S1 => ∃ ns : List Int, d = .tup (ns.map .int) ∧ ns.length ≤ 1000 ∧ ∀ ns' : List Int, ns'.Pairwise (· < ·) → (∀ k, k ∈ ns' ↔ k ∈ ns) → Q (.lst (ns'.map .int)) S1) E) : dSortSetB te ρ S Q E := h
end Dy
namespace Dy
open PySem PySem.Spec PyProof.Rows L2
open L2H (RoomH Hot1 PinOk HotC PIH TurnH cxH inv_startH)
/-- what a def promises where p's error is handled -/
structure FnP (P : Program) (w : World) (K : PySem.W.Frag) (mg : Str → Option Value) (base : Heap) (CX : CXT) (k : Nat) (f : Addr) (fd : FuncData) (ps : List Str) (p : Addr × Obj) (sp : Sp) : Prop where
  len : ∀ vs H Q E, sp vs H Q E → vs.length = ps.length
  run : ∀ (A : Around) (outer : List Env) (s : Shared) (H : Hp) (args : Args) (us : List Value) (vs : List V) (Q : VK) (E : XK), RoomH k A → Hot1 A p → PinOk outer H s p → Env0 P w K mg base A outer s H → BindsTo s fd args (ps.zip us) → Vals vs us → sp vs H Q E →
    codeAny (model P w) A (.call (.ref f) args) (CR CX outer P w H s Q E) s
theorem fn_ofP {CX : CXT} {P : Program} {w : World} {K : PySem.W.Frag} {mg : Str → Option Value} {base : Heap} {k : Nat} {f : Addr} {name qual : Str} {params : Arguments} {body : List Stmt} {scope : Scope} {dV kV doc pm cdv ct oc : Value} {an od : Option Addr}
    {osl : Array (Option Value)} {N ps : List Str} {sp : Sp} {p : Addr × Obj} (lk : K.lookup f = some ⟨oc, od, .func (PySem.W.fnOf name qual params body scope dV kV doc pm an cdv ct), osl⟩) (hcd : PySem.W.codeIn K cdv qual = true) (S : FnScope N ps scope)
    (len : ∀ vs H Q E, sp vs H Q E → vs.length = ps.length)
    (hbody : ∀ (A : Around) (outer : List Env) (s : Shared) (H : Hp) (vs : List V) (Q : VK) (E : XK), Hot1 A p → RoomH k (A.deeper (envOfC qual scope s.heap.objs.size f cdv)) → sp vs H Q E →
      ∃ t, PSs (cxH CX P w K mg base N qual scope f cdv A outer s H E p) body t ∧ t { nx := fun _ H' => Q .non H', rt := Q } (L2.start N vs) H) :
    FnP P w K mg base CX (k + 1) f (PySem.W.fnOf name qual params body scope dV kV doc pm an cdv ct) ps p sp := by
  constructor
  · exact len
  intro A outer s H args us vs Q E hr hot hpin e0 hb r hsp
  have old : ∀ {b : Addr} {o : Obj}, base.get? b = some o → s.heap.get? b = some o := fun {b o} e => (e0.bs b o e).1
  have text : K.In s.heap := e0.mod.kin.keeps fun _ _ e => old e
  -- every parameter is a local, or stands in a cell
  have places : ∀ y ∈ ps.zip us, scope.names.lookup y.1 = some .local ∨ (scope.names.lookup y.1 = some .cell ∧ ((cellsFrom (s.heap.objs.size + 1) scope.names []).lookup y.1).isSome = true) := by
    intro y hy
    have hz : y.1 ∈ ps := (List.of_mem_zip (show (y.1, y.2) ∈ ps.zip us from hy)).1
    exact (S.par y.1 hz).imp id fun q => ⟨q, PySem.W.cellsFrom_some _ _ _ (.inl q)⟩
  refine codeAny_call_function hr.depth (text _ _ lk) rfl S.co S.gen rfl (PySem.W.codeRec_of text hcd) (hb _ _ _ _ ?_)
  refine wpAny_newFunctionEnv_cells S.kind places fun env he s1 x => ?_
  subst he
  refine ⟨(e0.mod.nolimit.keeps fun _ _ e => old e).keeps x.toInCall.keep, codeAny_func ?_⟩
  obtain ⟨t, ht, hq⟩ := hbody A outer s H vs Q E hot (hr.deeper _) hsp
  refine wpAny_mono (ht.run [] s1 (L2.start N vs) H _ (inv_startH S hpin e0 (len _ _ _ _ hsp) r x) hq) (fun fl s' hs => ?_) fun _ _ z => z
  cases fl with
  | brk => exact hs.elim fun _ h => h.elim fun _ h => h.2.elim
  | cont => exact hs.elim fun _ h => h.elim fun _ h => h.2.elim
  | next =>
    obtain ⟨_, H', J, q⟩ := hs
    exact ⟨.non, H', J.os, J.bare, J.base, J.hok, rfl, q⟩
  | ret u =>
    obtain ⟨v, _, H', J, rv, q⟩ := hs
    exact ⟨v, H', J.os, J.bare, J.base, J.hok, rv, q⟩
/-- the context bears p's error, handled -/
def HotP (X : Cx) (p : Addr × Obj) : Prop := Hot1 X.A p ∧ p ∈ X.pn
section
variable {X : Cx} {CX : CXT} {k : Nat} {f : Addr} {fd : FuncData} {ps : List Str} {sp : Sp} {E : L2.St → XK} {x : Str} {q pos : Pos} {e : Expr} {es : List Expr} {t : TA} {p : Addr × Obj}
theorem pe_callP (F : FnP X.prog X.w X.K X.mg X.base CX k f fd ps p sp) (hr : RoomH k X.A) (hc : HotP X p) (hg : Gl X x) (hm : X.mg x = some (.ref f)) (hk : PySem.W.keepIn X.K (.ref f) = true) (hb : Binds X.K fd ps []) (hx : ∀ σ, PassesAt CX X σ (E σ))
    (ha : PA X (e :: es) t) (hdb : (x == ("__debug__" : Str)) = false := by decide) (he : starEach (e :: es) X.env = (false, eval e X.env) :: starEach es X.env := by rfl) (hpl : (backTo pos (starEach es X.env)).any (·.1) = false := by rfl) :
    PE X (.Call (.Name x q) (e :: es) [] pos) (tCallS sp E t) := by
  refine ⟨fun pins s σ H Q I h => ?_⟩
  refine wpAny_Call_Name_kw (ld_glob I hg hm ?_ hdb)
  refine PySem.W.callWith_K (h₀ := X.base) I.ok.mod.kin hk (thn (ha.run pos pins s σ H _ I h) fun us s1 ⟨vs, H1, I1, r, q⟩ => ⟨I1.kIn, ?_⟩) he hpl
  obtain ⟨hot, hp⟩ := hc
  obtain ⟨g1, g2, g3, g4, g5⟩ := I1.pin p (List.mem_append_left _ hp)
  have pin : PinOk X.stack H1 s1 p := ⟨g1, g2, fun m => by
    rcases List.mem_cons.mp (I1.stkSub p.1 m) with z | z
    · exact g3 z
    · exact g4 z, g5⟩
  have bind : BindsTo s1 fd ⟨us, []⟩ (ps.zip us) := by
    have len : us.length = ps.length := r.length.symm.trans (F.len _ _ _ _ q)
    simpa using hb s1 us I1.kIn (by simpa using len)
  show wpAny _ _ (call (.ref f) us) _ _ _
  refine wpAny_call (codeAny_mono (F.run X.A X.stack s1 H1 ⟨us, []⟩ us vs Q (E σ) hr hot pin I1.env0 bind r q) fun res s' hq => ?_)
  match res, hq with
  | .error e, hq => exact hx σ pins H1 s1 e s' I1 hq
  | .ok (.ret u), hq => exact I1.after hq
end
abbrev blkH (X : Cx) (s : Shared) (H : Hp) (scope : Scope) (cenv : Env) (fp : List Addr) : Cx := { X.blk s H scope cenv fp with pn := X.pn }
theorem Inv.pned {X : Cx} {pn : List (Addr × Obj)} {σ : L2.St} {H : Hp} {s : Shared} (I : Inv X [] σ H s) (h : ∀ p ∈ pn, s.heap.get? p.1 = some p.2 ∧ H p.1 = none ∧ p.1 ≠ X.env.locals ∧ p.1 ∉ X.fs ∧ ∀ v, p.2.data ≠ .cell v) : Inv { X with pn := pn } [] σ H s :=
  ⟨⟨I.ok.mod, I.ok.kind, I.ok.glob, I.ok.blt, I.ok.above, I.ok.inj, I.ok.has, I.ok.cab, I.ok.hd, I.ok.frames, I.ok.stk, I.ok.exf, I.ok.bs, I.ok.bsz, I.ok.noex, I.ok.exfs, I.ok.funs, I.ok.frf⟩,
    I.os, I.bare, I.base, I.loc, I.cell, I.free, I.freeC, fun p hp => h p (by simpa using (show p ∈ pn ++ [] from hp)), I.hok, I.len⟩
section
variable {X : Cx}
theorem blkH_start {pins : List (Addr × Obj)} {σ : L2.St} {H : Hp} {s : Shared} {scope : Scope} {own : List (Str × Nat)} {fp : List Addr} (I : Inv X pins σ H s) (ok : BlkOk X.N X.env.scope scope own) (hN : X.N.Nodup) (hfp : ∀ b ∈ fp, FpOk X pins H b ∧ b < s.heap.objs.size) :
    Inv (blkH X s H scope (compEnvC scope (cellsFrom (s.heap.objs.size + 1) scope.names (cloFrom X.env.cells scope.names [])) s.heap.objs.size X.env) fp) [] (wipe σ (own.map (·.2))) H { s with heap := pushCells (s.heap.push { cls := .type "dict", data := .dict #[] }) scope.names } := by
  refine Inv.pned (block_start I ok hN hfp) fun p hp => ?_
  obtain ⟨h1, h2, h3, h4, h5⟩ := I.pin p (List.mem_append_left _ hp)
  refine ⟨pushCells_keeps _ _ _ _ (Heap.get?_push_of_some _ h1), h2, Nat.ne_of_lt (Heap.lt_size h1), fun hm => ?_, h5⟩
  exact (List.mem_cons.mp (I.stkSub p.1 hm)).elim h3 h4
/-- where a block's loop stands ahead of a turn: m is what is left by the measure -/
def Ahead (Y : Cx) (w : L2.St) (fp : List Addr) (tn : Nat → Heap → Prop) (W : Nat → Nat → Hp → Prop) (m : Nat) (s : Shared) : Prop := ∃ i H, W i m H ∧ (∀ b ∈ fp, H b = none) ∧ tn i s.heap ∧ Inv Y [] w H s
/-- a block's context, its iterator's objects and its pins known -/
structure BlkS (X Y : Cx) (fp : List Addr) : Prop where
  hot : HotC Y
  clear : ∀ p ∈ Y.pn, ∀ b ∈ fp, p.1 ≠ b
  ex : Y.ex = fp
section
variable {Y : Cx} {w : L2.St} {fp : List Addr} {tn : Nat → Heap → Prop} {W : Nat → Nat → Hp → Prop} {tg elt : Expr} {ifs : List Expr} {J : It} {it : Addr} {g : TG} {tt : TT} {te : TE} {D : Addr}
theorem BlkS.fp_ok (B : BlkS X Y fp) {σ : L2.St} {H : Hp} {s : Shared} (I : Inv Y [] σ H s) (hn : ∀ b ∈ fp, H b = none) : ∀ b ∈ fp, FpOk Y [] H b := by
  intro b hb
  have he : b ∈ Y.ex := B.ex ▸ hb
  obtain ⟨x1, x2⟩ := I.ok.exf b he
  exact ⟨hn b hb, x1, I.ok.exfs b he, .inl he, x2, fun p hp => B.clear p (by rw [List.append_nil] at hp; exact hp) b hb⟩
/-- one turn: an item comes, is bound, tested, made into an element, appended -/
theorem turn_go (B : BlkS X Y fp) (T : TurnH Y.prog Y.w Y.K tg J fp it tn) {vs : List Nat} {σ0 : L2.St} (hw : w = wipe σ0 vs) {i m : Nat} {H : Hp} {s : Shared} {env : Env} (henv : env = Y.env) {E : Value → Shared → Prop} (I : Inv Y [] w H s) (st : tn i s.heap) (hn : ∀ b ∈ fp, H b = none) (go : J.go i H)
    (pg : PG Y tg g) (pt : PTs Y ifs tt) (pe : PE Y elt te) (hxe : ∀ v s, ¬ Y.xe v s)
    (h : ∃ Nx : Hp → Prop, (∀ H', Nx H' → ∃ m', m' < m ∧ W (i + 1) m' H') ∧ ∀ x H', J.yld i H x H' → g x (wipe σ0 vs) H' fun σ2 H2 => wipe σ2 vs = wipe σ0 vs ∧ tt σ2 H2 fun b H3 =>
      if b = true then te σ2 H3 fun y H4 => ∃ acc, H4 D = some (.lst acc) ∧ acc.length < sizeLine ∧ Nx (upd H4 D (.lst (acc ++ [y]))) else Nx H3) :
    wpAny (model Y.prog Y.w) Y.A (pyNext (.ref it)) (fun r s₁ => ∃ v, r = some v ∧ wpAny (model Y.prog Y.w) Y.A (letOwnedTupleGo tg (.ref it) v) (fun _ s₁' => wpAny (model Y.prog Y.w) Y.A (assign tg env v) (fun _ s₂ =>
      wpAny (model Y.prog Y.w) Y.A (forIn ifs true fun c r => if r = true then do let ok ← isTrue c env (eval c env); pure (ForInStep.yield ok) else pure (ForInStep.yield r)) (fun ok s₃ =>
        if ok = true then wpAny (model Y.prog Y.w) Y.A (eval elt env) (fun x s₄ => wpAny (model Y.prog Y.w) Y.A (call (.builtin "list.append") [.ref D, x]) (fun _ s₅ => ∃ m', m' < m ∧ Ahead Y w fp tn W m' s₅) E s₄) E s₃
        else ∃ m', m' < m ∧ Ahead Y w fp tn W m' s₃) E s₂) E s₁') E s₁) E s := by
  subst henv
  obtain ⟨Nx, less, step⟩ := h
  have never : ∀ (v : Value) (s : Shared), Y.xe v s → E v s := fun v s z => absurd z (hxe v s)
  -- what the turn ends in
  have close : ∀ {s7 s9 : Shared} {σ9 : L2.St} {H9 : Hp}, tn (i + 1) s7.heap → wipe σ9 vs = wipe σ0 vs → Inv Y ([] ++ pinsAt fp s7.heap) σ9 H9 s9 → Nx H9 → ∃ m', m' < m ∧ Ahead Y w fp tn W m' s9 := by
    intro s7 s9 σ9 H9 st7 hσ I9 nx
    obtain ⟨m', lt, w'⟩ := less H9 nx
    have pin : ∀ b ∈ fp, ∀ o, s7.heap.get? b = some o → s9.heap.get? b = some o ∧ H9 b = none := fun b hb o e => by
      have z := I9.pin (b, o) (List.mem_append_right _ (List.mem_append_right _ (mem_pinsAt hb e)))
      exact ⟨z.1, z.2.1⟩
    subst hw
    refine ⟨m', lt, i + 1, H9, w', fun b hb => ?_, T.keep _ _ _ st7 fun b hb o e => (pin b hb o e).1, (I9.unpinned (pins := [])).weak (by rw [← hσ, wipe_length]) fun j v e => ?_⟩
    · obtain ⟨o, e, _⟩ := T.obj _ _ st7 b hb
      exact (pin b hb o e).2
    · rw [← hσ] at e
      exact (wipe_some e).1
  refine wpAny_mono (T.item Y rfl rfl rfl B.hot i [] s w H E I (B.fp_ok I hn) st go) (fun r s6 hr => ?_) fun _ _ z => z
  obtain ⟨v, rfl, h6⟩ := hr
  refine ⟨v, rfl, wpAny_mono h6 (fun _ s7 h7 => ?_) fun _ _ z => z⟩
  obtain ⟨x, H7, I7, r7, y7, st7, n7⟩ := h7
  have I7' := I7.pinned (B.fp_ok I7 n7) (T.obj _ _ st7)
  subst hw
  refine wpAny_mono (pg.run _ s7 _ H7 x v _ I7' r7 (step x H7 y7)) (fun _ s8 h8 => ?_) never
  obtain ⟨σ8, H8, I8, hσ, q8⟩ := h8
  refine wpAny_mono (pt.run _ s8 σ8 H8 _ I8 q8) (fun b s9 h9 => ?_) never
  obtain ⟨H9, I9, q9⟩ := h9
  cases b with
  | false => exact close st7 hσ I9 q9
  | true =>
    refine wpAny_mono (pe.run _ s9 σ8 H9 _ I9 q9) (fun z s10 h10 => ?_) never
    obtain ⟨yv, H10, I10, r10, acc, hD, hz, nx⟩ := h10
    exact app_ok I10 hD hz r10 fun s11 I11 => close st7 hσ I11 nx
end
theorem pe_lcH {elt tg iter : Expr} {ifs : List Expr} {scope : Scope} {own : List (Str × Nat)} {pos : Pos} {wi : TI} {g : TG} {tt : TT} {te : TE} (hc : HotC X) (hN : X.N.Nodup) (hi : PIH X tg iter wi) (ok : BlkOk X.N X.env.scope scope own)
    (hg : ∀ (s : Shared) (H : Hp) (C : Addr) (cl : List (Str × Addr)) (fp : List Addr), PG (blkH X s H scope (compEnvC scope cl C X.env) fp) tg g) (ht : ∀ (s : Shared) (H : Hp) (C : Addr) (cl : List (Str × Addr)) (fp : List Addr), PTs (blkH X s H scope (compEnvC scope cl C X.env) fp) ifs tt)
    (he : ∀ (s : Shared) (H : Hp) (C : Addr) (cl : List (Str × Addr)) (fp : List Addr), PE (blkH X s H scope (compEnvC scope cl C X.env) fp) elt te) (hs : ∀ x, foldedSetIterable iter X.env x = pure x := by intro _; rfl) :
    PE X (.ListComp elt [⟨tg, iter, ifs, 0⟩] scope pos) (tLc wi g tt te (own.map (·.2))) := by
  refine ⟨fun pins s σ H Q I h => ?_⟩
  rw [eval_ListComp]
  have cells : ∀ y ∈ scope.names, y.2 = .free → ∃ c, X.env.cells.lookup y.1 = some c := fun y hy e => (ok.free y hy e).elim (fun z => I.ok.has _ (.inl z)) fun z => I.ok.has _ (.inr z)
  refine wpAny_comprehension_free rfl hs (closure_ok cells) ok.kind (fun y hy e => by rw [ok.uniq y hy, e]) (thn (hi.run pins s σ H _ I h) fun xv s1 hx => thn hx fun itv s2 h2 => ?_)
  obtain ⟨it, fp, tn, J, H2, rfl, I2, T, st2, f2, q⟩ := h2
  -- the list is new, then the block is entered
  refine wpAny_newObj_type (newEnv_comp ?_) (by show 0 ≤ sizeLine; decide)
  obtain ⟨W, ⟨m0, w0⟩, turn⟩ := q s2.heap.objs.size (I2.hok.fresh (Nat.le_refl _))
  have I3 : Inv X pins σ (upd H2 s2.heap.objs.size (.lst [])) { s2 with heap := s2.heap.push { cls := .type "list", data := .seq ([] : List Value).toArray } } :=
    I2.laid (t' := s2.toks) (fun b o e => Heap.get?_push_of_some _ e) (Nat.le_refl _) ⟨Nat.zero_le _, [], 0, .nil, Heap.get?_push_size _ rfl⟩
  have older : ∀ b ∈ fp, b < s2.heap.objs.size := fun b hb => by
    obtain ⟨o, e, _⟩ := T.obj _ _ st2 b hb
    exact Heap.lt_size e
  have f3 : ∀ b ∈ fp, FpOk X pins (upd H2 s2.heap.objs.size (.lst [])) b ∧ b < (s2.heap.push { cls := .type "list", data := .seq ([] : List Value).toArray }).objs.size := fun b hb =>
    ⟨⟨by rw [upd_ne (Nat.ne_of_lt (older b hb))]; exact (f2 b hb).1, (f2 b hb).2⟩, by rw [Heap.size_push]; exact Nat.lt_succ_of_lt (older b hb)⟩
  have st3 : tn 0 (s2.heap.push { cls := .type "list", data := .seq ([] : List Value).toArray }) := T.keep _ _ _ st2 fun b _ o e => Heap.get?_push_of_some _ e
  generalize hD : s2.heap.objs.size = D at *
  generalize hs3 : ({ s2 with heap := s2.heap.push { cls := .type "list", data := .seq ([] : List Value).toArray } } : Shared) = s3 at I3 ⊢
  have h3 : s2.heap.push { cls := .type "list", data := .seq ([] : List Value).toArray } = s3.heap := by rw [← hs3]
  rw [h3] at f3 st3
  generalize hH3 : upd H2 D (.lst []) = H3 at *
  have I4 := blkH_start I3 ok hN f3
  have pg := hg s3 H3 s3.heap.objs.size (cellsFrom (s3.heap.objs.size + 1) scope.names (cloFrom X.env.cells scope.names [])) fp
  have pt := ht s3 H3 s3.heap.objs.size (cellsFrom (s3.heap.objs.size + 1) scope.names (cloFrom X.env.cells scope.names [])) fp
  have pe := he s3 H3 s3.heap.objs.size (cellsFrom (s3.heap.objs.size + 1) scope.names (cloFrom X.env.cells scope.names [])) fp
  show codeAny _ _ (.compStart _ 0 (.ref it) (.ref D) (compEnvC scope (cellsFrom (s3.heap.objs.size + 1) scope.names (cloFrom X.env.cells scope.names [])) s3.heap.objs.size X.env)) _ { s3 with heap := pushCells (s3.heap.push { cls := .type "dict", data := .dict #[] }) scope.names }
  have eC : (compEnvC scope (cellsFrom (s3.heap.objs.size + 1) scope.names (cloFrom X.env.cells scope.names [])) s3.heap.objs.size X.env).locals = s3.heap.objs.size := rfl
  generalize compEnvC scope (cellsFrom (s3.heap.objs.size + 1) scope.names (cloFrom X.env.cells scope.names [])) s3.heap.objs.size X.env = ce at I4 pg pt pe eC ⊢
  have st4 : tn 0 (pushCells (s3.heap.push { cls := .type "dict", data := .dict #[] }) scope.names) := T.keep _ _ _ st3 fun b _ o e => pushCells_keeps _ _ _ _ (Heap.get?_push_of_some _ e)
  have B : BlkS X (blkH X s3 H3 scope ce fp) fp := ⟨hc, fun p hp b hb => (f3 b hb).1.2.2.2.2.2 p (List.mem_append_left _ hp), rfl⟩
  have loop : codeAny (model X.prog X.w) X.A (.compLoop (.ListComp elt [⟨tg, iter, ifs, 0⟩] scope pos) 0 (.ref it) (.ref D) ce) (compPost (model X.prog X.w) X.A X.xe none (EP X pins σ Q) (.ref D) s3.heap.objs.size) { s3 with heap := pushCells (s3.heap.push { cls := .type "dict", data := .dict #[] }) scope.names } := by
    refine compLoop_any (fun n s' => Ahead (blkH X s3 H3 scope ce fp) (wipe σ (own.map (·.2))) fp tn W n s') ?_ m0 ⟨0, H3, w0, fun b hb => (f3 b hb).1.1, st4, I4⟩
    rintro n s5 ⟨i, H5, w5, n5, st5, I5⟩
    rcases turn i n H5 w5 with ⟨stop, qq⟩ | ⟨go, nx⟩
    · refine wpAny_mono (T.done (blkH X s3 H3 scope ce fp) rfl rfl rfl B.hot i [] s5 _ H5 _ I5 (B.fp_ok I5 n5) st5 stop) (fun r s6 hr => ?_) fun _ _ z => z
      obtain ⟨rfl, I6⟩ := hr
      -- out of the block again
      have I7 : Inv X pins σ H5 s6 := I3.call' (ch := fp) I6.os I6.base I6.hok I6.bare fun b hb => by
        obtain ⟨_, x1, x2, x3, x4, x5⟩ := (f3 b hb).1
        exact ⟨x3, x1, x4, x5⟩
      obtain ⟨m, ns, _⟩ := I6.loc
      have ns : s6.heap.Ns ce.locals m := ns
      have fr : H5 ce.locals = none := I6.free
      rw [eC] at ns fr
      obtain ⟨_, y1, y2, y3, y4, y5⟩ : FpOk X pins H5 s3.heap.objs.size := I3.fpOk (Nat.le_refl _) fr
      exact ⟨m, ns, fun h' sb => ⟨.ref D, H5, I7.turned (t' := s6.toks) (fun b o hb e => (sb.2 b hb).trans e) fr y1 y3 y4 y5, rfl, qq⟩⟩
    · refine wpAny_mono (turn_go B T rfl rfl I5 st5 n5 go pg pt pe (fun _ _ z => z) nx) (fun r s6 hr => ?_) fun _ _ z => z
      obtain ⟨v, rfl, hv⟩ := hr
      exact hv
  exact codeAny_compStart_list loop (T.self X.A 0 _ _ _ st4 loop)
def rIsP (K : PySem.W.Frag) (C a : Addr) (d : Option Addr) : List V → Hp → VK → Prop := fun xs H Q => ∃ (c : V) (cv : Value) (b : Bool), xs = [.ref a, c] ∧ (∀ u, RelV c u → u = cv) ∧ PySem.W.kitOne K (.ref C) cv = some b ∧ (∀ d', d = some d' → ∃ fs, H d' = some (.xd fs)) ∧ Q (.bl b) H
theorem pin_inst {pins : List (Addr × Obj)} {σ : L2.St} {H : Hp} {s : Shared} {a C : Addr} {oe : Obj} {d : Option Addr} (I : Inv X pins σ H s) (hp : (a, oe) ∈ X.pn) (hz : Zc (.ref C) d oe) (hf : ∃ vs, oe.data = .fields vs) (hd : ∀ d', d = some d' → ∃ fs, H d' = some (.xd fs)) :
    ∃ od, PySem.W.InstAt s.heap a oe C od ∧ ∀ d', d = some d' → ∃ o', od = some o' ∧ s.heap.get? d' = some o' := by
  obtain ⟨hget, _⟩ := I.pin (a, oe) (List.mem_append_left _ hp)
  obtain ⟨vs, hv⟩ := hf
  obtain ⟨oc, odi, oda, osl⟩ := oe
  obtain ⟨z1, z2⟩ := hz
  dsimp only at z1 z2 hv
  subst z1 z2 hv
  cases odi with
  | none => exact ⟨none, ⟨hget, rfl, rfl, trivial⟩, fun d' z => by cases z⟩
  | some dd =>
    obtain ⟨fs, hfs⟩ := hd dd rfl
    have hx : ObjOk X.prog X.w H s.heap dd (.xd fs) := I.hok dd _ hfs
    obtain ⟨mA, hns, hr⟩ := hx
    obtain ⟨od, ho, hl⟩ := lookIn_ns hns
    exact ⟨some od, ⟨hget, rfl, rfl, ho⟩, fun d' z => by cases z; exact ⟨od, rfl, ho⟩⟩
theorem call_isP {a C : Addr} {oe : Obj} {d : Option Addr} (T : ErrI X.K C) (hp : (a, oe) ∈ X.pn) (hz : Zc (.ref C) d oe) (hf : ∃ vs, oe.data = .fields vs) : CallR X (.builtin "isinstance") (rIsP X.K C a d) := by
  intro pins s σ H xs us Q I r h
  obtain ⟨c, cv, b, rfl, hcv, hk, hd, q⟩ := h
  cases r with
  | cons rx rr =>
    cases rr with
    | cons rt rr =>
      cases rr
      cases rx
      have ec := hcv _ rt
      subst ec
      obtain ⟨od, J, _⟩ := pin_inst I hp hz hf hd
      exact PySem.W.kia_one (PySem.W.kitx_exc T.cl T.hg T.hk T.hs T.ha T.hn T.ht T.hm) I.kIn J hk (fun z => nomatch z) fun tk => ⟨.bl b, H, I.kept (t' := tk) fun _ _ z => z, rfl, q⟩
def tXfP (K : PySem.W.Frag) (C a : Addr) (d : Option Addr) (f : Str) (te : TE) : TE := fun σ H Q => te σ H fun x H1 => x = .ref a ∧ PySem.W.findIn K (.ref C) f = some none ∧ ∃ (dd : Addr) (fs : List (Str × V)) (v : V), d = some dd ∧ H1 dd = some (.xd fs) ∧ fs.lookup f = some v ∧ Q v H1
theorem pe_xfP {a C : Addr} {oe : Obj} {d : Option Addr} {e : Expr} {te : TE} {pos : Pos} {n : Str} (T : XfC X.K C) (hp : (a, oe) ∈ X.pn) (hz : Zc (.ref C) d oe) (hf : ∃ vs, oe.data = .fields vs) (he : PE X e te) (hb : attributeBase e n X.env (eval e X.env) = eval e X.env := by rfl) :
    PE X (.Attribute e n pos) (tXfP X.K C a d n te) := by
  refine ⟨fun pins s σ H Q I h => ?_⟩
  refine attr_of hb (thn (he.run pins s σ H _ I h) fun u s1 hh => ?_)
  obtain ⟨x, H1, I1, rx, ex, hno, dd, fs, v, ed, ea, l, q⟩ := hh
  subst ex
  obtain rfl : u = Value.ref a := rx
  subst ed
  obtain ⟨od, J, hod⟩ := pin_inst I1 hp hz hf (fun d' z => by cases z; exact ⟨fs, ea⟩)
  obtain ⟨o', rfl, ho'⟩ := hod dd rfl
  have hx : ObjOk X.prog X.w H1 s1.heap dd (.xd fs) := I1.hok dd _ ea
  obtain ⟨mA, hns, hr⟩ := hx
  obtain ⟨od, ho, hl⟩ := lookIn_ns hns
  rw [ho] at ho'
  cases ho'
  obtain ⟨u, hu, ru⟩ := RelO.some_of (v := v) (o := mA n) (by rw [← l]; exact hr n)
  exact HandSPX.exc_get I1.kIn J T.ga T.gg T.exC (PySem.W.findObj_own T.hdC hno rfl (by rw [hl, hu])) (handed_of ru) ⟨v, H1, I1.tok _, ru, q⟩
end
end Dy
namespace Dy
open PySem PySem.Spec PyProof.Rows L2
open L2H (RoomH Hot1 PinOk HotC PIH cxH)
/-- every context of the family bears the handled error at a, of the class C, its dict at d -/
structure HotF (F : Fam) (a C : Addr) (d : Option Addr) : Prop where
  at_ : ∀ i, ∃ oe, L2N.Zn (.ref C) d oe ∧ (∃ vs, oe.data = .fields vs) ∧ HotP (F.X i) (a, oe)
def Fam.blkP (F : Fam) (scope : Scope) : Fam :=
  ⟨F.ι × Shared × Hp × Addr × List (Str × Addr) × List Addr, fun j => blkH (F.X j.1) j.2.1 j.2.2.1 scope (compEnvC scope j.2.2.2.2.1 j.2.2.2.1 (F.X j.1).env) j.2.2.2.2.2, F.K, fun j => F.hK j.1⟩
theorem HotF.blk {F : Fam} {a C : Addr} {d : Option Addr} (h : HotF F a C d) {scope : Scope} : HotF (F.blkP scope) a C d := ⟨fun j => h.at_ j.1⟩
/-- a def as its callers know it, where the error at a is handled -/
def CalP (P : Program) (w : World) (K : PySem.W.Frag) (mg : Str → Option Value) (base : Heap) (x : Str) (k : Nat) (ps : List Str) (a C : Addr) (d : Option Addr) (sp : DSp) : Prop :=
  ∃ f fd, (∀ oe, L2N.Zn (.ref C) d oe → (∃ vs, oe.data = .fields vs) → FnP P w K mg base (L2.CX P w) k f fd ps (a, oe) (liftSp K sp)) ∧ mg x = some (.ref f) ∧ PySem.W.keepIn K (.ref f) = true ∧ Binds K fd ps []
abbrev CalPF (F : Fam) (x : Str) (k : Nat) (ps : List Str) (a C : Addr) (d : Option Addr) (sp : DSp) : Prop := ∀ i, CalP (F.X i).prog (F.X i).w (F.X i).K (F.X i).mg (F.X i).base x k ps a C d sp
section
variable {F : Fam} {W : WX} {e e2 elt iter : Expr} {es ifs : List Expr} {t : DTA} {te : DTE} {tt : DTT} {ti : DTI} {p pos : Pos} {k k2 : Nat} {x f : Str} {ps : List Str} {sp : DSp} {a C : Addr} {d : Option Addr}
theorem de_callP (c : CalPF F x k ps a C d sp) (hot : HotF F a C d) (hr : ∀ i, RoomH k2 (F.X i).A) (hk : k ≤ k2) (tk : ∀ i, Takes (F.X i) W) (ha : DA F W (e :: es) t) (hg : ∀ i, Gl (F.X i) x := by intro _; rfl) (hdb : (x == ("__debug__" : Str)) = false := by decide) (he : St1 F e es := by intro _; rfl) (hp : Pl1 F pos es := by intro _; rfl) :
    DE F W (.Call (.Name x p) (e :: es) [] pos) (dCall sp t) := by
  obtain ⟨t1, p1, k1⟩ := ha
  refine ⟨tCallS (liftSp F.K sp) (WE W) t1, fun i => ?_, fun σ ρ φ S H E Q' Q o q h => k1 σ ρ φ S H E _ _ o (fun φ1 H1 S1 ds vs s1 r1 rd h1 => call_link (o.mono s1 r1) (q.mono s1) rd h1) h⟩
  obtain ⟨f, fd, G, gm, kp, bd⟩ := c i
  obtain ⟨oe, z, fv, hp'⟩ := hot.at_ i
  have G := G oe z fv
  rw [F.hK i] at G
  have G' : FnP (F.X i).prog (F.X i).w (F.X i).K (F.X i).mg (F.X i).base (L2.CX (F.X i).prog (F.X i).w) k f fd ps (a, oe) (liftSp F.K sp) := by rw [F.hK i]; exact G
  exact pe_callP G' ((hr i).mono hk) hp' (hg i) gm kp bd (fun σ => passAt (tk i) σ) (p1 i) hdb (he i) (hp i)
/-- what a comprehension walks over there -/
def DIP (F : Fam) (W : WX) (tg iter : Expr) (t' : DTI) : Prop :=
  ∃ wi : TI, (∀ i, PIH (F.X i) tg iter wi) ∧ ∀ σ ρ φ S H E R' R, Ok F.K W σ ρ φ S H E → (∀ φ1 H1 S1 xs live J, Step φ φ1 H H1 → SR F.K φ1 S1 H1 → WalkD F.K J xs live φ1 H1 → R' xs live S1 → R J H1) → t' ρ S R' E → wi σ H R
theorem di_rng1P {tg a : Expr} {p pos : Pos} (hg : ∀ i, Gl (F.X i) "range") (hm : ∀ i, (F.X i).mg "range" = none) (ha : DA F W [a] t) (hs : ∀ i, starEach [a] (F.X i).env = [(false, eval a (F.X i).env)] := by intro _; rfl) : DIP F W tg (.Call (.Name "range" p) [a] [] pos) (jRng1 t) := by
  obtain ⟨t1, p1, k1⟩ := ha
  refine ⟨_, fun i => L2H.pi_range1H (hg i) (hm i) (p1 i) (hs i), fun σ ρ φ S H E R' R o q h => ?_⟩
  refine k1 σ ρ φ S H E _ _ o (fun φ1 H1 S1 ds vs s1 r1 rd h1 => ?_) h
  obtain ⟨j, rfl, b1, b2, h1⟩ := h1
  obtain ⟨v, rfl, hv⟩ := rds1 rd
  rw [RD] at hv
  subst hv
  exact ⟨j, rfl, b1, b2, q φ1 H1 S1 _ _ _ s1 r1 walk_rng h1⟩
theorem de_lcP {y : Str} {py : Pos} {scope : Scope} (i : Nat) (hot : HotF F a C d) (hN : ∀ j, (F.X j).N.Nodup) (hi : DIP F W (.Name y py) iter ti) (ok : ∀ j, BlkOk (F.X j).N (F.X j).env.scope scope [(y, i)]) (ht : DTs (F.blkP scope) W0 ifs tt) (he : DE (F.blkP scope) W0 elt te)
    (hg : ∀ j, PG ((F.blkP scope).X j) (.Name y py) (gName i)) (hs : ∀ j v, foldedSetIterable iter (F.X j).env v = pure v := by intro _ _; rfl) :
    DE F W (.ListComp elt [⟨.Name y py, iter, ifs, 0⟩] scope pos) (dLc ti (c1 i) tt te) := by
  obtain ⟨wi, p1, k1⟩ := hi
  obtain ⟨t2, p2, k2⟩ := ht
  obtain ⟨t3, p3, k3⟩ := he
  refine ⟨_, fun j => pe_lcH (own := [(y, i)]) ?_ (hN j) (p1 j) (ok j) (fun s H C cl fp => hg (j, s, H, C, cl, fp)) (fun s H C cl fp => p2 (j, s, H, C, cl, fp)) (fun s H C cl fp => p3 (j, s, H, C, cl, fp)) (hs j), lc_link (tgl_1 i) k1 k2 k3⟩
  obtain ⟨oe, z, fv, h1, h2⟩ := hot.at_ j
  exact ⟨_, h1, h2⟩
/-- the handled error as a value -/
def exOf (a : Addr) (d : Option Addr) (e : D) : Prop := match d with
  | none => e = .cls a
  | some d' => ∃ ks xs, e = .exo a d' ks xs
def cIsP (a C : Addr) (d : Option Addr) (kt : Addr → D → Bool → Prop) : DR := fun ds S Q => ∃ e c b, ds = [e, c] ∧ exOf a d e ∧ kt C c b ∧ Q (.bl b) S
theorem lk_isP {K : PySem.W.Frag} {kt : Addr → D → Bool → Prop} (hk : KitE K kt) : LkC K (cIsP a C d kt) (rIsP K C a d) := by
  rintro φ S H Q' Q ds vs r rd q ⟨e, c, b, rfl, hd, hkt, hq⟩
  obtain ⟨v, w, rfl, h1, h2⟩ := rds2 rd
  obtain ⟨T, hc⟩ := hk C c b hkt
  have fin : Q (.bl b) H := q φ H S _ _ .refl r rd_bl hq
  obtain ⟨cv, hcv, hkit⟩ : ∃ cv, (∀ u, RelV w u → u = cv) ∧ PySem.W.kitOne K (.ref C) cv = some b := by
    rcases hc with ⟨n, rfl, hk⟩ | ⟨C2, rfl, hk⟩
    · rw [RD] at h2
      subst h2
      exact ⟨.type n, fun u z => z, hk⟩
    · rw [RD] at h2
      subst h2
      exact ⟨.ref C2, fun u z => z, hk⟩
  cases d with
  | none =>
    cases hd
    rw [RD] at h1
    subst h1
    exact ⟨w, cv, b, rfl, hcv, hkit, fun d' z => (by cases z), fin⟩
  | some d' =>
    obtain ⟨ks, xs, rfl⟩ := hd
    rw [RD] at h1
    obtain ⟨us, rfl, g1, _⟩ := h1
    exact ⟨w, cv, b, rfl, hcv, hkit, fun d2 z => (by cases z; exact ⟨_, g1⟩), fin⟩
theorem dc_isP {kt : Addr → D → Bool → Prop} (hk : KitE F.K kt) (hot : HotF F a C d) (T : ErrI F.K C) (hm : ∀ i, (F.X i).mg "isinstance" = none) (ha : DA F W [e, e2] t) (hg : ∀ i, Gl (F.X i) "isinstance" := by intro _; rfl) (he : St1 F e [e2] := by intro _; rfl) (hp : Pl1 F pos [e2] := by intro _; rfl) :
    DE F W (.Call (.Name "isinstance" p) [e, e2] [] pos) (dCB (cIsP a C d kt) t) := de_callB (fun i => by
      obtain ⟨oe, z, fv, _, h2⟩ := hot.at_ i
      have := call_isP (X := F.X i) (by rw [F.hK i]; exact T) h2 z.zc fv
      rw [F.hK i] at this
      exact this) (lk_isP hk) hg hm bt_isinstance ha (he := he) (hpl := hp)
def oXfP (K : PySem.W.Frag) (C a : Addr) (d : Option Addr) (f : Str) (v : D) (S1 : Store) (Q : QD) : Prop := PySem.W.findIn K (.ref C) f = some none ∧ ∃ dd ks xs u, d = some dd ∧ v = .exo a dd ks xs ∧ (ks.zip xs).lookup f = some u ∧ Q u S1
def dXfP (K : PySem.W.Frag) (C a : Addr) (d : Option Addr) (f : Str) (te : DTE) : DTE := fun ρ S Q E => te ρ S (fun v S1 => oXfP K C a d f v S1 Q) E
theorem de_xfP (hot : HotF F a C d) (T : XfC F.K C) (he : DE F W e te) (hb : ∀ i, attributeBase e f (F.X i).env (eval e (F.X i).env) = eval e (F.X i).env := by intro _; rfl) : DE F W (.Attribute e f pos) (dXfP F.K C a d f te) := by
  obtain ⟨t1, p1, k1⟩ := he
  refine ⟨tXfP F.K C a d f t1, fun i => ?_, fun σ ρ φ S H E Q' Q o q h => ?_⟩
  · obtain ⟨oe, z, fv, _, h2⟩ := hot.at_ i
    have := pe_xfP (X := F.X i) (n := f) (pos := pos) (by rw [F.hK i]; exact T) h2 z.zc fv (p1 i) (hb i)
    rw [F.hK i] at this
    exact this
  · refine k1 σ ρ φ S H _ _ _ o (fun φ1 H1 S1 v u s1 r1 rd h1 => ?_) h
    obtain ⟨hno, dd, ks, xs, x, rfl, rfl, hl, hq⟩ := h1
    rw [RD] at rd
    obtain ⟨us, rfl, g1, g2, g3⟩ := rd
    obtain ⟨y, hy, ry⟩ := zip_lookup g3 hl
    exact ⟨rfl, hno, dd, _, y, rfl, g1, hy, q φ1 H1 S1 x y s1 r1 ry hq⟩
end
section
variable {P : Program} {w : World} {K : PySem.W.Frag} {mg : Str → Option Value} {base : Heap}
abbrev bodyP (P : Program) (w : World) (K : PySem.W.Frag) (mg : Str → Option Value) (base : Heap) (N : List Str) (qual : Str) (sc : Scope) (f : Addr) (cdv : Value) (A : Around) (outer : List Env) (s : Shared) (H : Hp) (E : XK) (p : Addr × Obj) : Cx :=
  cxH (L2.CX P w) P w K mg base N qual sc f cdv A outer s H E p
theorem bodyTkP {N : List Str} {qual : Str} {sc : Scope} {f : Addr} {cdv : Value} {A : Around} {outer : List Env} {s : Shared} {H : Hp} {E : XK} {p : Addr × Obj} : Takes (bodyP P w K mg base N qual sc f cdv A outer s H E p) (fun cls d _ H => E cls d H) := takes_of rfl rfl rfl rfl
theorem dfnP {x qual : Str} {st : Stmt} {f : Addr} {fd : FuncData} {N ps : List Str} {k : Nat} {sp : DSp} {a C : Addr} {d : Option Addr} {oe : Obj} (z : L2N.Zn (.ref C) d oe) (fv : ∃ vs, oe.data = .fields vs) (F : Fun K x qual st f fd) (S : FnScope N ps (defScope st)) (len : ∀ ds S Q E, sp ds S Q E → ds.length = ps.length)
    (body : ∀ (cdv : Value) (A : Around) (outer : List Env) (s : Shared) (H : Hp) (E : XK), HotF (Fam.one (bodyP P w K mg base N qual (defScope st) f cdv A outer s H E (a, oe))) a C d → RoomH k (A.deeper (envOfC qual (defScope st) s.heap.objs.size f cdv)) →
      ∃ t, DSs (Fam.one (bodyP P w K mg base N qual (defScope st) f cdv A outer s H E (a, oe))) (fun cls d _ H => E cls d H) (defBody st) t ∧
        ∀ ds S Q E, sp ds S Q E → t { nx := fun _ S' => Q .non S', rt := Q, ex := fun x _ S' => E x S' } (startD N ds) S) :
    FnP P w K mg base (L2.CX P w) (k + 1) f fd ps (a, oe) (liftSp K sp) := by
  obtain ⟨oc, od, kV, doc, pm, an, cdv, ct, osl, rfl, lk, hcd⟩ := F.ex
  refine fn_ofP lk hcd S (fun vs H Q E h => ?_) (fun A outer s H vs Q E hot hr h => ?_)
  · obtain ⟨φ, S, ds, Q', E', _, rd, h, _⟩ := h
    rw [rd.length]
    exact len ds S Q' E' h
  · obtain ⟨φ, S0, ds, Q', E', r, rd, h, q, ex⟩ := h
    obtain ⟨t, ⟨t1, p1, k1⟩, ht⟩ := body cdv A outer s H E ⟨fun _ => ⟨oe, z, fv, hot, List.mem_cons_self⟩⟩ hr
    refine ⟨t1, p1 (), ?_⟩
    refine k1 (L2.start N vs) (startD N ds) φ S0 H _ _ r ?_ ?_ (ht ds S0 Q' E' h)
    · unfold L2.start startD
      rw [rd.length]
      exact start_sl rd
    · exact ⟨fun φ' H' S' ρ' σ' s r' _ h => q _ _ _ _ _ s r' rd_non h, fun φ' H' S' d v s r' rd h => q _ _ _ _ _ s r' rd h, fun _ _ _ _ _ _ _ _ h => h.elim, fun _ _ _ _ _ _ _ _ h => h.elim,
        fun φ' H' S' ρ' σ' x cls d s r' _ xr h => ex _ _ _ _ _ _ s r' xr h⟩
end
section
variable {F : Fam}
theorem oq_eqU (hu : ∀ i, (F.X i).A.units + 64 < cLine) (i : F.ι) : OpR (F.X i) (compareOp .Eq) (rEqP F.K false) := F.hK i ▸ op_eqP (hu i)
theorem oq_neU (hu : ∀ i, (F.X i).A.units + 64 < cLine) (i : F.ι) : OpR (F.X i) (compareOp .NotEq) (rEqP F.K true) := F.hK i ▸ op_neP (hu i)
theorem oq_eqDictU (hu : ∀ i, (F.X i).A.units + 64 < cLine) (i : F.ι) : OpR (F.X i) (compareOp .Eq) (rDictEq F.K false) := F.hK i ▸ op_eqDict (hu i)
end
theorem roomH_units {k : Nat} {A : Around} (r : RoomH k A) : A.units + 64 < cLine := by have := r.un; omega
def Fam.trN (F : Fam) (W' : WX) : Fam := ⟨Σ' (i : F.ι) (pn : List (Addr × Obj)) (xe : Value → Shared → Prop), L2N.Takes ((F.X i).tr pn xe) W' ∧ PassesOwn (model (F.X i).prog (F.X i).w) (F.X i).A (F.X i).env xe, fun j => (F.X j.1).tr j.2.1 j.2.2.1, F.K, fun j => F.hK j.1⟩
def Fam.suN (F : Fam) (a : Addr) (cls : Value) (d : Option Addr) : Fam := ⟨Σ' (i : F.ι) (oe : Obj) (pn : List (Addr × Obj)), L2N.Zn cls d oe ∧ ∃ vs, oe.data = .fields vs, fun j => (F.X j.1).suite a ((a, j.2.1) :: j.2.2.1), F.K, fun j => F.hK j.1⟩
theorem hot_suN {F : Fam} {a C : Addr} {d : Option Addr} : HotF (F.suN a (.ref C) d) a C d := ⟨fun j => by
  obtain ⟨i, oe, pn, z, fv⟩ := j
  obtain ⟨vs, hv⟩ := fv
  exact ⟨oe, z, ⟨vs, hv⟩, ⟨rfl, vs, hv, z.2.2 vs hv⟩, List.mem_cons_self⟩⟩
def dTryN (em : Addr → Option Bool) (i : Nat) (tb : DTS) (ts : Addr → Exc → Option Addr → DTS) : DTS := fun D ρ S =>
  tb { D with ex := fun x ρ1 S1 => em x.C = some true ∧ ∀ a d, d.isSome = x.fs.isSome → ts a x d { D with nx := fun ρ2 S2 => D.nx (ρ2.set i none) S2, bk := fun ρ2 S2 => D.bk (ρ2.set i none) S2, ct := fun ρ2 S2 => D.ct (ρ2.set i none) S2, ex := fun _ _ _ => False } (ρ1.set i (some (exV a d x))) S1 } ρ S
section
variable {F : Fam} {W : WX} {x n : Str} {c : Value} {body suite : List Stmt} {b0 : Stmt} {np pos pos' pos2 p : Pos} {tb : DTS} {ts : Addr → Exc → Option Addr → DTS}
theorem ds_tryN (i : Nat) {em : Addr → Option Bool} (hem : ∀ C b, em C = some b → PySem.W.exmOne F.K (.ref C) c = some b) (hs : ∀ j, (F.X j).stack = (F.X j).env :: (F.X j).outer) (hf : ∀ j, (F.X j).env.frame = some (F.X j).env.locals) (hN : ∀ j, (F.X j).N.Nodup)
    (hc : ∀ j, Names (F.X j) x c) (hb : ∀ W', DSs (F.trN W') W' body tb) (hsu : ∀ a x d, DSs (F.suN a (.ref x.C) d) W0 (b0 :: suite) (ts a x d))
    (hi : ∀ j, (F.X j).N[i]? = some n := by intro _; rfl) (hln : ∀ j, (F.X j).env.kindOf n = some .local := by intro _; rfl) :
    DS F W (.Try body [.ExceptHandler (some (.Name x np)) (some n) (b0 :: suite) pos'] [] [] pos) (dTryN em i tb ts) := by
  have hb' : ∀ W', ∃ t : TS, (∀ j, PSs ((F.trN W').X j) body t) ∧ ∀ σ ρ φ S H D' D, SR F.K φ S H → Sl F.K φ H ρ σ → Lnk F.K W' φ H D' D → tb D' ρ S → t D σ H := hb
  let tsV : Addr → Value → Option Addr → TS := fun a cls d D σ H => ∃ y : Exc, cls = .ref y.C ∧ (Classical.choose (hsu a y d)) D σ H
  have hsV : ∀ (j : F.ι) (a : Addr) (oe : Obj) (cls : Value) (d : Option Addr) (pn : List (Addr × Obj)), L2N.Zn cls d oe → (∃ vs, oe.data = .fields vs) → PSs ((F.X j).suite a ((a, oe) :: pn)) (b0 :: suite) (tsV a cls d) := by
    intro j a oe cls d pn z fv
    refine ⟨fun pins s σ H D I h => ?_⟩
    obtain ⟨y, rfl, h⟩ := h
    exact ((Classical.choose_spec (hsu a y d)).1 ⟨j, oe, pn, z, fv⟩).run pins s σ H D I h
  let Wn : WX := fun _ _ _ _ => False
  refine ⟨fun D σ H => (Classical.choose (hb' (wAs F.K c i tsV Wn D))) D σ H, fun j => ?_, fun σ ρ φ S H D' D r sl l h => ?_⟩
  · have := L2N.ps_try_as (X := F.X j) (i := i) (tb := fun W' => Classical.choose (hb' W')) (ts := tsV) (Wout := Wn) (pos := pos) (pos' := pos') (np := np) (hs j) (hf j) (hN j) (hi j) (hln j) (hc j) (fun u s' ⟨_, _, _, _, _, _, _, _, _, _, _, _, _, _, _, _, q⟩ => q.elim) (fun W' pn xe tk' pa => (Classical.choose_spec (hb' W')).1 ⟨j, pn, xe, tk', pa⟩) (hsV j)
    rw [F.hK j] at this
    exact this
  · refine (Classical.choose_spec (hb' (wAs F.K c i tsV Wn D))).2 σ ρ φ S H { D' with ex := fun x ρ1 S1 => em x.C = some true ∧ ∀ a d, d.isSome = x.fs.isSome → ts a x d { D' with nx := fun ρ2 S2 => D'.nx (ρ2.set i none) S2, bk := fun ρ2 S2 => D'.bk (ρ2.set i none) S2, ct := fun ρ2 S2 => D'.ct (ρ2.set i none) S2, ex := fun _ _ _ => False } (ρ1.set i (some (exV a d x))) S1 } D r sl ⟨l.nx, l.rt, l.bk, l.ct, ?_⟩ h
    intro φ1 H1 S1 ρ1 σ1 y cls d s1 r1 sl1 xr hh
    obtain ⟨eb, h1⟩ := hh
    have ec : cls = .ref y.C := xr.1
    subst ec
    refine ⟨true, hem _ _ eb, fun e a ha => ⟨y, rfl, ?_⟩, fun e => by cases e⟩
    refine (Classical.choose_spec (hsu a y d)).2 _ _ φ1 S1 H1 _ _ r1 (sl1.set (exV_rd xr a)) ?_ (h1 a d xr.some)
    have l1 := l.mono s1
    exact ⟨fun _ _ _ _ _ s r sl q => l1.nx _ _ _ _ _ s r sl.unset q, l1.rt, fun _ _ _ _ _ s r sl q => l1.bk _ _ _ _ _ s r sl.unset q, fun _ _ _ _ _ s r sl q => l1.ct _ _ _ _ _ s r sl.unset q, fun _ _ _ _ _ _ _ _ _ _ _ _ z => z.elim⟩
theorem trN_tk {W' : WX} (j : (F.trN W').ι) : L2N.Takes ((F.trN W').X j) W' := j.2.2.2.1
theorem pmk_own0N {X : Cx} {C : Addr} {bmB : List Value} {B newId initId : String} {x : Str} {p pos : Pos} (EF : ExcBaseFacts B newId initId bmB) (q : PySem.W.excIn X.K C bmB newId = true) (gC : X.mg x = some (.ref C)) (kC : PySem.W.keepIn X.K (.ref C) = true) (r : Raises X (.ref C)) (hg : Gl X x)
    (hdb : (x == ("__debug__" : Str)) = false) : L2N.PMk X (.Call (.Name x p) [] [] pos) (fun _ H Q => Q (.ref C) none H) := by
  intro pins s σ H Q I h
  refine wpAny_Call_Name_kw (ld_glob I hg gC (PySem.W.callWith_K0 I.kIn kC ?_) hdb)
  show wpAny _ _ (call (.ref C) []) _ _ _
  obtain ⟨bm, N, nm, qn, bs, hdct, sn, sub, ab, col, dd, k0, k1, k2, k3, k5, mN, hC, hN, hni, T⟩ := exc_obj I.kIn q
  exact wpAny_call_exc_subT EF T hC hN hni (fun h' e hm => L2N.mk_of I hm r h (I.hok.gone hm.new)) (Nat.zero_le _)
theorem ds_raise0N {C : Addr} (hc : ∀ i, (F.X i).calm = true) (T : ErrN F.K C) (tk : ∀ i, L2N.Takes (F.X i) W) (hm : ∀ i, (F.X i).mg x = some (.ref C)) (hg : ∀ i, Gl (F.X i) x := by intro _; rfl) (hdb : (x == ("__debug__" : Str)) = false := by decide) :
    DS F W (.Raise (some (.Call (.Name x p) [] [] pos)) none pos2) (dRaise0 C) := by
  refine ⟨fun _ σ H => W (.ref C) none σ H, fun i => ?_, fun σ ρ φ S H D' D r sl l h => l.ex _ _ _ _ _ ⟨C, none⟩ _ _ .refl r sl ⟨rfl, rfl⟩ h⟩
  have T' : ErrN (F.X i).K C := by rw [F.hK]; exact T
  exact L2N.ps_raise (hc i) (tk i) (pmk_own0N PySem.F.excBase_ValueError T'.ex (hm i) T'.kp T'.raises (hg i) hdb)
theorem pmk_oexN {X : Cx} {CX : CXT} {x : Str} {e : Expr} {es : List Expr} {ta : TA} {p pos : Pos} {C fI : Addr} {k : Nat} {fd : FuncData} {ps : List Str} {sp : Sp} (T : OexC X.K C) (iC : PySem.W.findIn X.K (.ref C) "__init__" = some (some (.ref fI))) (tI : PySem.W.typeIn X.K (.ref fI) = some (.type "function"))
    (F1 : FnOk X.prog X.w X.K X.mg X.base CX k fI fd ps sp) (hr : Room (k + 1) X.A) (hb : Binds X.K fd ps []) (hx : Passes CX X (fun _ _ _ => False)) (hg : Gl X x) (hm : X.mg x = some (.ref C)) (ha : PA X (e :: es) ta)
    (hdb : (x == ("__debug__" : Str)) = false := by decide) (he : starEach (e :: es) X.env = (false, eval e X.env) :: starEach es X.env := by rfl) (hpl : (backTo pos (starEach es X.env)).any (·.1) = false := by rfl) :
    L2N.PMk X (.Call (.Name x p) (e :: es) [] pos) (tMkO C sp [] ta) := by
  intro pins s σ H Q I h
  obtain ⟨nm, q, N, bs, bm, sn, sub, ab, col, dd, k0, k1, k2, k3, k5, hC, hbm⟩ := T.cls
  refine wpAny_Call_Name_kw (ld_glob I hg hm ?_ hdb)
  refine PySem.W.callWith_K (h₀ := X.base) I.ok.mod.kin T.kC (thn (ha.run pos pins s σ H _ I h) fun us s1 ⟨vs, H1, I1, r1, hz, q1⟩ => ⟨I1.kIn, ?_⟩) he hpl
  show wpAny _ _ (call (.ref C) us) _ _ _
  obtain ⟨hp, g, dr, tk, os⟩ := s1
  have hsz : hp.objs.size ≤ hp.objs.size + 1 := Nat.le_succ _
  have hn : H1 (hp.objs.size + 1) = none := I1.hok.fresh hsz
  have hq := q1 (hp.objs.size + 1) hn
  rw [List.append_nil] at hq
  have kk : ∀ b o, hp.get? b = some o → ((hp.push (PySem.W.kdv_tup us)).push (PySem.HandSPX.excO C hp.objs.size)).get? b = some o := fun b o e => Heap.get?_push_of_some _ (Heap.get?_push_of_some _ e)
  have hget : ((hp.push (PySem.W.kdv_tup us)).push (PySem.HandSPX.excO C hp.objs.size)).get? (hp.objs.size + 1) = some (PySem.HandSPX.excO C hp.objs.size) := by heap_get
  have I2 : Inv X pins σ (upd H1 (hp.objs.size + 1) (exo (hp.objs.size + 1) C none)) ⟨(hp.push (PySem.W.kdv_tup us)).push (PySem.HandSPX.excO C hp.objs.size), g, dr, tk, os⟩ :=
    I1.laid (t' := tk) (a := hp.objs.size + 1) (o := exo (hp.objs.size + 1) C none) (h' := (hp.push (PySem.W.kdv_tup us)).push (PySem.HandSPX.excO C hp.objs.size)) kk hsz (exo_ok hget)
  have r2 : Vals (V.ref (hp.objs.size + 1) :: vs) (Value.ref (hp.objs.size + 1) :: us) := .cons rfl r1
  have hl : (Value.ref (hp.objs.size + 1) :: us).length = ps.length := by
    have e := r2.length
    rw [F1.len _ _ _ _ hq] at e
    exact e.symm
  have hus : us.length ≤ sizeLine := by
    rw [← Paired.length r1, sizeLine_eq]
    omega
  have b2 := hb _ (Value.ref (hp.objs.size + 1) :: us) I2.kIn (by rw [List.append_nil]; exact hl)
  rw [List.append_nil] at b2
  refine wpAny_call (PySem.HandSPX.call_own F.excBase_ValueError (fun Y => PySem.HandSPX.refsVE_contains Y bm hbm) (I1.kIn _ _ hC) (PySem.W.looks_findIn I1.kIn iC) (fun self => PySem.W.bind_fn I1.kIn self tI) hus
    (codeAny_mono (F1.run _ X.stack _ _ ⟨Value.ref (hp.objs.size + 1) :: us, []⟩ (Value.ref (hp.objs.size + 1) :: us) _ _ (fun _ _ _ => False) (hr.make C us []) (I2.env0.make C us []) b2 r2 hq) fun r s' hq' => ?_))
  cases r with
  | error er => exact hx pins σ _ _ er s' I2 hq'
  | ok fl =>
    cases fl with
    | ret u =>
      obtain ⟨v, H2, os2, bare2, un2, hok2, rv, ev, d, fs, ea, ed, hd1, q2⟩ := hq'
      subst ev
      obtain ⟨h2, g2, d2, t2, os'⟩ := s'
      obtain ⟨t0, G, J, kG, ge, hoe, na⟩ := mk_end0 (d2 := d2) (t2 := t2) I1 hsz kk un2 hok2 os2 bare2 ea ed hd1
      exact ⟨rv, hp.objs.size + 1, _, _, ⟨G, g2, d2, t2, os'⟩, _, .ref C, some d, rfl, J, kG, ge, hoe, ⟨rfl, rfl, fun vs hv => by cases hv; rfl⟩, rfl, rfl, na, rfl, bare2, raises_own T.exC T.tyC, q2⟩
    | next => exact False.elim hq'
    | brk => exact False.elim hq'
    | cont => exact False.elim hq'
theorem ds_raiseCN {C : Addr} {f : Str} {e : Expr} {te : DTE} {k2 : Nat} (hc : ∀ i, (F.X i).calm = true) {P : Program} {w : World} {mg : Str → Option Value} {base : Heap} (c : CalE P w F.K mg base x C f) (hP : ∀ i, (F.X i).prog = P) (hw : ∀ i, (F.X i).w = w) (hmg : ∀ i, (F.X i).mg = mg) (hb : ∀ i, (F.X i).base = base) (tk : ∀ i, L2N.Takes (F.X i) W) (hr : ∀ i, Room k2 (F.X i).A) (hk : 2 ≤ k2)
    (he : DE F W e te) (hg : ∀ i, Gl (F.X i) x := by intro _; rfl) (hdb : (x == ("__debug__" : Str)) = false := by decide)
    (hs : ∀ i, starEach [e] (F.X i).env = (false, eval e (F.X i).env) :: starEach [] (F.X i).env := by intro _; rfl) (hpl : ∀ i, (backTo pos (starEach [] (F.X i).env)).any (·.1) = false := by intro _; rfl) :
    DS F W (.Raise (some (.Call (.Name x p) [e] [] pos)) none pos2) (dRaiseF C f te) := by
  obtain ⟨fI, fd, T, gm, G, bd⟩ := c
  obtain ⟨t1, p1, k1⟩ := he
  refine ⟨fun _ σ H => tMkO C (spEI C f) [] (tCons t1 tNil) σ H fun cls d H' => W cls d σ H', fun i => ?_, fun σ ρ φ S H D' D r sl l h => ?_⟩
  · have T' : OexC (F.X i).K C := by rw [F.hK]; exact T.oex
    exact L2N.ps_raise (hc i) (tk i) (pmk_oexN T' (by rw [F.hK]; exact T.init) (by rw [F.hK]; exact T.tI) (by have := G; rw [← hP i, ← hw i, ← hmg i, ← hb i, ← F.hK i] at this; exact this) ((hr i).mono hk) (by rw [F.hK i]; exact bd) passL (hg i) (by rw [hmg i]; exact gm) (pa_cons (p1 i) pa_nil (hs i)) hdb (hs i) (hpl i))
  · refine k1 σ ρ φ S H _ _ _ (l.ok r sl) (fun φ1 H1 S1 d v s1 r1 rd h1 => ?_) h
    refine ⟨by show 1 ≤ 1000; decide, fun a ha => ⟨a, v, rfl, upd_same, fun dx hdx ne => ⟨rfl, dx, [(f, v)], upd_same, ?_, ?_, ?_⟩⟩⟩
    · rw [upd_ne ne, upd_same]
    · rw [upd_ne ne] at hdx; exact hdx
    · have hdx' : H1 dx = none := by rw [upd_ne ne] at hdx; exact hdx
      have e : upd (del (upd (upd (upd H1 a (L2.exo a C none)) dx (exd dx [(f, v)])) a (L2.exo a C (some dx))) a) dx (.xd [(f, v)]) = upd H1 dx (.xd [(f, v)]) := by
        funext b
        by_cases q : b = dx
        · subst q; rw [upd_same, upd_same]
        · rw [upd_ne q, upd_ne q]
          by_cases q2 : b = a
          · subst q2; rw [del_same, ha]
          · rw [del_ne q2, upd_ne q2, upd_ne q, upd_ne q2]
      rw [e]
      have st : Step φ1 φ1 H1 (upd H1 dx (.xd [(f, v)])) := step_new hdx'
      exact l.ex _ _ _ _ _ ⟨C, some [(f, d)]⟩ _ _ (s1.trans st) (r1.new hdx') ((sl.mono s1 r.muts).mono st r1.muts) ⟨rfl, dx, [(f, v)], rfl, upd_same, rfl, .cons (RD.mono st r1.muts _ _ rd) .nil⟩ h1
theorem s_tryN {em : Addr → Option Bool} {i : Nat} {tb : DTS} {ts : Addr → Exc → Option Addr → DTS} {nx bk ct : Rho → Store → Prop} {rt : D → Store → Prop} {ex : Exc → Rho → Store → Prop} {ρ : Rho} {S : Store}
    (h : tb ⟨nx, rt, bk, ct, fun x ρ1 S1 => em x.C = some true ∧ ∀ a d, d.isSome = x.fs.isSome → ts a x d ⟨fun ρ2 S2 => nx (ρ2.set i none) S2, rt, fun ρ2 S2 => bk (ρ2.set i none) S2, fun ρ2 S2 => ct (ρ2.set i none) S2, fun _ _ _ => False⟩ (ρ1.set i (some (exV a d x))) S1⟩ ρ S) :
    dTryN em i tb ts ⟨nx, rt, bk, ct, ex⟩ ρ S := h
theorem c_xfP {K : PySem.W.Frag} {C a : Addr} {d : Option Addr} {f : Str} {te : DTE} {ρ : Rho} {S : Store} {Q : QD} {E : XQ} (h : te ρ S (fun v S1 => oXfP K C a d f v S1 Q) E) : dXfP K C a d f te ρ S Q E := h
/-- a suite that takes errors of some classes alone -/
noncomputable def tsIf (PC : Addr → Prop) (t : Addr → Exc → Option Addr → DTS) (a : Addr) (x : Exc) (d : Option Addr) : DTS := fun D ρ S => PC x.C ∧ t a x d D ρ S
theorem su_if {F : Fam} {sts : List Stmt} {PC : Addr → Prop} {t : Addr → Exc → Option Addr → DTS} (h : ∀ a x d, PC x.C → DSs (F.suN a (.ref x.C) d) W0 sts (t a x d)) (a : Addr) (x : Exc) (d : Option Addr) : DSs (F.suN a (.ref x.C) d) W0 sts (tsIf PC t a x d) := by
  by_cases c : PC x.C
  · obtain ⟨t1, p1, k1⟩ := h a x d c
    exact ⟨t1, p1, fun σ ρ φ S H D' D r sl l hh => k1 σ ρ φ S H D' D r sl l hh.2⟩
  · exact ⟨fun _ _ _ => False, fun i => ⟨fun pins s σ H D I h => h.elim⟩, fun _ _ _ _ _ _ _ _ _ _ hh => absurd hh.1 c⟩
end
end Dy
namespace K00
open PySem PySem.Spec PyProof.Rows L2 Dy
local macro_rules | `(tactic| walk_at "e") => `(tactic| first | exact rfl | assumption | (apply sq_ref; assumption) | (apply ls_ref; assumption) | (apply lm_ref; assumption) | (apply tg_ref; assumption))
local macro_rules | `(tactic| walk_at "dv") => `(tactic| first | exact rfl | assumption | (apply dv_ref; assumption))
local macro_rules | `(tactic| walk_at "side") => `(tactic| first | omega | assumption | ((refine And.intro ?_ ?_); omega; assumption) | ((refine And.intro ?_ ?_) <;> decide) | ((refine Or.inl (Or.inr (And.intro ?_ ?_))) <;> omega) | ((refine Or.inl (Or.inl (And.intro ?_ ?_))) <;> omega))
local macro_rules | `(tactic| walk_at "go1") => `(tactic| first
  | with_reducible refine s_seq ?_
  | with_reducible refine s_next ?_
  | with_reducible refine s_asg ?_
  | with_reducible refine s_asgG ?_
  | with_reducible refine s_drop ?_
  | with_reducible refine s_ret ?_
  | with_reducible refine s_retN ?_
  | with_reducible refine s_ifs ?_
  | with_reducible refine s_par ?_
  | with_reducible apply s_two
  | with_reducible refine s_setL ?_
  | with_reducible refine g_name ?_
  | with_reducible refine g_nil ?_
  | with_reducible refine g_sub ?_
  | with_reducible refine s_keys ?_
  | with_reducible refine s_vals ?_
  | with_reducible refine g_cons ?_
  | ((with_reducible refine g_tup ?_ ?_); rfl)
  | ((with_reducible apply s_aug); (exact rfl))
  | with_reducible refine c_op ?_
  | ((with_reducible apply ifYes); (first | assumption | exact rfl | (simp only [tagD]; decide +kernel)))
  | ((with_reducible apply ifNo); (first | assumption | exact rfl | (simp only [tagD]; decide +kernel)))
  | with_reducible refine c_un ?_
  | ((with_reducible apply c_var); (exact rfl))
  | with_reducible refine c_c ?_
  | with_reducible refine c_nil ?_
  | with_reducible refine c_cons ?_
  | ((with_reducible apply sz_and); (exact Nat.le_of_ble_eq_true rfl))
  | with_reducible refine c_tup ?_
  | with_reducible refine c_lst ?_
  | with_reducible refine c_new ?_
  | with_reducible refine c_cb ?_
  | with_reducible refine c_call ?_
  | with_reducible refine c_if ?_
  | with_reducible refine c_andV ?_
  | with_reducible refine c_orV ?_
  | with_reducible refine c_notV ?_
  | with_reducible refine c_test ?_
  | with_reducible refine c_and ?_
  | with_reducible refine c_or ?_
  | with_reducible refine c_not ?_
  | with_reducible refine c_yes ?_
  | with_reducible refine c_bl ?_
  | with_reducible refine c_chain ?_
  | with_reducible refine c_sl ?_
  | with_reducible refine c_nopart ?_
  | with_reducible refine c_part ?_
  | with_reducible refine c_intE ?_
  | with_reducible refine c_lc ?_
  | with_reducible refine c_lcN ?_
  | with_reducible refine s_for ?_
  | with_reducible refine s_setF ?_
  | with_reducible refine s_raiseF ?_
  | with_reducible refine s_tryAs ?_
  | with_reducible refine c_dnil ?_
  | with_reducible refine c_make ?_
  | with_reducible refine c_fld ?_
  | with_reducible refine s_raise0 ?_
  | with_reducible refine s_setD ?_
  | with_reducible refine s_augD ?_
  | with_reducible refine s_delD ?_
  | with_reducible refine c_dpop ?_
  | with_reducible refine c_disp ?_
  | with_reducible refine c_dispN ?_
  | with_reducible refine c_pcons ?_
  | with_reducible refine c_pnil ?_
  | with_reducible refine c_tru ?_
  | with_reducible refine c_sortSet ?_
  | with_reducible refine c_sortSetB ?_
  | with_reducible refine s_enT ?_
  | with_reducible refine s_enL ?_
  | with_reducible apply o_enT
  | ((with_reducible apply o_tru); (exact rfl))
  | ((with_reducible apply o_lenD); (walk_at "dv"))
  | ((with_reducible apply o_listD); (walk_at "dv"))
  | ((with_reducible apply o_dictD); (walk_at "dv"))
  | ((with_reducible apply o_dvAnd); (walk_at "dv"))
  | ((with_reducible apply o_dIn); (walk_at "dv"); (exact rfl))
  | ((with_reducible apply o_dget); (walk_at "dv"); (exact rfl); (first | assumption | exact rfl))
  | with_reducible refine s_only ?_
  | with_reducible refine c_xe ?_
  | ((with_reducible apply o_xe); (exact rfl))
  | ((with_reducible apply o_isE); (first | exact rfl | exact if_pos rfl))
  | ((with_reducible apply o_fld); (assumption); (first | exact rfl | exact Or.inl rfl | exact Or.inr (Or.inl rfl) | exact Or.inr (Or.inr rfl) | exact Or.inr rfl); (exact rfl))
  | with_reducible refine s_bm ?_
  | with_reducible refine s_bm0 ?_
  | with_reducible refine s_rng1 ?_
  | with_reducible refine c_bits ?_
  | with_reducible refine c_sm1 ?_
  | with_reducible refine o_strE ?_
  | with_reducible refine s_str ?_
  | with_reducible apply o_strI
  | with_reducible refine c_star ?_
  | with_reducible refine c_revL ?_
  | with_reducible refine c_isi2 ?_
  | with_reducible refine c_dc ?_
  | with_reducible refine c_joined ?_
  | with_reducible refine c_jcons ?_
  | with_reducible refine c_jnil ?_
  | with_reducible refine c_fmt ?_
  | ((with_reducible apply o_isCls); (assumption))
  | with_reducible apply o_strS
  | with_reducible apply o_inStr
  | ((with_reducible apply o_tagP); (first | assumption | exact rfl))
  | ((with_reducible apply o_lenS); (assumption))
  | ((with_reducible apply o_slS); (assumption))
  | with_reducible apply o_lstE
  | ((with_reducible apply o_sqAnd); (walk_at "e"))
  | with_reducible refine s_sq ?_
  | with_reducible apply o_I0
  | with_reducible apply o_addI
  | ((with_reducible apply o_lsAnd); (walk_at "e"))
  | ((with_reducible apply o_I); (walk_at "side"))
  | with_reducible apply o_isN
  | with_reducible apply o_notN
  | with_reducible apply o_eqI
  | with_reducible apply o_eqS
  | with_reducible apply o_eqB
  | with_reducible apply o_neg
  | with_reducible apply o_int
  | with_reducible apply o_intB
  | with_reducible apply o_abs
  | with_reducible apply o_slT
  | ((with_reducible apply o_len); (walk_at "e"))
  | ((with_reducible apply o_list); (walk_at "e"))
  | ((with_reducible apply o_listN); (walk_at "e"))
  | ((with_reducible apply o_tuple); (walk_at "e"))
  | ((with_reducible apply o_isi); (walk_at "e"))
  | ((with_reducible apply o_isiP); (first | assumption | exact Dat.plain (by assumption)))
  | ((with_reducible apply o_slL); (walk_at "e"))
  | ((with_reducible apply o_ix); (walk_at "e"); (first | (apply (at0 _).trans; first | exact rfl | assumption) | (apply (at1 _).trans; exact rfl) | (apply (at2 _).trans; exact rfl) | (apply (at3 _).trans; exact rfl) | (apply (at4 _).trans; exact rfl) | exact rfl))
  | ((with_reducible apply o_put); (assumption); (first | exact rfl | (apply ixN_0; simp))))
local macro_rules | `(tactic| walk_at "go") => `(tactic| repeat walk_at "go1")
local macro_rules | `(tactic| walk_at "len") => `(tactic| (intro ds S Q E h; first | (obtain ⟨_, rfl, _⟩ := h; rfl) | (obtain ⟨_, _, rfl, _⟩ := h; rfl) | (obtain ⟨_, _, _, rfl, _⟩ := h; rfl) | (obtain ⟨_, _, _, _, rfl, _⟩ := h; rfl) | (obtain ⟨_, _, _, _, _, rfl, _⟩ := h; rfl) | (obtain ⟨_, _, _, _, _, _, rfl, _⟩ := h; rfl) | (obtain ⟨rfl, _⟩ := h; rfl)))
def top (i : Nat) : Stmt := PySem.Challenge.pw_threecopies_k00_errors_of_the_package.main.body.getD i (.Pass ⟨0, 0, 0, 0⟩)
def mth (i j : Nat) : Stmt := match top i with
  | .ClassDef _ _ _ b _ _ _ _ _ _ _ => b.getD j (.Pass ⟨0, 0, 0, 0⟩)
  | s => s
abbrev s__law_pot : Stmt := top 23
abbrev N__law_pot : List Str := ["_law_script", "_law_cells", "_law_greats", "_law_smalls", "_law_item"]
theorem sc__law_pot : FnScope N__law_pot ["_law_script"] (defScope s__law_pot) := ⟨rfl, rfl, rfl, by decide +kernel, rfl, by decide +kernel, by decide +kernel⟩
abbrev s__law_draw : Stmt := top 24
abbrev N__law_draw : List Str := ["_law_pot_here", "_law_many", "_law_turn", "_law_number", "_law_seed"]
theorem sc__law_draw : FnScope N__law_draw ["_law_pot_here", "_law_many"] (defScope s__law_draw) := ⟨rfl, rfl, rfl, by decide +kernel, rfl, by decide +kernel, by decide +kernel⟩
abbrev s__law_any : Stmt := top 25
abbrev N__law_any : List Str := ["_law_pot_here", "_law_items"]
theorem sc__law_any : FnScope N__law_any ["_law_pot_here", "_law_items"] (defScope s__law_any) := ⟨rfl, rfl, rfl, by decide +kernel, rfl, by decide +kernel, by decide +kernel⟩
abbrev s__law_deep : Stmt := top 26
abbrev N__law_deep : List Str := ["_law_thing", "_law_turn"]
theorem sc__law_deep : FnScope N__law_deep [] (defScope s__law_deep) := ⟨rfl, rfl, rfl, by decide +kernel, rfl, by decide +kernel, by decide +kernel⟩
abbrev s__law_made : Stmt := top 27
abbrev N__law_made : List Str := ["_law_which", "_law_thing", "_law_found"]
theorem sc__law_made : FnScope N__law_made ["_law_which", "_law_thing"] (defScope s__law_made) := ⟨rfl, rfl, rfl, by decide +kernel, rfl, by decide +kernel, by decide +kernel⟩
abbrev s__law_flags : Stmt := top 28
abbrev N__law_flags : List Str := ["_law_error", "_law_found"]
theorem sc__law_flags : FnScope N__law_flags ["_law_error"] (defScope s__law_flags) := ⟨rfl, rfl, rfl, by decide +kernel, rfl, by decide +kernel, by decide +kernel⟩
abbrev s__law_kept : Stmt := top 29
abbrev N__law_kept : List Str := ["_law_which", "_law_error"]
theorem sc__law_kept : FnScope N__law_kept ["_law_which", "_law_error"] (defScope s__law_kept) := ⟨rfl, rfl, rfl, by decide +kernel, rfl, by decide +kernel, by decide +kernel⟩
abbrev s__law_is_right : Stmt := top 30
abbrev N__law_is_right : List Str := ["_law_which", "_law_error", "_law_thing", "_law_kept_here", "_law_at"]
theorem sc__law_is_right : FnScope N__law_is_right ["_law_which", "_law_error", "_law_thing"] (defScope s__law_is_right) := ⟨rfl, rfl, rfl, by decide +kernel, rfl, by decide +kernel, by decide +kernel⟩
abbrev s__law_is_caught : Stmt := top 31
abbrev N__law_is_caught : List Str := ["_law_which", "_law_thing", "_law_found", "_law_error"]
theorem sc__law_is_caught : FnScope N__law_is_caught ["_law_which", "_law_thing"] (defScope s__law_is_caught) := ⟨rfl, rfl, rfl, by decide +kernel, rfl, by decide +kernel, by decide +kernel⟩
abbrev s_law : Stmt := top 32
abbrev N_law : List Str := ["_law_script", "_law_hand", "_law_turn", "_law_things", "_law_thing", "_law_which"]
theorem sc_law : FnScope N_law ["_law_script"] (defScope s_law) := ⟨rfl, rfl, rfl, by decide +kernel, rfl, by decide +kernel, by decide +kernel⟩
abbrev s_NotLet___init__ : Stmt := mth 17 0
abbrev N_NotLet___init__ : List Str := ["self", "index"]
theorem sc_NotLet___init__ : FnScope N_NotLet___init__ ["self", "index"] (defScope s_NotLet___init__) := ⟨rfl, rfl, rfl, by decide +kernel, rfl, by decide +kernel, by decide +kernel⟩
abbrev s_BadLog___init__ : Stmt := mth 18 0
abbrev N_BadLog___init__ : List Str := ["self", "index"]
theorem sc_BadLog___init__ : FnScope N_BadLog___init__ ["self", "index"] (defScope s_BadLog___init__) := ⟨rfl, rfl, rfl, by decide +kernel, rfl, by decide +kernel, by decide +kernel⟩
abbrev s_BadBook___init__ : Stmt := mth 19 0
abbrev N_BadBook___init__ : List Str := ["self", "part"]
theorem sc_BadBook___init__ : FnScope N_BadBook___init__ ["self", "part"] (defScope s_BadBook___init__) := ⟨rfl, rfl, rfl, by decide +kernel, rfl, by decide +kernel, by decide +kernel⟩
abbrev s_TooMany___init__ : Stmt := mth 20 0
abbrev N_TooMany___init__ : List Str := ["self", "most"]
theorem sc_TooMany___init__ : FnScope N_TooMany___init__ ["self", "most"] (defScope s_TooMany___init__) := ⟨rfl, rfl, rfl, by decide +kernel, rfl, by decide +kernel, by decide +kernel⟩
abbrev s_BadText___init__ : Stmt := mth 21 0
abbrev N_BadText___init__ : List Str := ["self", "line"]
theorem sc_BadText___init__ : FnScope N_BadText___init__ ["self", "line"] (defScope s_BadText___init__) := ⟨rfl, rfl, rfl, by decide +kernel, rfl, by decide +kernel, by decide +kernel⟩
def fld : Nat → Str
  | 17 => "part"
  | 18 => "most"
  | 19 => "line"
  | _ => "index"
/-- whether an error of the class C is under c -/
def ktE (e : Nat → Addr) (cC C : Addr) (c : D) (b : Bool) : Prop := ∃ i, i < 20 ∧ C = e i ∧ ((c = .ty "ValueError" ∧ b = true) ∨ (c = .cls cC ∧ b = true) ∨ ∃ j, j < 20 ∧ c = .cls (e j) ∧ b = decide (i = j))
structure Txt (K : PySem.W.Frag) (mg : Str → Option Value) (e : Nat → Addr) (cC : Addr) : Prop where
  b_ValueError : mg "ValueError" = none
  b_abs : mg "abs" = none
  b_all : mg "all" = none
  b_any : mg "any" = none
  b_bool : mg "bool" = none
  b_dict : mg "dict" = none
  b_enumerate : mg "enumerate" = none
  b_int : mg "int" = none
  b_isinstance : mg "isinstance" = none
  b_len : mg "len" = none
  b_list : mg "list" = none
  b_max : mg "max" = none
  b_min : mg "min" = none
  b_range : mg "range" = none
  b_set : mg "set" = none
  b_sorted : mg "sorted" = none
  b_str : mg "str" = none
  b_sum : mg "sum" = none
  b_tuple : mg "tuple" = none
  b_type : mg "type" = none
  b_zip : mg "zip" = none
  d__law_pot : ∃ f fd, Fun K "_law_pot" "_law_pot" s__law_pot f fd ∧ mg "_law_pot" = some (.ref f) ∧ PySem.W.keepIn K (.ref f) = true ∧ Binds K fd ["_law_script"] []
  d__law_draw : ∃ f fd, Fun K "_law_draw" "_law_draw" s__law_draw f fd ∧ mg "_law_draw" = some (.ref f) ∧ PySem.W.keepIn K (.ref f) = true ∧ Binds K fd ["_law_pot_here", "_law_many"] []
  d__law_any : ∃ f fd, Fun K "_law_any" "_law_any" s__law_any f fd ∧ mg "_law_any" = some (.ref f) ∧ PySem.W.keepIn K (.ref f) = true ∧ Binds K fd ["_law_pot_here", "_law_items"] []
  d__law_deep : ∃ f fd, Fun K "_law_deep" "_law_deep" s__law_deep f fd ∧ mg "_law_deep" = some (.ref f) ∧ PySem.W.keepIn K (.ref f) = true ∧ Binds K fd [] []
  d__law_made : ∃ f fd, Fun K "_law_made" "_law_made" s__law_made f fd ∧ mg "_law_made" = some (.ref f) ∧ PySem.W.keepIn K (.ref f) = true ∧ Binds K fd ["_law_which", "_law_thing"] []
  d__law_flags : ∃ f fd, Fun K "_law_flags" "_law_flags" s__law_flags f fd ∧ mg "_law_flags" = some (.ref f) ∧ PySem.W.keepIn K (.ref f) = true ∧ Binds K fd ["_law_error"] []
  d__law_kept : ∃ f fd, Fun K "_law_kept" "_law_kept" s__law_kept f fd ∧ mg "_law_kept" = some (.ref f) ∧ PySem.W.keepIn K (.ref f) = true ∧ Binds K fd ["_law_which", "_law_error"] []
  d__law_is_right : ∃ f fd, Fun K "_law_is_right" "_law_is_right" s__law_is_right f fd ∧ mg "_law_is_right" = some (.ref f) ∧ PySem.W.keepIn K (.ref f) = true ∧ Binds K fd ["_law_which", "_law_error", "_law_thing"] []
  d__law_is_caught : ∃ f fd, Fun K "_law_is_caught" "_law_is_caught" s__law_is_caught f fd ∧ mg "_law_is_caught" = some (.ref f) ∧ PySem.W.keepIn K (.ref f) = true ∧ Binds K fd ["_law_which", "_law_thing"] []
  d_law : ∃ f fd, Fun K "law" "law" s_law f fd ∧ mg "law" = some (.ref f) ∧ PySem.W.keepIn K (.ref f) = true ∧ Binds K fd ["_law_script"] []
  c_NoRun : mg "NoRun" = some (.ref (e 0))
  e_NoRun : ErrN K (e 0)
  c_NoWorld : mg "NoWorld" = some (.ref (e 1))
  e_NoWorld : ErrN K (e 1)
  c_NoCopy : mg "NoCopy" = some (.ref (e 2))
  e_NoCopy : ErrN K (e 2)
  c_NoCopies : mg "NoCopies" = some (.ref (e 3))
  e_NoCopies : ErrN K (e 3)
  c_NoOrder : mg "NoOrder" = some (.ref (e 4))
  e_NoOrder : ErrN K (e 4)
  c_NoLook : mg "NoLook" = some (.ref (e 5))
  e_NoLook : ErrN K (e 5)
  c_NoQuestion : mg "NoQuestion" = some (.ref (e 6))
  e_NoQuestion : ErrN K (e 6)
  c_NoNumber : mg "NoNumber" = some (.ref (e 7))
  e_NoNumber : ErrN K (e 7)
  c_NoStamp : mg "NoStamp" = some (.ref (e 8))
  e_NoStamp : ErrN K (e 8)
  c_NoStamps : mg "NoStamps" = some (.ref (e 9))
  e_NoStamps : ErrN K (e 9)
  c_NoCell : mg "NoCell" = some (.ref (e 10))
  e_NoCell : ErrN K (e 10)
  c_NoValue : mg "NoValue" = some (.ref (e 11))
  e_NoValue : ErrN K (e 11)
  c_Full : mg "Full" = some (.ref (e 12))
  e_Full : ErrN K (e 12)
  c_LastCopy : mg "LastCopy" = some (.ref (e 13))
  e_LastCopy : ErrN K (e 13)
  c_NothingDone : mg "NothingDone" = some (.ref (e 14))
  e_NothingDone : ErrN K (e 14)
  c_NotLet : mg "NotLet" = some (.ref (e 15))
  d_NotLet___init__ : ∃ f fd, Fun K "__init__" "NotLet.__init__" s_NotLet___init__ f fd ∧ ErrF K (e 15) "index" f ∧ Binds K fd ["self", "index"] []
  c_BadLog : mg "BadLog" = some (.ref (e 16))
  d_BadLog___init__ : ∃ f fd, Fun K "__init__" "BadLog.__init__" s_BadLog___init__ f fd ∧ ErrF K (e 16) "index" f ∧ Binds K fd ["self", "index"] []
  c_BadBook : mg "BadBook" = some (.ref (e 17))
  d_BadBook___init__ : ∃ f fd, Fun K "__init__" "BadBook.__init__" s_BadBook___init__ f fd ∧ ErrF K (e 17) "part" f ∧ Binds K fd ["self", "part"] []
  c_TooMany : mg "TooMany" = some (.ref (e 18))
  d_TooMany___init__ : ∃ f fd, Fun K "__init__" "TooMany.__init__" s_TooMany___init__ f fd ∧ ErrF K (e 18) "most" f ∧ Binds K fd ["self", "most"] []
  c_BadText : mg "BadText" = some (.ref (e 19))
  d_BadText___init__ : ∃ f fd, Fun K "__init__" "BadText.__init__" s_BadText___init__ f fd ∧ ErrF K (e 19) "line" f ∧ Binds K fd ["self", "line"] []
  c_CopyError : mg "CopyError" = some (.ref cC)
  kit : KitE K (ktE e cC)
  xf : ∀ i, i < 20 → XfC K (e i)
  xn : ∀ i, 15 ≤ i → i < 20 → PySem.W.findIn K (.ref (e i)) (fld i) = some none
  em : ∀ i, i < 20 → PySem.W.exmOne K (.ref (e i)) (.ref cC) = some true
section
variable {e : Nat → Addr} {cC : Addr} {P : Program} {w : World} {K : PySem.W.Frag} {mg : Str → Option Value} {base : Heap}
structure PotAt (S : Store) (n g : Nat) : Prop where
  ne : n ≠ g
  ex : ∃ (gs sm : List Int) (turn sum : Int), S[n]? = some (.lst [.ref g, .lst (sm.map .int), .int turn, .int sum]) ∧ S[g]? = some (.lst (gs.map .int)) ∧ sm ≠ []
def Kept (N : List Nat) (S S' : Store) : Prop := S'.length = S.length ∧ ∀ (m : Nat), m ∉ N → S'[m]? = S[m]?
def spDraw : DSp := fun ds S Q E => ∃ n g many, ds = [.ref n, .int many] ∧ PotAt S n g ∧ 0 < many ∧ many.natAbs.log2 < 9000 ∧ ∀ r S', 0 ≤ r → r < many → PotAt S' n g → Kept [n, g] S S' → Q (.int r) S'
theorem ok__law_draw (T : Txt K mg e cC) : Cal P w K mg base "_law_draw" 1 ["_law_pot_here", "_law_many"] spDraw := by
  obtain ⟨f, fd, A, hm, hk, hb⟩ := T.d__law_draw
  refine ⟨f, fd, dfn A sc__law_draw (by intro ds S Q E h; obtain ⟨_, _, _, rfl, _⟩ := h; rfl) (fun cdv A outer s H E hr => ⟨_, (ds_cons (ds_set 2 (fun _ => sc__law_draw.nd) (de_at (de_var 0) de_int))
    (ds_cons (ds_setL (de_add (de_var 2) de_int) (de_var 0) de_int)
    (ds_cons (ds_if (dt_cmp (fun _ => op_gt) lk_gt (dc_len (fun _ => T.b_len) (da_cons (de_at (de_var 0) de_int) da_nil)) de_int (nomark _))
    (ds_cons (ds_set 3 (fun _ => sc__law_draw.nd) (de_at (de_at (de_var 0) de_int) de_int))
    (ds_cons (ds_setL (de_fdiv (de_var 3) (de_var 1)) (de_at (de_var 0) de_int) de_int)
    (ds_cons (ds_if (dt_cmp (fun _ => op_lt) lk_lt (de_var 3) (de_var 1) (nomark _))
    (ds_one (ds_expr (de_popAt (de_at (de_var 0) de_int) (da_cons de_int da_nil))))
    ds_nil)
    (ds_one (ds_ret (de_mod (dc_int (fun _ => T.b_int) (da_cons (de_var 3) da_nil)) (de_var 1)))))))
    ds_nil)
    (ds_cons (ds_set 4 (fun _ => sc__law_draw.nd) (de_add (de_add (de_mul (de_at (de_at (de_var 0) de_int) (de_mod (dc_int (fun _ => T.b_int) (da_cons (de_var 2) da_nil)) (dc_len (fun _ => T.b_len) (da_cons (de_at (de_var 0) de_int) da_nil)))) de_int) (de_mul de_int (de_var 2))) (de_mul (de_at (de_var 0) de_int) de_int)))
    (ds_cons (ds_set 3 (fun _ => sc__law_draw.nd) (de_mod (dc_int (fun _ => T.b_int) (da_cons (de_add (de_mul (de_var 4) de_int) de_int) da_nil)) de_int))
    (ds_cons (ds_set 3 (fun _ => sc__law_draw.nd) (de_mod (dc_int (fun _ => T.b_int) (da_cons (de_mul (de_var 3) (de_add (de_fdiv (de_var 3) de_int) de_int)) da_nil)) de_int))
    (ds_cons (ds_set 3 (fun _ => sc__law_draw.nd) (de_mod (dc_int (fun _ => T.b_int) (da_cons (de_add (de_mul (de_var 3) (de_add (de_fdiv (de_var 3) de_int) de_int)) (de_var 2)) da_nil)) de_int))
    (ds_one (ds_ret (de_mod (dc_int (fun _ => T.b_int) (da_cons (de_fdiv (de_var 3) de_int) da_nil)) (de_var 1))))))))))), fun ds S Q E h => ?_⟩), hm, hk, hb⟩
  obtain ⟨n, g, many, rfl, ⟨ne, gs, sm, turn, sum, h1, h2, h3⟩, hm, hl, k⟩ := h
  walk_at "go"
  intro S1 l1 e1 m1
  have e1 : S1[n]? = some (.lst [.ref g, .lst (sm.map .int), .int (turn+1), .int sum]) := e1
  have h2' := (m1 g (Ne.symm ne)).trans h2
  walk_at "go"
  refine ifD (fun hc => ?_) (fun hc => ?_)
  · cases gs with
    | nil => simp at hc
    | cons g0 gr =>
      walk_at "go"
      intro S2 l2 e2 m2
      have e2' := (m2 n ne).trans e1
      have kp : ∀ m : Nat, m ∉ [n, g] → S2[m]? = S[m]? := fun m hm => (m2 m fun e => hm (by simp [e])).trans (m1 m fun e => hm (by simp [e]))
      walk_at "go"
      have q1 := Int.emod_nonneg g0 (by omega : many ≠ 0)
      have q2 := Int.emod_lt_of_pos g0 hm
      refine ifD (fun hc2 => ?_) (fun hc2 => ?_)
      · walk_at "go"
        refine o_popAt (j := 0) e2 (by decide) (by decide) (by simp [seqIndex?]) rfl fun S3 l3 e3 m3 => ?_
        walk_at "go"
        exact k _ _ q1 q2 ⟨ne, gr, sm, turn + 1, sum, (m3 n ne).trans e2', e3, h3⟩ ⟨by omega, fun m hm => (m3 m fun e => hm (by simp [e])).trans (kp m hm)⟩
      · walk_at "go"
        exact k _ _ q1 q2 ⟨ne, (g0 / many) :: gr, sm, turn + 1, sum, e2', e2, h3⟩ ⟨by omega, kp⟩
  · walk_at "go"
    obtain ⟨x, hx⟩ := at_mod (f := D.int) (t := turn) h3
    have hp : (0 : Int) < (sm.map D.int).length := by
      have := List.length_pos_iff.mpr h3
      simp; omega
    walk_at "go"
    refine o_ix rfl hx ?_
    walk_at "go"
    have q1 : ∀ x : Int, 0 ≤ x % many := fun x => Int.emod_nonneg x (by omega : many ≠ 0)
    have q2 : ∀ x : Int, x % many < many := fun x => Int.emod_lt_of_pos x hm
    exact k _ _ (q1 _) (q2 _) ⟨ne, gs, sm, turn + 1, sum, e1, h2', h3⟩ ⟨l1, fun m hm => m1 m fun e => hm (by simp [e])⟩
def absD : D → D
  | .int i => .int (if i < 0 then -i else i)
  | d => d
def bigD : D → Bool
  | .int i => decide ((10 : Int) ^ (18 : Int).toNat ≤ if i < 0 then -i else i)
  | _ => false
def modD : D → D
  | .int i => .int (i % 1000000007)
  | d => d
/-- the state of the draws, made of the script -/
def spPot : DSp := fun ds S Q E => ∃ ns : List Int, ds = [.frz (ns.map .int)] ∧ ∀ S' n g, PotAt S' n g → S'.length = S.length + 2 → n = S.length + 1 → (∀ m : Nat, m < S.length → S'[m]? = S[m]?) → Q (.ref n) S'
theorem ok__law_pot (T : Txt K mg e cC) : Cal P w K mg base "_law_pot" 1 ["_law_script"] spPot := by
  obtain ⟨f, fd, A, hm, hk, hb⟩ := T.d__law_pot
  refine ⟨f, fd, dfn A sc__law_pot (by intro ds S Q E h; obtain ⟨_, rfl, _⟩ := h; rfl) (fun cdv A outer s H E hr => ⟨_, (ds_cons (ds_setLc 1 (own := [("_law_item", 4)]) (tgl_1 4) (fun _ => rfl) (fun _ => sc__law_pot.nd) (di_sq (de_slL (de_var 0) do_none (do_some de_int))) (fun _ => blkOk_by (N := N__law_pot) (sc := defScope s__law_pot) (by decide +kernel)) dts_nil (dc_int (fun _ => T.b_int) (da_cons (de_var 4) da_nil)) (fun _ => pg_name (i := 4) sc__law_pot.nd rfl (Or.inl rfl)) (fun _ => sw_true rfl rfl rfl (by decide +kernel)))
    (ds_cons (ds_setLcN 2 (own := [("_law_item", 4)]) (tgl_1 4) (fun _ => rfl) (fun _ => sc__law_pot.nd) (di_sq (de_var 1)) (fun _ => blkOk_by (N := N__law_pot) (sc := defScope s__law_pot) (by decide +kernel)) (dts_one (dt_cmp (fun _ => op_ge) lk_ge (dc_abs (fun _ => T.b_abs) (da_cons (de_var 4) da_nil)) (de_pow de_int de_int) (nomark _))) (dc_abs (fun _ => T.b_abs) (da_cons (de_var 4) da_nil)) (fun _ => pg_name (i := 4) sc__law_pot.nd rfl (Or.inl rfl)) (fun _ => sw_true rfl rfl rfl (by decide +kernel)))
    (ds_cons (ds_set 3 (fun _ => sc__law_pot.nd) (de_cat (de_lc 4 (fun _ => rfl) (fun _ => sc__law_pot.nd) (di_sq (de_var 1)) (fun _ => blkOk_by (N := N__law_pot) (sc := defScope s__law_pot) (by decide +kernel)) (dts_one (dt_cmp (fun _ => op_lt) lk_lt (dc_abs (fun _ => T.b_abs) (da_cons (de_var 4) da_nil)) (de_pow de_int de_int) (nomark _))) (de_mod (dc_int (fun _ => T.b_int) (da_cons (de_var 4) da_nil)) de_int) (fun _ => pg_name (i := 4) sc__law_pot.nd rfl (Or.inl rfl))) (de_lst (da_cons (de_add (dc_len (fun _ => T.b_len) (da_cons (de_var 1) da_nil)) de_int) da_nil))))
    (ds_one (ds_ret (de_new (da_cons (de_var 2) (da_cons (de_var 3) (da_cons de_int (da_cons (de_mod (dc_int (fun _ => T.b_int) (da_cons (dc_sum (fun _ => rfl) (fun _ => T.b_sum) (da_cons (de_var 3) da_nil)) da_nil)) de_int) da_nil)))))))))), fun ds S Q E h => ?_⟩), hm, hk, hb⟩
  obtain ⟨ns, rfl, k⟩ := h
  walk_at "go"
  have cut : Dy.cutD (ns.map D.int) none (some 63) = (ns.take 63).map D.int := by rw [cut_take (by decide), ← List.map_take]; rfl
  rw [cut]
  generalize hms : ns.take 63 = ms
  have h63 : (ms.map D.int).length ≤ 63 := by rw [← hms]; simp; omega
  have asI : ∀ x ∈ ms.map D.int, ∃ i, x = D.int i := fun x m => by
    obtain ⟨i, _, rfl⟩ := List.mem_map.mp m
    exact ⟨i, rfl⟩
  refine o_lcM id rfl (small (by omega)) (fun x m P hP => ?_) ?_
  · obtain ⟨i, rfl⟩ := asI x m
    walk_at "go"
    exact hP
  rw [List.map_id]
  walk_at "go"
  refine o_lcG absD bigD rfl (small (by omega)) (fun x m P hP => ?_) (fun x m _ P hP => ?_) ?_
  · obtain ⟨i, rfl⟩ := asI x m
    walk_at "go"
    exact hP
  · obtain ⟨i, rfl⟩ := asI x m
    walk_at "go"
    exact hP
  walk_at "go"
  refine o_lcG modD (fun d => !bigD d) rfl (small (by omega)) (fun x m P hP => ?_) (fun x m _ P hP => ?_) ?_
  · obtain ⟨i, rfl⟩ := asI x m
    walk_at "go"
    have e : decide ((if i < 0 then -i else i) < (10 : Int) ^ (18 : Int).toNat) = !bigD (D.int i) := by simp only [bigD]; rw [← decide_not]; congr 1; rw [Int.not_le]
    rw [e]
    exact hP
  · obtain ⟨i, rfl⟩ := asI x m
    walk_at "go"
    exact hP
  walk_at "go"
  refine o_cat rfl rfl (small ?_) ?_
  · have := List.length_filter_le (fun d => !bigD d) (ms.map D.int)
    simp only [List.length_map, List.length_cons, List.length_nil] at this h63 ⊢
    omega
  obtain ⟨sm, hsm⟩ : ∃ sm : List Int, List.map modD ((ms.map D.int).filter fun d => !bigD d) ++ [D.int ((ms.map D.int).length + 1)] = sm.map .int := all_int fun x m => by
    rcases List.mem_append.mp m with m | m
    · obtain ⟨y, my, rfl⟩ := List.mem_map.mp m
      obtain ⟨i, rfl⟩ := asI y ((List.mem_filter.mp my).1)
      exact ⟨_, rfl⟩
    · exact ⟨_, List.mem_singleton.mp m⟩
  obtain ⟨gs, hgs⟩ : ∃ gs : List Int, List.map absD ((ms.map D.int).filter bigD) = gs.map .int := all_int fun x m => by
    obtain ⟨y, my, rfl⟩ := List.mem_map.mp m
    obtain ⟨i, rfl⟩ := asI y ((List.mem_filter.mp my).1)
    exact ⟨_, rfl⟩
  have hne : sm ≠ [] := fun e => by
    rw [e] at hsm
    simp at hsm
  rw [hsm, hgs]
  walk_at "go"
  refine o_sum ?_
  walk_at "go"
  have g1 : (S ++ [SO.lst (gs.map D.int)]).length = S.length + 1 := by simp
  rw [g1]
  refine k _ _ S.length ⟨by omega, gs, sm, 0, sm.sum % 999983, ?_, ?_, hne⟩ (by simp) rfl fun m hm => ?_
  · rw [← g1, List.getElem?_append_right (by omega)]; simp
  · rw [List.getElem?_append_left (by rw [g1]; omega), List.getElem?_append_right (by omega)]; simp
  · rw [List.getElem?_append_left (by rw [g1]; omega), List.getElem?_append_left hm]
def spAny : DSp := fun ds S Q E => ∃ n g d xs, ds = [.ref n, d] ∧ PotAt S n g ∧ (∀ S', Kept [n, g] S S' → sqOf S' d = some xs) ∧ xs ≠ [] ∧ xs.length ≤ sizeLine ∧ ∀ x S', x ∈ xs → PotAt S' n g → Kept [n, g] S S' → Q x S'
theorem Kept.refl {N : List Nat} {S : Store} : Kept N S S := ⟨rfl, fun _ _ => rfl⟩
theorem Kept.trans {N : List Nat} {S S1 S2 : Store} (h : Kept N S S1) (k : Kept N S1 S2) : Kept N S S2 := ⟨k.1.trans h.1, fun m hm => (k.2 m hm).trans (h.2 m hm)⟩
theorem log_len {n : Nat} (h : n ≤ sizeLine) : ((n : Int)).natAbs.log2 < 9000 := by
  have e : ((n : Int)).natAbs = n := rfl
  rw [e]
  have : n < 2 ^ 64 := Nat.lt_of_le_of_lt h (by decide)
  exact Nat.lt_trans (PySem.Flt.log2_lt_of (by decide) this) (by decide)
theorem at_in {α : Type} {xs : List α} {r : Int} (h0 : 0 ≤ r) (h : r < xs.length) : ∃ x, atI xs r = some x ∧ x ∈ xs := by
  obtain ⟨k, rfl⟩ := Int.eq_ofNat_of_zero_le h0
  have hk : k < xs.length := by omega
  exact ⟨xs[k], by rw [atN, List.getElem?_eq_getElem hk], List.getElem_mem hk⟩
theorem ok__law_any (T : Txt K mg e cC) (c__law_draw : Cal P w K mg base "_law_draw" 1 ["_law_pot_here", "_law_many"] spDraw) : Cal P w K mg base "_law_any" 2 ["_law_pot_here", "_law_items"] spAny := by
  obtain ⟨f, fd, A, hm, hk, hb⟩ := T.d__law_any
  refine ⟨f, fd, dfn A sc__law_any (by intro ds S Q E h; obtain ⟨_, _, _, _, rfl, _⟩ := h; rfl) (fun cdv A outer s H E hr => ⟨_, (ds_one (ds_ret (de_at (de_var 1) (de_callC (fun _ => c__law_draw) (fun _ => hr) (by omega) (fun _ => bodyTk) (da_cons (de_var 0) (da_cons (dc_len (fun _ => T.b_len) (da_cons (de_var 1) da_nil)) da_nil)))))), fun ds S Q E h => ?_⟩), hm, hk, hb⟩
  obtain ⟨n, g, d, xs, rfl, hp, hd, hn, hz, k⟩ := h
  walk_at "go"
  refine o_len (hd S .refl) ?_
  walk_at "go"
  have : 0 < xs.length := List.length_pos_iff.mpr hn
  refine ⟨n, g, _, rfl, hp, by omega, log_len hz, fun r S' h0 h1 hp' kp => ?_⟩
  obtain ⟨x, hx, mx⟩ := at_in h0 h1
  exact o_ix (hd S' kp) hx (k x S' mx hp' kp)
end
open PySem PySem.Spec PyProof.Rows L2 Dy
section
variable {e : Nat → Addr} {cC : Addr} {P : Program} {w : World} {K : PySem.W.Frag} {mg : Str → Option Value} {base : Heap}
def PCindex (e : Nat → Addr) (C : Addr) : Prop := ∃ i, (i = 15 ∨ i = 16) ∧ C = e i
theorem xf_index (T : Txt K mg e cC) : ∀ C, PCindex e C → XfC K C ∧ PySem.W.findIn K (.ref C) "index" = some none := by
  rintro C ⟨i, hi, rfl⟩
  rcases hi with rfl | rfl
  all_goals exact ⟨T.xf _ (by decide), T.xn _ (by decide) (by decide)⟩
def PCpart (e : Nat → Addr) (C : Addr) : Prop := ∃ i, (i = 17) ∧ C = e i
theorem xf_part (T : Txt K mg e cC) : ∀ C, PCpart e C → XfC K C ∧ PySem.W.findIn K (.ref C) "part" = some none := by
  rintro C ⟨i, hi, rfl⟩
  subst hi
  all_goals exact ⟨T.xf _ (by decide), T.xn _ (by decide) (by decide)⟩
def PCmost (e : Nat → Addr) (C : Addr) : Prop := ∃ i, (i = 18) ∧ C = e i
theorem xf_most (T : Txt K mg e cC) : ∀ C, PCmost e C → XfC K C ∧ PySem.W.findIn K (.ref C) "most" = some none := by
  rintro C ⟨i, hi, rfl⟩
  subst hi
  all_goals exact ⟨T.xf _ (by decide), T.xn _ (by decide) (by decide)⟩
def PCline (e : Nat → Addr) (C : Addr) : Prop := ∃ i, (i = 19) ∧ C = e i
theorem xf_line (T : Txt K mg e cC) : ∀ C, PCline e C → XfC K C ∧ PySem.W.findIn K (.ref C) "line" = some none := by
  rintro C ⟨i, hi, rfl⟩
  subst hi
  all_goals exact ⟨T.xf _ (by decide), T.xn _ (by decide) (by decide)⟩
local macro_rules | `(tactic| walk_at "go1") => `(tactic| first | with_reducible refine c_err0 ?_ | with_reducible refine c_errF ?_ | with_reducible refine c_errGet ?_)
theorem ok_err {x qual f : Str} {C : Addr} {st : Stmt} {p1 p2 p3 p4 : Pos} (h : ∃ fI fd, Fun K "__init__" qual st fI fd ∧ ErrF K C f fI ∧ Binds K fd ["self", f] []) (hm : mg x = some (.ref C)) (S : FnScope ["self", f] ["self", f] (defScope st))
    (hb : defBody st = [.Assign [.Attribute (.Name "self" p1) f p2] (.Name f p3) p4]) (h1 : (f == ("__debug__" : Str)) = false := by decide) (h2 : (f == ("__classdict__" : Str)) = false := by decide) : CalE P w K mg base x C f := by
  obtain ⟨fI, fd, F, T, bd⟩ := h
  exact ⟨fI, fd, T, hm, err_init F S hb T h1 h2, bd⟩
/-- an error of the i-th class that bears x -/
def eD (e : Nat → Addr) (i : Nat) (x : D) : D := if i < 15 then err0D (e i) else err1D (e i) (fld i) x
theorem eD_c {i : Nat} {x : D} : errC (e i) (eD e i x) := by
  unfold eD
  split
  · exact .inl rfl
  · exact .inr ⟨_, _, rfl⟩
theorem kt_j {i j : Nat} (hi : i < 20) (hj : j < 20) : ktE e cC (e i) (.cls (e j)) (decide (i = j)) := ⟨i, hi, rfl, .inr (.inr ⟨j, hj, rfl, rfl⟩)⟩
theorem kt_c {i : Nat} (hi : i < 20) : ktE e cC (e i) (.cls cC) true := ⟨i, hi, rfl, .inr (.inl ⟨rfl, rfl⟩)⟩
theorem kt_v {i : Nat} (hi : i < 20) : ktE e cC (e i) (.ty "ValueError") true := ⟨i, hi, rfl, .inl ⟨rfl, rfl⟩⟩
def spMade (e : Nat → Addr) : DSp := fun ds S Q E => ∃ (i : Nat) (x : D), ds = [natD i, x] ∧ i < 20 ∧ Q (eD e i x) S
theorem ok__law_made (T : Txt K mg e cC) (e_NotLet : CalE P w K mg base "NotLet" (e 15) "index") (e_BadLog : CalE P w K mg base "BadLog" (e 16) "index") (e_BadBook : CalE P w K mg base "BadBook" (e 17) "part") (e_TooMany : CalE P w K mg base "TooMany" (e 18) "most") (e_BadText : CalE P w K mg base "BadText" (e 19) "line") : Cal P w K mg base "_law_made" 3 ["_law_which", "_law_thing"] (spMade e) := by
  obtain ⟨f, fd, A, hm, hk, hb⟩ := T.d__law_made
  refine ⟨f, fd, dfn A sc__law_made (by intro ds S Q E h; obtain ⟨_, _, rfl, _⟩ := h; rfl) (fun cdv A outer s H E hr => ⟨_, (ds_cons (ds_if (dt_cmp (fun _ => op_lt) lk_lt (de_var 0) de_int (nomark _))
    (ds_cons (ds_set 2 (fun _ => sc__law_made.nd) (de_lst (da_cons (de_err0 T.e_NoRun (fun _ => T.c_NoRun)) (da_cons (de_err0 T.e_NoWorld (fun _ => T.c_NoWorld)) (da_cons (de_err0 T.e_NoCopy (fun _ => T.c_NoCopy)) (da_cons (de_err0 T.e_NoCopies (fun _ => T.c_NoCopies)) (da_cons (de_err0 T.e_NoOrder (fun _ => T.c_NoOrder)) (da_cons (de_err0 T.e_NoLook (fun _ => T.c_NoLook)) (da_cons (de_err0 T.e_NoQuestion (fun _ => T.c_NoQuestion)) (da_cons (de_err0 T.e_NoNumber (fun _ => T.c_NoNumber)) da_nil))))))))))
    (ds_one (ds_ret (de_at (de_var 2) (de_var 0)))))
    ds_nil)
    (ds_cons (ds_if (dt_cmp (fun _ => op_lt) lk_lt (de_var 0) de_int (nomark _))
    (ds_one (ds_ret (de_at (de_lst (da_cons (de_err0 T.e_NoStamp (fun _ => T.c_NoStamp)) (da_cons (de_err0 T.e_NoStamps (fun _ => T.c_NoStamps)) (da_cons (de_err0 T.e_NoCell (fun _ => T.c_NoCell)) (da_cons (de_err0 T.e_NoValue (fun _ => T.c_NoValue)) (da_cons (de_err0 T.e_Full (fun _ => T.c_Full)) (da_cons (de_err0 T.e_LastCopy (fun _ => T.c_LastCopy)) (da_cons (de_err0 T.e_NothingDone (fun _ => T.c_NothingDone)) da_nil)))))))) (de_sub (de_var 0) de_int))))
    ds_nil)
    (ds_one (ds_ret (de_at (de_lst (da_cons (de_errF e_NotLet (fun _ => rfl) (fun _ => rfl) (fun _ => rfl) (fun _ => rfl) (fun _ => hr) (by omega) (de_var 1)) (da_cons (de_errF e_BadLog (fun _ => rfl) (fun _ => rfl) (fun _ => rfl) (fun _ => rfl) (fun _ => hr) (by omega) (de_var 1)) (da_cons (de_errF e_BadBook (fun _ => rfl) (fun _ => rfl) (fun _ => rfl) (fun _ => rfl) (fun _ => hr) (by omega) (de_var 1)) (da_cons (de_errF e_TooMany (fun _ => rfl) (fun _ => rfl) (fun _ => rfl) (fun _ => rfl) (fun _ => hr) (by omega) (de_var 1)) (da_cons (de_errF e_BadText (fun _ => rfl) (fun _ => rfl) (fun _ => rfl) (fun _ => rfl) (fun _ => hr) (by omega) (de_var 1)) da_nil)))))) (de_sub (de_var 0) de_int)))))), fun ds S Q E h => ?_⟩), hm, hk, hb⟩
  obtain ⟨i, x, rfl, hi, h⟩ := h
  walk_at "go"
  refine ifB (fun c => ?_) (fun c => ?_)
  · have c : (i : Int) < 8 := of_decide_eq_true c
    walk_at "go"
    refine o_ix rfl (show atI _ (i : Int) = some (eD e i x) from ?_) h
    rw [atN]
    match i, c with
    | 0, _ => rfl
    | 1, _ => rfl
    | 2, _ => rfl
    | 3, _ => rfl
    | 4, _ => rfl
    | 5, _ => rfl
    | 6, _ => rfl
    | 7, _ => rfl
    | i + 8, c => omega
  have c8 : ¬ (i : Int) < 8 := of_decide_eq_false c
  walk_at "go"
  refine ifB (fun c => ?_) (fun c => ?_)
  · have c : (i : Int) < 15 := of_decide_eq_true c
    walk_at "go"
    refine o_ix rfl (show atI _ ((i : Int) - 8) = some (eD e i x) from ?_) h
    match i, c8, c with
    | 8, _, _ => rfl
    | 9, _, _ => rfl
    | 10, _, _ => rfl
    | 11, _, _ => rfl
    | 12, _, _ => rfl
    | 13, _, _ => rfl
    | 14, _, _ => rfl
    | i + 15, _, c => omega
    | 0, c, _ => omega
    | 1, c, _ => omega
    | 2, c, _ => omega
    | 3, c, _ => omega
    | 4, c, _ => omega
    | 5, c, _ => omega
    | 6, c, _ => omega
    | 7, c, _ => omega
  have c15 : ¬ (i : Int) < 15 := of_decide_eq_false c
  walk_at "go"
  refine o_ix rfl (show atI _ ((i : Int) - 15) = some (eD e i x) from ?_) h
  obtain ⟨k, rfl⟩ : ∃ k, i = k + 15 := ⟨i - 15, by omega⟩
  match k, hi with
  | 0, _ => rfl
  | 1, _ => rfl
  | 2, _ => rfl
  | 3, _ => rfl
  | 4, _ => rfl
  | k + 5, hi => omega
def flagsD (i : Nat) : List D := (List.range 20).map fun j => .bl (decide (i = j))
def spFlags (e : Nat → Addr) : DSp := fun ds S Q E => ∃ (i : Nat) (x : D), ds = [eD e i x] ∧ i < 20 ∧ Q (.lst (flagsD i)) S
theorem ok__law_flags (T : Txt K mg e cC) : Cal P w K mg base "_law_flags" 2 ["_law_error"] (spFlags e) := by
  obtain ⟨f, fd, A, hm, hk, hb⟩ := T.d__law_flags
  refine ⟨f, fd, dfn A sc__law_flags (by intro ds S Q E h; obtain ⟨_, _, rfl, _⟩ := h; rfl) (fun cdv A outer s H E hr => ⟨_, (ds_cons (ds_set 1 (fun _ => sc__law_flags.nd) (de_lst (da_cons (dc_isErr T.kit (fun _ => T.b_isinstance) (da_cons (de_var 0) (da_cons (de_glob (by intro _; rfl) (fun _ => T.c_NoRun) rfl (d := .cls _) (v := .ref _) rfl) da_nil))) (da_cons (dc_isErr T.kit (fun _ => T.b_isinstance) (da_cons (de_var 0) (da_cons (de_glob (by intro _; rfl) (fun _ => T.c_NoWorld) rfl (d := .cls _) (v := .ref _) rfl) da_nil))) (da_cons (dc_isErr T.kit (fun _ => T.b_isinstance) (da_cons (de_var 0) (da_cons (de_glob (by intro _; rfl) (fun _ => T.c_NoCopy) rfl (d := .cls _) (v := .ref _) rfl) da_nil))) da_nil)))))
    (ds_cons (ds_set 1 (fun _ => sc__law_flags.nd) (de_cat (de_var 1) (de_lst (da_cons (dc_isErr T.kit (fun _ => T.b_isinstance) (da_cons (de_var 0) (da_cons (de_glob (by intro _; rfl) (fun _ => T.c_NoCopies) rfl (d := .cls _) (v := .ref _) rfl) da_nil))) (da_cons (dc_isErr T.kit (fun _ => T.b_isinstance) (da_cons (de_var 0) (da_cons (de_glob (by intro _; rfl) (fun _ => T.c_NoOrder) rfl (d := .cls _) (v := .ref _) rfl) da_nil))) (da_cons (dc_isErr T.kit (fun _ => T.b_isinstance) (da_cons (de_var 0) (da_cons (de_glob (by intro _; rfl) (fun _ => T.c_NoLook) rfl (d := .cls _) (v := .ref _) rfl) da_nil))) da_nil))))))
    (ds_cons (ds_set 1 (fun _ => sc__law_flags.nd) (de_cat (de_var 1) (de_lst (da_cons (dc_isErr T.kit (fun _ => T.b_isinstance) (da_cons (de_var 0) (da_cons (de_glob (by intro _; rfl) (fun _ => T.c_NoQuestion) rfl (d := .cls _) (v := .ref _) rfl) da_nil))) (da_cons (dc_isErr T.kit (fun _ => T.b_isinstance) (da_cons (de_var 0) (da_cons (de_glob (by intro _; rfl) (fun _ => T.c_NoNumber) rfl (d := .cls _) (v := .ref _) rfl) da_nil))) (da_cons (dc_isErr T.kit (fun _ => T.b_isinstance) (da_cons (de_var 0) (da_cons (de_glob (by intro _; rfl) (fun _ => T.c_NoStamp) rfl (d := .cls _) (v := .ref _) rfl) da_nil))) da_nil))))))
    (ds_cons (ds_set 1 (fun _ => sc__law_flags.nd) (de_cat (de_var 1) (de_lst (da_cons (dc_isErr T.kit (fun _ => T.b_isinstance) (da_cons (de_var 0) (da_cons (de_glob (by intro _; rfl) (fun _ => T.c_NoStamps) rfl (d := .cls _) (v := .ref _) rfl) da_nil))) (da_cons (dc_isErr T.kit (fun _ => T.b_isinstance) (da_cons (de_var 0) (da_cons (de_glob (by intro _; rfl) (fun _ => T.c_NoCell) rfl (d := .cls _) (v := .ref _) rfl) da_nil))) (da_cons (dc_isErr T.kit (fun _ => T.b_isinstance) (da_cons (de_var 0) (da_cons (de_glob (by intro _; rfl) (fun _ => T.c_NoValue) rfl (d := .cls _) (v := .ref _) rfl) da_nil))) da_nil))))))
    (ds_cons (ds_set 1 (fun _ => sc__law_flags.nd) (de_cat (de_var 1) (de_lst (da_cons (dc_isErr T.kit (fun _ => T.b_isinstance) (da_cons (de_var 0) (da_cons (de_glob (by intro _; rfl) (fun _ => T.c_Full) rfl (d := .cls _) (v := .ref _) rfl) da_nil))) (da_cons (dc_isErr T.kit (fun _ => T.b_isinstance) (da_cons (de_var 0) (da_cons (de_glob (by intro _; rfl) (fun _ => T.c_LastCopy) rfl (d := .cls _) (v := .ref _) rfl) da_nil))) (da_cons (dc_isErr T.kit (fun _ => T.b_isinstance) (da_cons (de_var 0) (da_cons (de_glob (by intro _; rfl) (fun _ => T.c_NothingDone) rfl (d := .cls _) (v := .ref _) rfl) da_nil))) da_nil))))))
    (ds_cons (ds_set 1 (fun _ => sc__law_flags.nd) (de_cat (de_var 1) (de_lst (da_cons (dc_isErr T.kit (fun _ => T.b_isinstance) (da_cons (de_var 0) (da_cons (de_glob (by intro _; rfl) (fun _ => T.c_NotLet) rfl (d := .cls _) (v := .ref _) rfl) da_nil))) (da_cons (dc_isErr T.kit (fun _ => T.b_isinstance) (da_cons (de_var 0) (da_cons (de_glob (by intro _; rfl) (fun _ => T.c_BadLog) rfl (d := .cls _) (v := .ref _) rfl) da_nil))) (da_cons (dc_isErr T.kit (fun _ => T.b_isinstance) (da_cons (de_var 0) (da_cons (de_glob (by intro _; rfl) (fun _ => T.c_BadBook) rfl (d := .cls _) (v := .ref _) rfl) da_nil))) da_nil))))))
    (ds_one (ds_ret (de_cat (de_var 1) (de_lst (da_cons (dc_isErr T.kit (fun _ => T.b_isinstance) (da_cons (de_var 0) (da_cons (de_glob (by intro _; rfl) (fun _ => T.c_TooMany) rfl (d := .cls _) (v := .ref _) rfl) da_nil))) (da_cons (dc_isErr T.kit (fun _ => T.b_isinstance) (da_cons (de_var 0) (da_cons (de_glob (by intro _; rfl) (fun _ => T.c_BadText) rfl (d := .cls _) (v := .ref _) rfl) da_nil))) da_nil)))))))))))), fun ds S Q E h => ?_⟩), hm, hk, hb⟩
  obtain ⟨i, x, rfl, hi, h⟩ := h
  have he : errC (e i) (eD e i x) := eD_c
  generalize eD e i x = d at he
  have hj := fun j hj => kt_j (e := e) (cC := cC) (j := j) hi hj
  walk_at "go"
  iterate 3
    refine o_isErr he (hj _ ?_) ?_
    decide
    walk_at "go"
  iterate 5
    refine o_isErr he (hj _ ?_) ?_
    decide
    walk_at "go"
    refine o_isErr he (hj _ ?_) ?_
    decide
    walk_at "go"
    refine o_isErr he (hj _ ?_) ?_
    decide
    walk_at "go"
    refine ⟨_, _, rfl, rfl, small (by simp), ?_⟩
    walk_at "go"
  iterate 2
    refine o_isErr he (hj _ ?_) ?_
    decide
    walk_at "go"
  refine ⟨_, _, rfl, rfl, small (by simp), ?_⟩
  walk_at "go"
  exact h
def spKeptE (e : Nat → Addr) : DSp := fun ds S Q E => ∃ (i : Nat) (x : D), ds = [natD i, err1D (e i) (fld i) x] ∧ 15 ≤ i ∧ i < 20 ∧ Q x S
theorem ok__law_kept (T : Txt K mg e cC) : Cal P w K mg base "_law_kept" 2 ["_law_which", "_law_error"] (spKeptE e) := by
  obtain ⟨f, fd, A, hm, hk, hb⟩ := T.d__law_kept
  refine ⟨f, fd, dfn A sc__law_kept (by intro ds S Q E h; obtain ⟨_, _, rfl, _⟩ := h; rfl) (fun cdv A outer s H E hr => ⟨_, (ds_cons (ds_if (dt_cmp (fun _ => op_lt) lk_lt (de_var 0) de_int (nomark _))
    (ds_one (ds_ret (de_errGet (PC := PCindex e) (xf_index T) (de_var 1))))
    ds_nil)
    (ds_cons (ds_if (dt_cmp (oq_eq fun _ => hr) lk_eq (de_var 0) de_int (nomark _))
    (ds_one (ds_ret (de_errGet (PC := PCpart e) (xf_part T) (de_var 1))))
    ds_nil)
    (ds_one (ds_ret (de_ifExp (dt_cmp (oq_eq fun _ => hr) lk_eq (de_var 0) de_int (nomark _)) (de_errGet (PC := PCmost e) (xf_most T) (de_var 1)) (de_errGet (PC := PCline e) (xf_line T) (de_var 1))))))), fun ds S Q E h => ?_⟩), hm, hk, hb⟩
  obtain ⟨i, x, rfl, h1, h2, h⟩ := h
  walk_at "go"
  refine ifB (fun c => ?_) (fun c => ?_)
  · have c : (i : Int) < 17 := of_decide_eq_true c
    walk_at "go"
    have hi : i = 15 ∨ i = 16 := by omega
    rcases hi with rfl | rfl
    · exact o_errF (C := e 15) (x := x) ⟨15, .inl rfl, rfl⟩ h
    · exact o_errF (C := e 16) (x := x) ⟨16, .inr rfl, rfl⟩ h
  · have c : ¬ (i : Int) < 17 := of_decide_eq_false c
    have hi : i = 17 ∨ i = 18 ∨ i = 19 := by omega
    rcases hi with rfl | rfl | rfl
    · walk_at "go"
      exact o_errF (C := e 17) (x := x) ⟨17, rfl, rfl⟩ h
    · walk_at "go"
      exact o_errF (C := e 18) (x := x) ⟨18, rfl, rfl⟩ h
    · walk_at "go"
      exact o_errF (C := e 19) (x := x) ⟨19, rfl, rfl⟩ h
/-- a thing that an error bears here -/
def goodT (x : D) : Prop := plainD x = true ∧ (x = .dic [] [] ∨ ∃ p, pyD x = some p ∧ p.depth ≤ 60 ∧ p.plain = true)
def pickI (i : Nat) : D → Bool
  | .int k => decide ((i : Int) = k)
  | _ => false
theorem pick_nat {i k : Nat} : pickI i (natD k) = decide (i = k) := by
  show decide ((i : Int) = (k : Int)) = _
  exact decide_eq_decide.mpr (by omega)
theorem rng20 {d : D} (h : d ∈ rngD 0 20) : ∃ k, k < 20 ∧ d = natD k := by
  unfold rngD at h
  obtain ⟨k, hk, rfl⟩ := List.mem_map.mp h
  exact ⟨k, List.mem_range.mp hk, by show D.int (0 + (k : Int)) = D.int (k : Int); rw [Int.zero_add]⟩
theorem flags_at {i k : Nat} (hk : k < 20) : atI (flagsD i) (k : Int) = some (.bl (decide (i = k))) := by
  rw [atN]
  unfold flagsD
  rw [List.getElem?_map, List.getElem?_range hk]; rfl
theorem pick_one {i : Nat} (hi : i < 20) : (rngD 0 20).filter (pickI i) = [natD i] := by
  match i, hi with
  | 0, _ => rfl
  | 1, _ => rfl
  | 2, _ => rfl
  | 3, _ => rfl
  | 4, _ => rfl
  | 5, _ => rfl
  | 6, _ => rfl
  | 7, _ => rfl
  | 8, _ => rfl
  | 9, _ => rfl
  | 10, _ => rfl
  | 11, _ => rfl
  | 12, _ => rfl
  | 13, _ => rfl
  | 14, _ => rfl
  | 15, _ => rfl
  | 16, _ => rfl
  | 17, _ => rfl
  | 18, _ => rfl
  | 19, _ => rfl
  | i + 20, h => omega
theorem self_eq {x : D} {S : Store} {Q : QD} (g : goodT x) (h : Q (.bl true) S) : dEqN false x x S Q ∨ dDictEq false x x S Q := by
  rcases g.2 with rfl | ⟨p, e, hd, hp⟩
  · exact .inr ⟨[], [], rfl, rfl, rfl, fun p m => (by cases m), h⟩
  · have gen : (∃ d e, pyS S x = some d ∧ pyS S x = some e ∧ min d.depth e.depth ≤ 60 ∧ Q (.bl (false ^^ PyData.eqv d e)) S) → dEqN false x x S Q := fun q => by
      cases x with
      | int i => exact o_eqI (by rw [decide_eq_true rfl]; exact h)
      | str i => exact o_eqS (by rw [decide_eq_true rfl]; exact h)
      | bl i => exact o_eqB (by rw [decide_eq_true rfl]; exact h)
      | non => exact (show Q (.bl (false ^^ true)) S from h)
      | _ => exact q
    have es : pyS S x = some p := by
      cases x with
      | ref n => simp [pyD] at e
      | _ => exact e
    exact .inl (gen ⟨p, p, es, es, by omega, by rw [PySem.SeqAt.eqv_refl_plain p hp]; exact h⟩)
def spRightE (e : Nat → Addr) : DSp := fun ds S Q E => ∃ (i : Nat) (x : D), ds = [natD i, eD e i x, x] ∧ i < 20 ∧ goodT x ∧ Q (.bl true) S
theorem ok__law_is_right (T : Txt K mg e cC) (c__law_flags : Cal P w K mg base "_law_flags" 2 ["_law_error"] (spFlags e)) (c__law_kept : Cal P w K mg base "_law_kept" 2 ["_law_which", "_law_error"] (spKeptE e)) : Cal P w K mg base "_law_is_right" 4 ["_law_which", "_law_error", "_law_thing"] (spRightE e) := by
  obtain ⟨f, fd, A, hm, hk, hb⟩ := T.d__law_is_right
  refine ⟨f, fd, dfn A sc__law_is_right (by intro ds S Q E h; obtain ⟨_, _, rfl, _⟩ := h; rfl) (fun cdv A outer s H E hr => ⟨_, (ds_cons (ds_if (DW.dt (dw_or (dt_not (dt_val (dc_isErr T.kit (fun _ => T.b_isinstance) (da_cons (de_var 1) (da_cons (de_glob (by intro _; rfl) (fun _ => T.c_CopyError) rfl (d := .cls _) (v := .ref _) rfl) da_nil))))) (dw_or1 (dt_not (dt_val (dc_isErr T.kit (fun _ => T.b_isinstance) (da_cons (de_var 1) (da_cons (de_bltn (by intro _; rfl) (fun _ => T.b_ValueError) bt_ValueError (d := .ty "ValueError") (v := .ty "ValueError") rfl rfl) da_nil))))))))
    (ds_one (ds_ret de_bl))
    ds_nil)
    (ds_cons (ds_if (dt_cmp (oq_ne fun _ => hr) lk_ne (de_lc 4 (fun _ => rfl) (fun _ => sc__law_is_right.nd) (di_rng1 (by intro _; rfl) (fun _ => T.b_range) (da_cons de_int da_nil)) (fun _ => blkOk_by (N := N__law_is_right) (sc := defScope s__law_is_right) (by decide +kernel)) (dts_one (dt_val (de_at (de_callC (fun _ => c__law_flags) (fun _ => hr) (by omega) (fun _ => takes0) (da_cons (de_var 1) da_nil)) (de_var 4)))) (de_var 4) (fun _ => pg_name (i := 4) sc__law_is_right.nd rfl (Or.inl rfl))) (de_lst (da_cons (de_var 0) da_nil)) (nomark _))
    (ds_one (ds_ret de_bl))
    ds_nil)
    (ds_cons (ds_if (dt_cmp (fun _ => op_lt) lk_lt (de_var 0) de_int (nomark _))
    (ds_one (ds_ret de_bl))
    ds_nil)
    (ds_cons (ds_set 3 (fun _ => sc__law_is_right.nd) (de_callC (fun _ => c__law_kept) (fun _ => hr) (by omega) (fun _ => bodyTk) (da_cons (de_var 0) (da_cons (de_var 1) da_nil))))
    (ds_one (ds_ret (de_and (de_cmp (oq_or (oq_eq fun _ => hr) (fun i => oq_eqDict (fun _ => hr) i)) (lk_or lk_eq lk_dictEq) (de_var 3) (de_var 2) (nomark _)) (de_one (de_cmp (oq_eq fun _ => hr) lk_eq (dc_isi (T := "bool") (by decide) (by decide) (fun _ => T.b_isinstance) (da_cons (de_var 3) (da_cons (de_bltn (by intro _; rfl) (fun _ => T.b_bool) bt_bool (d := .ty "bool") (v := .ty "bool") rfl rfl) da_nil))) (dc_isi (T := "bool") (by decide) (by decide) (fun _ => T.b_isinstance) (da_cons (de_var 2) (da_cons (de_bltn (by intro _; rfl) (fun _ => T.b_bool) bt_bool (d := .ty "bool") (v := .ty "bool") rfl rfl) da_nil))) (nomark _)))))))))), fun ds S Q E h => ?_⟩), hm, hk, hb⟩
  obtain ⟨i, x, rfl, hi, gx, h⟩ := h
  have he : errC (e i) (eD e i x) := eD_c
  walk_at "go"
  refine o_isErr he (kt_c hi) ?_
  walk_at "go"
  refine o_isErr he (kt_v hi) ?_
  walk_at "go"
  refine ⟨20, rfl, by decide, by decide, ?_⟩
  refine o_lcG (fun d => d) (pickI i) trivial (small (by decide)) (fun y my Pz hP => ?_) (fun y my py Pz hP => ?_) ?_
  · obtain ⟨k, hk, rfl⟩ := rng20 my
    walk_at "go"
    refine ⟨i, x, rfl, hi, ?_⟩
    walk_at "go"
    refine o_ix rfl (show atI (flagsD i) (k : Int) = some (.bl (decide (i = k))) from flags_at hk) ?_
    walk_at "go"
    rw [pick_nat] at hP
    exact hP
  · walk_at "go"
    exact hP
  rw [List.map_id']
  rw [show (Int.toNat 20) = 20 from rfl, pick_one hi]
  walk_at "go"
  refine o_eqLI (ns := [(i : Int)]) (ms := [(i : Int)]) ?_
  rw [decide_eq_true rfl]
  walk_at "go"
  refine ifB (fun c => ?_) (fun c => ?_)
  · walk_at "go"
    exact h
  · have c : ¬ (i : Int) < 15 := of_decide_eq_false c
    have ee : eD e i x = err1D (e i) (fld i) x := by unfold eD; rw [if_neg (by omega)]
    walk_at "go"
    refine ⟨i, x, by rw [ee], by omega, hi, ?_⟩
    walk_at "go"
    refine self_eq gx ?_
    walk_at "go"
    refine o_isiP gx.1 ?_
    walk_at "go"
    refine o_isiP gx.1 ?_
    walk_at "go"
    refine o_eqB ?_
    rw [decide_eq_true rfl]
    exact h
def deepT : Nat → D
  | 0 => .tup []
  | n + 1 => .tup [deepT n]
theorem deep_py : ∀ n, ∃ p, pyD (deepT n) = some p ∧ p.depth ≤ n + 1 ∧ p.plain = true
  | 0 => ⟨.tuple [], rfl, by decide, rfl⟩
  | n + 1 => by
    obtain ⟨p, h1, h2, h3⟩ := deep_py n
    refine ⟨.tuple [p], by unfold deepT; rw [pyD, pyDs, h1, pyDs]; rfl, ?_, ?_⟩
    · simp [PyData.depth, PyData.depthAll]; omega
    · simp [PyData.plain, PyData.plainAll, h3]
theorem deep_good : goodT (deepT 24) := by
  obtain ⟨p, h1, h2, h3⟩ := deep_py 24
  exact ⟨rfl, .inr ⟨p, h1, by omega, h3⟩⟩
def spDeep0 : DSp := fun ds S Q E => ds = [] ∧ Q (deepT 24) S
theorem ok__law_deep (T : Txt K mg e cC) : Cal P w K mg base "_law_deep" 1 [] spDeep0 := by
  obtain ⟨f, fd, A, hm, hk, hb⟩ := T.d__law_deep
  refine ⟨f, fd, dfn A sc__law_deep (by intro ds S Q E h; obtain ⟨rfl, _⟩ := h; rfl) (fun cdv A outer s H E hr => ⟨_, (ds_cons (ds_set 0 (fun _ => sc__law_deep.nd) (de_tup da_nil))
    (ds_cons (ds_for (fun _ => bodyHp) (fun _ => rfl) (di_rng1 (by intro _; rfl) (fun _ => T.b_range) (da_cons de_int da_nil)) (dg_name 1 (fun _ => sc__law_deep.nd))
    (ds_one (ds_set 0 (fun _ => sc__law_deep.nd) (de_tup (da_cons (de_var 0) da_nil)))))
    (ds_one (ds_ret (de_var 0))))), fun ds S Q E h => ?_⟩), hm, hk, hb⟩
  obtain ⟨rfl, h⟩ := h
  walk_at "go"
  refine ⟨24, rfl, by decide, by decide, ?_⟩
  refine ⟨fun i ρ S' => S' = S ∧ ∃ o, ρ = [some (deepT i), o], ⟨rfl, none, rfl⟩, fun _ _ _ _ _ => trivial, ?_, ?_⟩
  · rintro i x ρ S1 hx ⟨rfl, o, rfl⟩
    walk_at "go"
    exact ⟨rfl, _, rfl⟩
  · rintro ρ S1 ⟨rfl, o, rfl⟩
    walk_at "go"
    exact h
end
open PySem PySem.Spec PyProof.Rows L2 Dy
section
variable {e : Nat → Addr} {cC : Addr} {P : Program} {w : World} {K : PySem.W.Frag} {mg : Str → Option Value} {base : Heap}
local macro_rules | `(tactic| walk_at "go1") => `(tactic| first | with_reducible refine c_xfP ?_)
theorem errI (T : Txt K mg e cC) {C : Addr} (h : ∃ i, i < 20 ∧ C = e i) : ErrI K C := by
  obtain ⟨i, hi, rfl⟩ := h
  exact (T.kit (e i) (.cls cC) true (kt_c hi)).1
theorem xfC (T : Txt K mg e cC) {C : Addr} (h : ∃ i, i < 20 ∧ C = e i) : XfC K C := by
  obtain ⟨i, hi, rfl⟩ := h
  exact T.xf i hi
def spFlagsP (e : Nat → Addr) (a C : Addr) (d : Option Addr) : DSp := fun ds S Q E => ∃ (i : Nat) (ed : D), ds = [ed] ∧ i < 20 ∧ C = e i ∧ exOf a d ed ∧ Q (.lst (flagsD i)) S
theorem okP__law_flags (T : Txt K mg e cC) {a C : Addr} {d : Option Addr} (hC : ∃ i, i < 20 ∧ C = e i) : CalP P w K mg base "_law_flags" 2 ["_law_error"] a C d (spFlagsP e a C d) := by
  obtain ⟨f, fd, A, hm, hk, hb⟩ := T.d__law_flags
  refine ⟨f, fd, fun oe z fv => dfnP z fv A sc__law_flags (by intro ds S Q E h; obtain ⟨_, _, rfl, _⟩ := h; rfl) (fun cdv A outer s H E hot hr => ⟨_, (ds_cons (ds_set 1 (fun _ => sc__law_flags.nd) (de_lst (da_cons (dc_isP T.kit hot (errI T hC) (fun _ => T.b_isinstance) (da_cons (de_var 0) (da_cons (de_glob (by intro _; rfl) (fun _ => T.c_NoRun) rfl (d := .cls _) (v := .ref _) rfl) da_nil))) (da_cons (dc_isP T.kit hot (errI T hC) (fun _ => T.b_isinstance) (da_cons (de_var 0) (da_cons (de_glob (by intro _; rfl) (fun _ => T.c_NoWorld) rfl (d := .cls _) (v := .ref _) rfl) da_nil))) (da_cons (dc_isP T.kit hot (errI T hC) (fun _ => T.b_isinstance) (da_cons (de_var 0) (da_cons (de_glob (by intro _; rfl) (fun _ => T.c_NoCopy) rfl (d := .cls _) (v := .ref _) rfl) da_nil))) da_nil)))))
    (ds_cons (ds_set 1 (fun _ => sc__law_flags.nd) (de_cat (de_var 1) (de_lst (da_cons (dc_isP T.kit hot (errI T hC) (fun _ => T.b_isinstance) (da_cons (de_var 0) (da_cons (de_glob (by intro _; rfl) (fun _ => T.c_NoCopies) rfl (d := .cls _) (v := .ref _) rfl) da_nil))) (da_cons (dc_isP T.kit hot (errI T hC) (fun _ => T.b_isinstance) (da_cons (de_var 0) (da_cons (de_glob (by intro _; rfl) (fun _ => T.c_NoOrder) rfl (d := .cls _) (v := .ref _) rfl) da_nil))) (da_cons (dc_isP T.kit hot (errI T hC) (fun _ => T.b_isinstance) (da_cons (de_var 0) (da_cons (de_glob (by intro _; rfl) (fun _ => T.c_NoLook) rfl (d := .cls _) (v := .ref _) rfl) da_nil))) da_nil))))))
    (ds_cons (ds_set 1 (fun _ => sc__law_flags.nd) (de_cat (de_var 1) (de_lst (da_cons (dc_isP T.kit hot (errI T hC) (fun _ => T.b_isinstance) (da_cons (de_var 0) (da_cons (de_glob (by intro _; rfl) (fun _ => T.c_NoQuestion) rfl (d := .cls _) (v := .ref _) rfl) da_nil))) (da_cons (dc_isP T.kit hot (errI T hC) (fun _ => T.b_isinstance) (da_cons (de_var 0) (da_cons (de_glob (by intro _; rfl) (fun _ => T.c_NoNumber) rfl (d := .cls _) (v := .ref _) rfl) da_nil))) (da_cons (dc_isP T.kit hot (errI T hC) (fun _ => T.b_isinstance) (da_cons (de_var 0) (da_cons (de_glob (by intro _; rfl) (fun _ => T.c_NoStamp) rfl (d := .cls _) (v := .ref _) rfl) da_nil))) da_nil))))))
    (ds_cons (ds_set 1 (fun _ => sc__law_flags.nd) (de_cat (de_var 1) (de_lst (da_cons (dc_isP T.kit hot (errI T hC) (fun _ => T.b_isinstance) (da_cons (de_var 0) (da_cons (de_glob (by intro _; rfl) (fun _ => T.c_NoStamps) rfl (d := .cls _) (v := .ref _) rfl) da_nil))) (da_cons (dc_isP T.kit hot (errI T hC) (fun _ => T.b_isinstance) (da_cons (de_var 0) (da_cons (de_glob (by intro _; rfl) (fun _ => T.c_NoCell) rfl (d := .cls _) (v := .ref _) rfl) da_nil))) (da_cons (dc_isP T.kit hot (errI T hC) (fun _ => T.b_isinstance) (da_cons (de_var 0) (da_cons (de_glob (by intro _; rfl) (fun _ => T.c_NoValue) rfl (d := .cls _) (v := .ref _) rfl) da_nil))) da_nil))))))
    (ds_cons (ds_set 1 (fun _ => sc__law_flags.nd) (de_cat (de_var 1) (de_lst (da_cons (dc_isP T.kit hot (errI T hC) (fun _ => T.b_isinstance) (da_cons (de_var 0) (da_cons (de_glob (by intro _; rfl) (fun _ => T.c_Full) rfl (d := .cls _) (v := .ref _) rfl) da_nil))) (da_cons (dc_isP T.kit hot (errI T hC) (fun _ => T.b_isinstance) (da_cons (de_var 0) (da_cons (de_glob (by intro _; rfl) (fun _ => T.c_LastCopy) rfl (d := .cls _) (v := .ref _) rfl) da_nil))) (da_cons (dc_isP T.kit hot (errI T hC) (fun _ => T.b_isinstance) (da_cons (de_var 0) (da_cons (de_glob (by intro _; rfl) (fun _ => T.c_NothingDone) rfl (d := .cls _) (v := .ref _) rfl) da_nil))) da_nil))))))
    (ds_cons (ds_set 1 (fun _ => sc__law_flags.nd) (de_cat (de_var 1) (de_lst (da_cons (dc_isP T.kit hot (errI T hC) (fun _ => T.b_isinstance) (da_cons (de_var 0) (da_cons (de_glob (by intro _; rfl) (fun _ => T.c_NotLet) rfl (d := .cls _) (v := .ref _) rfl) da_nil))) (da_cons (dc_isP T.kit hot (errI T hC) (fun _ => T.b_isinstance) (da_cons (de_var 0) (da_cons (de_glob (by intro _; rfl) (fun _ => T.c_BadLog) rfl (d := .cls _) (v := .ref _) rfl) da_nil))) (da_cons (dc_isP T.kit hot (errI T hC) (fun _ => T.b_isinstance) (da_cons (de_var 0) (da_cons (de_glob (by intro _; rfl) (fun _ => T.c_BadBook) rfl (d := .cls _) (v := .ref _) rfl) da_nil))) da_nil))))))
    (ds_one (ds_ret (de_cat (de_var 1) (de_lst (da_cons (dc_isP T.kit hot (errI T hC) (fun _ => T.b_isinstance) (da_cons (de_var 0) (da_cons (de_glob (by intro _; rfl) (fun _ => T.c_TooMany) rfl (d := .cls _) (v := .ref _) rfl) da_nil))) (da_cons (dc_isP T.kit hot (errI T hC) (fun _ => T.b_isinstance) (da_cons (de_var 0) (da_cons (de_glob (by intro _; rfl) (fun _ => T.c_BadText) rfl (d := .cls _) (v := .ref _) rfl) da_nil))) da_nil)))))))))))), fun ds S Q E h => ?_⟩), hm, hk, hb⟩
  obtain ⟨i, ed, rfl, hi, hCi, he, h⟩ := h
  have hj : ∀ j, j < 20 → ktE e cC C (.cls (e j)) (decide (i = j)) := fun j hj => hCi ▸ kt_j (e := e) (cC := cC) hi hj
  have one : ∀ (j : Nat) (S : Store) (Q : QD), j < 20 → Q (.bl (decide (i = j))) S → cIsP a C d (ktE e cC) [ed, .cls (e j)] S Q := fun j S Q h1 h2 => ⟨ed, .cls (e j), _, rfl, he, hj j h1, h2⟩
  walk_at "go"
  iterate 3
    refine one _ _ _ ?_ ?_
    decide
    walk_at "go"
  iterate 5
    refine one _ _ _ ?_ ?_
    decide
    walk_at "go"
    refine one _ _ _ ?_ ?_
    decide
    walk_at "go"
    refine one _ _ _ ?_ ?_
    decide
    walk_at "go"
    refine ⟨_, _, rfl, rfl, small (by simp), ?_⟩
    walk_at "go"
  iterate 2
    refine one _ _ _ ?_ ?_
    decide
    walk_at "go"
  refine ⟨_, _, rfl, rfl, small (by simp), ?_⟩
  walk_at "go"
  exact h
def spKeptP (e : Nat → Addr) (a C : Addr) (d : Option Addr) : DSp := fun ds S Q E => ∃ (i : Nat) (dd : Addr) (x : D), ds = [natD i, .exo a dd [fld i] [x]] ∧ 15 ≤ i ∧ i < 20 ∧ C = e i ∧ d = some dd ∧ Q x S
theorem okP__law_kept (T : Txt K mg e cC) {a C : Addr} {d : Option Addr} (hC : ∃ i, i < 20 ∧ C = e i) : CalP P w K mg base "_law_kept" 2 ["_law_which", "_law_error"] a C d (spKeptP e a C d) := by
  obtain ⟨f, fd, A, hm, hk, hb⟩ := T.d__law_kept
  refine ⟨f, fd, fun oe z fv => dfnP z fv A sc__law_kept (by intro ds S Q E h; obtain ⟨_, _, _, rfl, _⟩ := h; rfl) (fun cdv A outer s H E hot hr => ⟨_, (ds_cons (ds_if (dt_cmp (fun _ => op_lt) lk_lt (de_var 0) de_int (nomark _))
    (ds_one (ds_ret (de_xfP hot (xfC T hC) (de_var 1))))
    ds_nil)
    (ds_cons (ds_if (dt_cmp (oq_eqU fun _ => roomH_units hr) lk_eq (de_var 0) de_int (nomark _))
    (ds_one (ds_ret (de_xfP hot (xfC T hC) (de_var 1))))
    ds_nil)
    (ds_one (ds_ret (de_ifExp (dt_cmp (oq_eqU fun _ => roomH_units hr) lk_eq (de_var 0) de_int (nomark _)) (de_xfP hot (xfC T hC) (de_var 1)) (de_xfP hot (xfC T hC) (de_var 1))))))), fun ds S Q E h => ?_⟩), hm, hk, hb⟩
  obtain ⟨i, dd, x, rfl, h1, h2, hCi, hd, h⟩ := h
  have hno := T.xn i h1 h2
  rw [← hCi] at hno
  have get : ∀ (f : Str) (S : Store) (Q : QD), f = fld i → Q x S → oXfP K C a d f (.exo a dd [fld i] [x]) S Q := fun f S Q hf hq => ⟨hf ▸ hno, dd, _, _, x, hd, rfl, by rw [hf]; simp [List.lookup], hq⟩
  walk_at "go"
  refine ifB (fun c => ?_) (fun c => ?_)
  · have c : (i : Int) < 17 := of_decide_eq_true c
    walk_at "go"
    have hi : i = 15 ∨ i = 16 := by omega
    rcases hi with rfl | rfl
    · exact get _ _ _ rfl h
    · exact get _ _ _ rfl h
  · have c : ¬ (i : Int) < 17 := of_decide_eq_false c
    have hi : i = 17 ∨ i = 18 ∨ i = 19 := by omega
    rcases hi with rfl | rfl | rfl
    · walk_at "go"
      exact get _ _ _ rfl h
    · walk_at "go"
      exact get _ _ _ rfl h
    · walk_at "go"
      exact get _ _ _ rfl h
def spRightP (e : Nat → Addr) (a C : Addr) (d : Option Addr) : DSp := fun ds S Q E => ∃ (i : Nat) (ed x : D), ds = [natD i, ed, x] ∧ i < 20 ∧ C = e i ∧ exOf a d ed ∧ (15 ≤ i → ∃ dd, d = some dd ∧ ed = .exo a dd [fld i] [x]) ∧ goodT x ∧ Q (.bl true) S
theorem okP__law_is_right (T : Txt K mg e cC) {a C : Addr} {d : Option Addr} (hC : ∃ i, i < 20 ∧ C = e i) (c__law_flags : CalP P w K mg base "_law_flags" 2 ["_law_error"] a C d (spFlagsP e a C d)) (c__law_kept : CalP P w K mg base "_law_kept" 2 ["_law_which", "_law_error"] a C d (spKeptP e a C d)) : CalP P w K mg base "_law_is_right" 4 ["_law_which", "_law_error", "_law_thing"] a C d (spRightP e a C d) := by
  obtain ⟨f, fd, A, hm, hk, hb⟩ := T.d__law_is_right
  refine ⟨f, fd, fun oe z fv => dfnP z fv A sc__law_is_right (by intro ds S Q E h; obtain ⟨_, _, _, rfl, _⟩ := h; rfl) (fun cdv A outer s H E hot hr => ⟨_, (ds_cons (ds_if (DW.dt (dw_or (dt_not (dt_val (dc_isP T.kit hot (errI T hC) (fun _ => T.b_isinstance) (da_cons (de_var 1) (da_cons (de_glob (by intro _; rfl) (fun _ => T.c_CopyError) rfl (d := .cls _) (v := .ref _) rfl) da_nil))))) (dw_or1 (dt_not (dt_val (dc_isP T.kit hot (errI T hC) (fun _ => T.b_isinstance) (da_cons (de_var 1) (da_cons (de_bltn (by intro _; rfl) (fun _ => T.b_ValueError) bt_ValueError (d := .ty "ValueError") (v := .ty "ValueError") rfl rfl) da_nil))))))))
    (ds_one (ds_ret de_bl))
    ds_nil)
    (ds_cons (ds_if (dt_cmp (oq_neU fun _ => roomH_units hr) lk_ne (de_lcP 4 hot (fun _ => sc__law_is_right.nd) (di_rng1P (by intro _; rfl) (fun _ => T.b_range) (da_cons de_int da_nil)) (fun _ => blkOk_by (N := N__law_is_right) (sc := defScope s__law_is_right) (by decide +kernel)) (dts_one (dt_val (de_at (de_callP (fun _ => c__law_flags) hot.blk (fun _ => hr) (by omega) (fun _ => takes0) (da_cons (de_var 1) da_nil)) (de_var 4)))) (de_var 4) (fun _ => pg_name (i := 4) sc__law_is_right.nd rfl (Or.inl rfl))) (de_lst (da_cons (de_var 0) da_nil)) (nomark _))
    (ds_one (ds_ret de_bl))
    ds_nil)
    (ds_cons (ds_if (dt_cmp (fun _ => op_lt) lk_lt (de_var 0) de_int (nomark _))
    (ds_one (ds_ret de_bl))
    ds_nil)
    (ds_cons (ds_set 3 (fun _ => sc__law_is_right.nd) (de_callP (fun _ => c__law_kept) hot (fun _ => hr) (by omega) (fun _ => bodyTkP) (da_cons (de_var 0) (da_cons (de_var 1) da_nil))))
    (ds_one (ds_ret (de_and (de_cmp (oq_or (oq_eqU fun _ => roomH_units hr) (oq_eqDictU fun _ => roomH_units hr)) (lk_or lk_eq lk_dictEq) (de_var 3) (de_var 2) (nomark _)) (de_one (de_cmp (oq_eqU fun _ => roomH_units hr) lk_eq (dc_isi (T := "bool") (by decide) (by decide) (fun _ => T.b_isinstance) (da_cons (de_var 3) (da_cons (de_bltn (by intro _; rfl) (fun _ => T.b_bool) bt_bool (d := .ty "bool") (v := .ty "bool") rfl rfl) da_nil))) (dc_isi (T := "bool") (by decide) (by decide) (fun _ => T.b_isinstance) (da_cons (de_var 2) (da_cons (de_bltn (by intro _; rfl) (fun _ => T.b_bool) bt_bool (d := .ty "bool") (v := .ty "bool") rfl rfl) da_nil))) (nomark _)))))))))), fun ds S Q E h => ?_⟩), hm, hk, hb⟩
  obtain ⟨i, ed, x, rfl, hi, hCi, he, hx, gx, h⟩ := h
  walk_at "go"
  refine ⟨ed, _, true, rfl, he, hCi ▸ kt_c hi, ?_⟩
  walk_at "go"
  refine ⟨ed, _, true, rfl, he, hCi ▸ kt_v hi, ?_⟩
  walk_at "go"
  refine ⟨20, rfl, by decide, by decide, ?_⟩
  refine o_lcG (fun d => d) (pickI i) trivial (small (by decide)) (fun y my Pz hP => ?_) (fun y my py Pz hP => ?_) ?_
  · obtain ⟨k, hk, rfl⟩ := rng20 my
    walk_at "go"
    refine ⟨i, ed, rfl, hi, hCi, he, ?_⟩
    walk_at "go"
    refine o_ix rfl (show atI (flagsD i) (k : Int) = some (.bl (decide (i = k))) from flags_at hk) ?_
    walk_at "go"
    rw [pick_nat] at hP
    exact hP
  · walk_at "go"
    exact hP
  rw [List.map_id']
  rw [show (Int.toNat 20) = 20 from rfl, pick_one hi]
  walk_at "go"
  refine o_eqLI (ns := [(i : Int)]) (ms := [(i : Int)]) ?_
  rw [decide_eq_true rfl]
  walk_at "go"
  refine ifB (fun c => ?_) (fun c => ?_)
  · walk_at "go"
    exact h
  · have c : ¬ (i : Int) < 15 := of_decide_eq_false c
    obtain ⟨dd, hd, rfl⟩ := hx (by omega)
    walk_at "go"
    refine ⟨i, dd, x, rfl, by omega, hi, hCi, hd, ?_⟩
    walk_at "go"
    refine self_eq gx ?_
    walk_at "go"
    refine o_isiP gx.1 ?_
    walk_at "go"
    refine o_isiP gx.1 ?_
    walk_at "go"
    refine o_eqB ?_
    rw [decide_eq_true rfl]
    exact h
open Classical in
noncomputable def emE (e : Nat → Addr) (C : Addr) : Option Bool := if ∃ i, i < 20 ∧ C = e i then some true else none
theorem emE_ok (T : Txt K mg e cC) : ∀ C b, emE e C = some b → PySem.W.exmOne K (.ref C) (.ref cC) = some b := fun C b h => by
  unfold emE at h
  split at h
  · rename_i c
    obtain ⟨i, hi, rfl⟩ := c
    cases h
    exact T.em i hi
  · cases h
theorem emE_i {i : Nat} (hi : i < 20) : emE e (e i) = some true := by
  unfold emE
  rw [if_pos ⟨i, hi, rfl⟩]
def spCaught : DSp := fun ds S Q E => ∃ (i : Nat) (x : D), ds = [natD i, x] ∧ (i = 3 ∨ i = 15 ∨ i = 18) ∧ goodT x ∧ Q (.bl true) S
theorem ok__law_is_caught (T : Txt K mg e cC) (c__law_is_right : ∀ (a C : Addr) (d : Option Addr), (∃ i, i < 20 ∧ C = e i) → CalP P w K mg base "_law_is_right" 4 ["_law_which", "_law_error", "_law_thing"] a C d (spRightP e a C d)) (e_NotLet : CalE P w K mg base "NotLet" (e 15) "index") (e_TooMany : CalE P w K mg base "TooMany" (e 18) "most") :
    Cal P w K mg base "_law_is_caught" 9 ["_law_which", "_law_thing"] spCaught := by
  obtain ⟨f, fd, A, hm, hk, hb⟩ := T.d__law_is_caught
  refine ⟨f, fd, dfn A sc__law_is_caught (by intro ds S Q E h; obtain ⟨_, _, rfl, _⟩ := h; rfl) (fun cdv A outer s H E hr => ⟨_, (ds_cons (ds_set 2 (fun _ => sc__law_is_caught.nd) de_bl)
    (ds_cons (ds_tryN 3 (emE_ok T) (fun _ => rfl) (fun _ => rfl) (fun _ => sc__law_is_caught.nd) (fun _ => ⟨rfl, by decide, .inl T.c_CopyError⟩) (fun W2 => (ds_cons (ds_if (dt_cmp (oq_eq fun _ => hr) lk_eq (de_var 0) de_int (nomark _))
    (ds_one (ds_raise0N (fun _ => rfl) T.e_NoCopies (fun j => trN_tk j) (fun _ => T.c_NoCopies)))
    ds_nil)
    (ds_cons (ds_if (dt_cmp (oq_eq fun _ => hr) lk_eq (de_var 0) de_int (nomark _))
    (ds_one (ds_raiseCN (fun _ => rfl) e_NotLet (fun _ => rfl) (fun _ => rfl) (fun _ => rfl) (fun _ => rfl) (fun j => trN_tk j) (fun _ => hr) (by omega) (de_var 1)))
    ds_nil)
    (ds_one (ds_raiseCN (fun _ => rfl) e_TooMany (fun _ => rfl) (fun _ => rfl) (fun _ => rfl) (fun _ => rfl) (fun j => trN_tk j) (fun _ => hr) (by omega) (de_var 1))))))
    (su_if (PC := fun C => ∃ i, i < 20 ∧ C = e i) (fun a x d hC => (ds_one (ds_set 2 (fun _ => sc__law_is_caught.nd) (de_callP (k2 := 8) (fun _ => c__law_is_right a x.C d hC) hot_suN (fun _ => ⟨hr.dp, hr.un⟩) (by omega) (fun _ => takes0) (da_cons (de_var 0) (da_cons (de_var 3) (da_cons (de_var 1) da_nil)))))))))
    (ds_one (ds_ret (de_var 2))))), fun ds S Q E h => ?_⟩), hm, hk, hb⟩
  obtain ⟨i, x, rfl, hi, gx, h⟩ := h
  walk_at "go"
  refine s_tryN ?_
  walk_at "go"
  rw [Bool.false_xor]
  refine ifD (fun c => ?_) (fun c => ?_)
  · obtain rfl : i = 3 := by omega
    walk_at "go"
    refine ⟨emE_i (by decide), fun a d hd => ⟨⟨3, by decide, rfl⟩, ?_⟩⟩
    cases d with
    | some dd => cases hd
    | none =>
      dsimp only
      rw [show exV a none ⟨e 3, none⟩ = .cls a from rfl]
      walk_at "go"
      refine ⟨3, .cls a, x, rfl, by decide, rfl, rfl, fun z => absurd z (by decide), gx, ?_⟩
      walk_at "go"
      exact h
  walk_at "go"
  rw [Bool.false_xor]
  refine ifD (fun c2 => ?_) (fun c2 => ?_)
  · obtain rfl : i = 15 := by omega
    walk_at "go"
    refine ⟨emE_i (by decide), fun a d hd => ⟨⟨15, by decide, rfl⟩, ?_⟩⟩
    cases d with
    | none => cases hd
    | some dd =>
      dsimp only
      rw [show exV a (some dd) ⟨e 15, some [("index", x)]⟩ = .exo a dd [fld 15] [x] from rfl]
      walk_at "go"
      refine ⟨15, .exo a dd [fld 15] [x], x, rfl, by decide, rfl, ⟨_, _, rfl⟩, fun z => ⟨dd, rfl, rfl⟩, gx, ?_⟩
      walk_at "go"
      exact h
  · obtain rfl : i = 18 := by omega
    walk_at "go"
    refine ⟨emE_i (by decide), fun a d hd => ⟨⟨18, by decide, rfl⟩, ?_⟩⟩
    cases d with
    | none => cases hd
    | some dd =>
      dsimp only
      rw [show exV a (some dd) ⟨e 18, some [("most", x)]⟩ = .exo a dd [fld 18] [x] from rfl]
      walk_at "go"
      refine ⟨18, .exo a dd [fld 18] [x], x, rfl, by decide, rfl, ⟨_, _, rfl⟩, fun z => ⟨dd, rfl, rfl⟩, gx, ?_⟩
      walk_at "go"
      exact h
end
open PySem PySem.Spec PyProof.Rows L2 Dy
section
variable {e : Nat → Addr} {cC : Addr} {P : Program} {w : World} {K : PySem.W.Frag} {mg : Str → Option Value} {base : Heap}
theorem good_thing {x : D} (h : x ∈ [D.non, .bl true, .bl false, .int 0, .int 1, .int (-7), .int (10 ^ 30), .str "forks", .str "", .tup [.int 1, .str "a"], .lst [.int 0, .non], .dic [] [], deepT 24]) : goodT x := by
  simp only [List.mem_cons, List.not_mem_nil, or_false] at h
  rcases h with rfl | rfl | rfl | rfl | rfl | rfl | rfl | rfl | rfl | rfl | rfl | rfl | rfl
  all_goals first
    | exact deep_good
    | exact ⟨rfl, .inl rfl⟩
    | exact ⟨rfl, .inr ⟨_, rfl, by decide, rfl⟩⟩
    | exact ⟨rfl, .inr ⟨_, rfl, by simp [PyData.depth, PyData.depthAll], rfl⟩⟩
theorem okF_law (T : Txt K mg e cC) (c__law_pot : Cal P w K mg base "_law_pot" 1 ["_law_script"] spPot) (c__law_draw : Cal P w K mg base "_law_draw" 1 ["_law_pot_here", "_law_many"] spDraw) (c__law_any : Cal P w K mg base "_law_any" 2 ["_law_pot_here", "_law_items"] spAny) (c__law_deep : Cal P w K mg base "_law_deep" 1 [] spDeep0) (c__law_made : Cal P w K mg base "_law_made" 3 ["_law_which", "_law_thing"] (spMade e)) (c__law_is_right : Cal P w K mg base "_law_is_right" 4 ["_law_which", "_law_error", "_law_thing"] (spRightE e)) (c__law_is_caught : Cal P w K mg base "_law_is_caught" 9 ["_law_which", "_law_thing"] spCaught) {f : Addr} {fd : FuncData} (A : Fun K "law" "law" s_law f fd) : FnOk P w K mg base (L2.CX P w) 60 f fd ["_law_script"] (liftSp K spLaw) := by
  refine dfn A sc_law (by intro ds S Q E h; obtain ⟨_, rfl, _⟩ := h; rfl) (fun cdv A outer s H E hr => ⟨_, (ds_cons (ds_set 1 (fun _ => sc_law.nd) (de_callC (fun _ => c__law_pot) (fun _ => hr) (by omega) (fun _ => bodyTk) (da_cons (de_var 0) da_nil)))
    (ds_cons (ds_for (fun _ => bodyHp) (fun _ => rfl) (di_rng1 (by intro _; rfl) (fun _ => T.b_range) (da_cons de_int da_nil)) (dg_name 2 (fun _ => sc_law.nd))
    (ds_cons (ds_set 3 (fun _ => sc_law.nd) (de_lst (da_cons de_non (da_cons de_bl (da_cons de_bl (da_cons de_int (da_cons de_int (da_cons (de_neg de_int) (da_cons (de_pow de_int de_int) (da_cons de_str (da_cons de_str (da_cons (de_tup (da_cons de_int (da_cons de_str da_nil))) (da_cons (de_lst (da_cons de_int (da_cons de_non da_nil))) (da_cons de_dnil (da_cons (de_callC0 (fun _ => c__law_deep) (fun _ => hr) (by omega) (fun _ => bodyTk)) da_nil)))))))))))))))
    (ds_cons (ds_set 4 (fun _ => sc_law.nd) (de_callC (fun _ => c__law_any) (fun _ => hr) (by omega) (fun _ => bodyTk) (da_cons (de_var 1) (da_cons (de_var 3) da_nil))))
    (ds_cons (ds_set 5 (fun _ => sc_law.nd) (de_callC (fun _ => c__law_draw) (fun _ => hr) (by omega) (fun _ => bodyTk) (da_cons (de_var 1) (da_cons de_int da_nil))))
    (ds_cons (ds_if (dt_not (dt_val (de_callC (fun _ => c__law_is_right) (fun _ => hr) (by omega) (fun _ => bodyTk) (da_cons (de_var 5) (da_cons (de_callC (fun _ => c__law_made) (fun _ => hr) (by omega) (fun _ => bodyTk) (da_cons (de_var 5) (da_cons (de_var 4) da_nil))) (da_cons (de_var 4) da_nil))))))
    (ds_one (ds_ret de_bl))
    ds_nil)
    (ds_cons (ds_set 5 (fun _ => sc_law.nd) (de_add de_int (de_callC (fun _ => c__law_draw) (fun _ => hr) (by omega) (fun _ => bodyTk) (da_cons (de_var 1) (da_cons de_int da_nil)))))
    (ds_cons (ds_if (dt_not (dt_val (de_callC (fun _ => c__law_is_right) (fun _ => hr) (by omega) (fun _ => bodyTk) (da_cons (de_var 5) (da_cons (de_callC (fun _ => c__law_made) (fun _ => hr) (by omega) (fun _ => bodyTk) (da_cons (de_var 5) (da_cons (de_var 4) da_nil))) (da_cons (de_var 4) da_nil))))))
    (ds_one (ds_ret de_bl))
    ds_nil)
    (ds_one (ds_if (dt_not (dt_val (de_callC (fun _ => c__law_is_caught) (fun _ => hr) (by omega) (fun _ => bodyTk) (da_cons (de_callC (fun _ => c__law_any) (fun _ => hr) (by omega) (fun _ => bodyTk) (da_cons (de_var 1) (da_cons (de_lst (da_cons de_int (da_cons de_int (da_cons de_int da_nil)))) da_nil))) (da_cons (de_var 4) da_nil)))))
    (ds_one (ds_ret de_bl))
    ds_nil)))))))))
    (ds_one (ds_ret de_bl)))), fun ds S Q E h => ?_⟩)
  obtain ⟨ns, rfl, rfl, h⟩ := h
  walk_at "go"
  refine ⟨ns, rfl, fun S0 n g hp0 hl0 hn0 hk0 => ?_⟩
  have draw : ∀ (k : Int) (S' : Store) (Pq : QD) (E : XQ), 1 ≤ k → k ≤ 1000 → PotAt S' n g → (∀ (r : Nat) S2, (r : Int) < k → PotAt S2 n g → Pq (.int (r : Int)) S2) → spDraw [.ref n, .int k] S' Pq E := fun k S' Pq E k1 k2 hp' hP =>
    ⟨n, g, k, rfl, hp', by omega, by
      obtain ⟨m, rfl⟩ := Int.eq_ofNat_of_zero_le (show 0 ≤ k by omega)
      exact log_len (small (by omega)), fun r S2 r0 r1 hp2 k2 => by
      obtain ⟨r, rfl⟩ := Int.eq_ofNat_of_zero_le r0
      exact hP r S2 r1 hp2⟩
  walk_at "go"
  refine ⟨8, rfl, by decide, by decide, ?_⟩
  refine ⟨fun i ρ S' => PotAt S' n g ∧ ∃ (o2 o3 o4 o5 : Option D), ρ = [some (.frz (ns.map .int)), some (.ref n), o2, o3, o4, o5], ⟨hp0, none, none, none, none, rfl⟩, fun _ _ _ _ _ => trivial, ?_, ?_⟩
  · rintro i y ρ S1 hx ⟨hp1, o2, o3, o4, o5, rfl⟩
    walk_at "go"
    refine ⟨rfl, ?_⟩
    walk_at "go"
    refine ⟨n, g, _, _, rfl, hp1, fun _ _ => rfl, by simp, small (by show 13 ≤ 100000; decide), fun x S2 mx hp2 k2 => ?_⟩
    have gx := good_thing mx
    walk_at "go"
    refine draw 15 S2 _ _ (by decide) (by decide) hp2 fun r S3 hr hp3 => ?_
    walk_at "go"
    refine ⟨r, x, rfl, by omega, ?_⟩
    walk_at "go"
    refine ⟨r, x, rfl, by omega, gx, ?_⟩
    walk_at "go"
    refine draw 5 S3 _ _ (by decide) (by decide) hp3 fun q S4 hq hp4 => ?_
    walk_at "go"
    rw [show D.int (15 + (q : Int)) = natD (15 + q) by show _ = D.int ((15 + q : Nat) : Int); congr 1]
    refine ⟨15 + q, x, rfl, by omega, ?_⟩
    walk_at "go"
    refine ⟨15 + q, x, rfl, by omega, gx, ?_⟩
    walk_at "go"
    refine ⟨n, g, _, _, rfl, hp4, fun _ _ => rfl, by simp, small (by show 3 ≤ 100000; decide), fun y2 S5 my hp5 k5 => ?_⟩
    obtain ⟨k, hk, rfl⟩ : ∃ k : Nat, (k = 3 ∨ k = 15 ∨ k = 18) ∧ y2 = natD k := by
      simp only [List.mem_cons, List.not_mem_nil, or_false] at my
      rcases my with rfl | rfl | rfl
      · exact ⟨3, .inl rfl, rfl⟩
      · exact ⟨15, .inr (.inl rfl), rfl⟩
      · exact ⟨18, .inr (.inr rfl), rfl⟩
    walk_at "go"
    refine ⟨k, x, rfl, hk, gx, ?_⟩
    walk_at "go"
    exact ⟨hp5, _, _, _, _, rfl⟩
  · rintro ρ S1 ⟨hp1, o2, o3, o4, o5, rfl⟩
    walk_at "go"
    exact h S1
end
open PySem PySem.Spec PyProof.Rows L2 Dy
theorem kit_self {K : PySem.W.Frag} {C : Addr} : PySem.W.kitOne K (.ref C) (.ref C) = some true := by
  unfold PySem.W.kitOne
  rw [if_pos (by simp)]
theorem kit_no {K : PySem.W.Frag} {C D : Addr} {b : Bool} (hne : ¬ C = D) (h2 : PySem.W.isClsIn K D = true) (h3 : PySem.W.typeIn K (.ref D) = some (.type "type")) (h : PySem.W.subIn K (.ref C) (.ref D) = some b) : PySem.W.kitOne K (.ref C) (.ref D) = some b := by
  unfold PySem.W.kitOne
  have q : ¬ ((Value.ref C == Value.ref D) = true) := by
    intro z
    first
      | exact hne (Value.ref.inj (eq_of_beq z))
      | (simp at z; exact hne z)
      | exact hne (by simpa using z)
  rw [if_neg q]
  unfold PySem.W.kitCls
  have e2 : ((PySem.W.clsIn K D).isSome && PySem.W.typeIn K (.ref D) == some (.type "type")) = true := by
    have h2' : (PySem.W.clsIn K D).isSome = true := h2
    rw [h2', h3]; rfl
  exact (if_pos e2).trans h
theorem kit_all {K : PySem.W.Frag} {l : List Addr} {cC : Addr} (nd : l.Nodup) (hs : ((List.range 20).all fun i => (List.range 20).all fun j => decide (i = j) || (PySem.W.subIn K (.ref (l.getD i 0)) (.ref (l.getD j 0)) == some false)) = true) (eI : ∀ i, i < 20 → ErrI K (l.getD i 0))
    (iA : ∀ i, i < 20 → PySem.W.isClsIn K (l.getD i 0) = true ∧ PySem.W.typeIn K (.ref (l.getD i 0)) = some (.type "type") ∧ PySem.W.subIn K (.ref (l.getD i 0)) (.type "ValueError") = some true ∧ PySem.W.subIn K (.ref (l.getD i 0)) (.ref cC) = some true ∧ l.getD i 0 ≠ cC) (h1 : PySem.W.isClsIn K cC = true) (h2 : PySem.W.typeIn K (.ref cC) = some (.type "type")) (h20 : l.length = 20 := by rfl) :
    KitE K (ktE (fun i => l.getD i 0) cC) := by
  rintro C c b ⟨i, hi, rfl, h⟩
  refine ⟨eI i hi, ?_⟩
  obtain ⟨a1, a2, a3, a4, a5⟩ := iA i hi
  rcases h with ⟨rfl, rfl⟩ | ⟨rfl, rfl⟩ | ⟨j, hj, rfl, rfl⟩
  · exact .inl ⟨_, rfl, kit_ty_of a3⟩
  · exact .inr ⟨_, rfl, kit_no a5 h1 h2 a4⟩
  · refine .inr ⟨_, rfl, ?_⟩
    by_cases e : i = j
    · subst e
      rw [decide_eq_true rfl]
      exact kit_self
    · rw [decide_eq_false e]
      obtain ⟨b1, b2, _⟩ := iA j hj
      refine kit_no (fun z => e ?_) b1 b2 ?_
      · have z : l.getD i 0 = l.getD j 0 := z
        rw [List.getD_eq_getElem?_getD, List.getD_eq_getElem?_getD, List.getElem?_eq_getElem (show i < l.length by omega), List.getElem?_eq_getElem (show j < l.length by omega)] at z
        exact (List.getElem_inj nd).mp z
      · have q := List.all_eq_true.mp (List.all_eq_true.mp hs i (List.mem_range.mpr hi)) j (List.mem_range.mpr hj)
        rw [decide_eq_false e, Bool.false_or] at q
        exact eq_of_beq q
theorem all_mk {l : PySem.W.OpenLaw} {w : World} {K : PySem.W.Frag} {h : Heap} {mg : Str → Option Value} {fa : Addr} (X : K.In h) (G : h.Ns mainGlobals mg) (hfa : mg "law" = some (.ref fa))
    {od__law_pot an__law_pot : Option Addr} {sl__law_pot : Array (Option Value)} {oc__law_pot kV__law_pot dc__law_pot pm__law_pot cd__law_pot ct__law_pot : Value} {f__law_pot : Addr}
    {od__law_draw an__law_draw : Option Addr} {sl__law_draw : Array (Option Value)} {oc__law_draw kV__law_draw dc__law_draw pm__law_draw cd__law_draw ct__law_draw : Value} {f__law_draw : Addr}
    {od__law_any an__law_any : Option Addr} {sl__law_any : Array (Option Value)} {oc__law_any kV__law_any dc__law_any pm__law_any cd__law_any ct__law_any : Value} {f__law_any : Addr}
    {od__law_deep an__law_deep : Option Addr} {sl__law_deep : Array (Option Value)} {oc__law_deep kV__law_deep dc__law_deep pm__law_deep cd__law_deep ct__law_deep : Value} {f__law_deep : Addr}
    {od__law_made an__law_made : Option Addr} {sl__law_made : Array (Option Value)} {oc__law_made kV__law_made dc__law_made pm__law_made cd__law_made ct__law_made : Value} {f__law_made : Addr}
    {od__law_flags an__law_flags : Option Addr} {sl__law_flags : Array (Option Value)} {oc__law_flags kV__law_flags dc__law_flags pm__law_flags cd__law_flags ct__law_flags : Value} {f__law_flags : Addr}
    {od__law_kept an__law_kept : Option Addr} {sl__law_kept : Array (Option Value)} {oc__law_kept kV__law_kept dc__law_kept pm__law_kept cd__law_kept ct__law_kept : Value} {f__law_kept : Addr}
    {od__law_is_right an__law_is_right : Option Addr} {sl__law_is_right : Array (Option Value)} {oc__law_is_right kV__law_is_right dc__law_is_right pm__law_is_right cd__law_is_right ct__law_is_right : Value} {f__law_is_right : Addr}
    {od__law_is_caught an__law_is_caught : Option Addr} {sl__law_is_caught : Array (Option Value)} {oc__law_is_caught kV__law_is_caught dc__law_is_caught pm__law_is_caught cd__law_is_caught ct__law_is_caught : Value} {f__law_is_caught : Addr}
    {od_law an_law : Option Addr} {sl_law : Array (Option Value)} {oc_law kV_law dc_law pm_law cd_law ct_law : Value} {f_law : Addr}
    {cCopyError : Addr}
    {cNoRun : Addr}
    {cNoWorld : Addr}
    {cNoCopy : Addr}
    {cNoCopies : Addr}
    {cNoOrder : Addr}
    {cNoLook : Addr}
    {cNoQuestion : Addr}
    {cNoNumber : Addr}
    {cNoStamp : Addr}
    {cNoStamps : Addr}
    {cNoCell : Addr}
    {cNoValue : Addr}
    {cFull : Addr}
    {cLastCopy : Addr}
    {cNothingDone : Addr}
    {cNotLet : Addr}
    {cBadLog : Addr}
    {cBadBook : Addr}
    {cTooMany : Addr}
    {cBadText : Addr}
    {nm_NotLet q_NotLet : Str} {N_NotLet : Addr} {bs_NotLet sub_NotLet : List Value} {sn_NotLet : List Str} {ab_NotLet : Bool} {col_NotLet : Option Bool} {dd_NotLet : Option Addr} {m0_NotLet m1_NotLet m2_NotLet m3_NotLet m5_NotLet : Option Value} {bm_NotLet : List Value}
    {od_NotLet___init__ an_NotLet___init__ : Option Addr} {sl_NotLet___init__ : Array (Option Value)} {oc_NotLet___init__ kV_NotLet___init__ dc_NotLet___init__ pm_NotLet___init__ cd_NotLet___init__ ct_NotLet___init__ : Value} {f_NotLet___init__ : Addr}
    {nm_BadLog q_BadLog : Str} {N_BadLog : Addr} {bs_BadLog sub_BadLog : List Value} {sn_BadLog : List Str} {ab_BadLog : Bool} {col_BadLog : Option Bool} {dd_BadLog : Option Addr} {m0_BadLog m1_BadLog m2_BadLog m3_BadLog m5_BadLog : Option Value} {bm_BadLog : List Value}
    {od_BadLog___init__ an_BadLog___init__ : Option Addr} {sl_BadLog___init__ : Array (Option Value)} {oc_BadLog___init__ kV_BadLog___init__ dc_BadLog___init__ pm_BadLog___init__ cd_BadLog___init__ ct_BadLog___init__ : Value} {f_BadLog___init__ : Addr}
    {nm_BadBook q_BadBook : Str} {N_BadBook : Addr} {bs_BadBook sub_BadBook : List Value} {sn_BadBook : List Str} {ab_BadBook : Bool} {col_BadBook : Option Bool} {dd_BadBook : Option Addr} {m0_BadBook m1_BadBook m2_BadBook m3_BadBook m5_BadBook : Option Value} {bm_BadBook : List Value}
    {od_BadBook___init__ an_BadBook___init__ : Option Addr} {sl_BadBook___init__ : Array (Option Value)} {oc_BadBook___init__ kV_BadBook___init__ dc_BadBook___init__ pm_BadBook___init__ cd_BadBook___init__ ct_BadBook___init__ : Value} {f_BadBook___init__ : Addr}
    {nm_TooMany q_TooMany : Str} {N_TooMany : Addr} {bs_TooMany sub_TooMany : List Value} {sn_TooMany : List Str} {ab_TooMany : Bool} {col_TooMany : Option Bool} {dd_TooMany : Option Addr} {m0_TooMany m1_TooMany m2_TooMany m3_TooMany m5_TooMany : Option Value} {bm_TooMany : List Value}
    {od_TooMany___init__ an_TooMany___init__ : Option Addr} {sl_TooMany___init__ : Array (Option Value)} {oc_TooMany___init__ kV_TooMany___init__ dc_TooMany___init__ pm_TooMany___init__ cd_TooMany___init__ ct_TooMany___init__ : Value} {f_TooMany___init__ : Addr}
    {nm_BadText q_BadText : Str} {N_BadText : Addr} {bs_BadText sub_BadText : List Value} {sn_BadText : List Str} {ab_BadText : Bool} {col_BadText : Option Bool} {dd_BadText : Option Addr} {m0_BadText m1_BadText m2_BadText m3_BadText m5_BadText : Option Value} {bm_BadText : List Value}
    {od_BadText___init__ an_BadText___init__ : Option Addr} {sl_BadText___init__ : Array (Option Value)} {oc_BadText___init__ kV_BadText___init__ dc_BadText___init__ pm_BadText___init__ cd_BadText___init__ ct_BadText___init__ : Value} {f_BadText___init__ : Addr}
    (z_ValueError : PySem.W.nsIn K mainGlobals "ValueError" = some none)
    (z_abs : PySem.W.nsIn K mainGlobals "abs" = some none)
    (z_all : PySem.W.nsIn K mainGlobals "all" = some none)
    (z_any : PySem.W.nsIn K mainGlobals "any" = some none)
    (z_bool : PySem.W.nsIn K mainGlobals "bool" = some none)
    (z_dict : PySem.W.nsIn K mainGlobals "dict" = some none)
    (z_enumerate : PySem.W.nsIn K mainGlobals "enumerate" = some none)
    (z_int : PySem.W.nsIn K mainGlobals "int" = some none)
    (z_isinstance : PySem.W.nsIn K mainGlobals "isinstance" = some none)
    (z_len : PySem.W.nsIn K mainGlobals "len" = some none)
    (z_list : PySem.W.nsIn K mainGlobals "list" = some none)
    (z_max : PySem.W.nsIn K mainGlobals "max" = some none)
    (z_min : PySem.W.nsIn K mainGlobals "min" = some none)
    (z_range : PySem.W.nsIn K mainGlobals "range" = some none)
    (z_set : PySem.W.nsIn K mainGlobals "set" = some none)
    (z_sorted : PySem.W.nsIn K mainGlobals "sorted" = some none)
    (z_str : PySem.W.nsIn K mainGlobals "str" = some none)
    (z_sum : PySem.W.nsIn K mainGlobals "sum" = some none)
    (z_tuple : PySem.W.nsIn K mainGlobals "tuple" = some none)
    (z_type : PySem.W.nsIn K mainGlobals "type" = some none)
    (z_zip : PySem.W.nsIn K mainGlobals "zip" = some none)
    (a__law_pot : PySem.W.nsIn K mainGlobals "_law_pot" = some (some (.ref f__law_pot)))
    (l__law_pot : K.lookup f__law_pot = some ⟨oc__law_pot, od__law_pot, .func (PySem.W.fnOf "_law_pot" "_law_pot" (defArgs s__law_pot) (defBody s__law_pot) (defScope s__law_pot) .none kV__law_pot dc__law_pot pm__law_pot an__law_pot cd__law_pot ct__law_pot), sl__law_pot⟩)
    (c__law_pot : PySem.W.codeIn K cd__law_pot "_law_pot" = true)
    (k__law_pot : PySem.W.keepIn K (.ref f__law_pot) = true)
    (a__law_draw : PySem.W.nsIn K mainGlobals "_law_draw" = some (some (.ref f__law_draw)))
    (l__law_draw : K.lookup f__law_draw = some ⟨oc__law_draw, od__law_draw, .func (PySem.W.fnOf "_law_draw" "_law_draw" (defArgs s__law_draw) (defBody s__law_draw) (defScope s__law_draw) .none kV__law_draw dc__law_draw pm__law_draw an__law_draw cd__law_draw ct__law_draw), sl__law_draw⟩)
    (c__law_draw : PySem.W.codeIn K cd__law_draw "_law_draw" = true)
    (k__law_draw : PySem.W.keepIn K (.ref f__law_draw) = true)
    (a__law_any : PySem.W.nsIn K mainGlobals "_law_any" = some (some (.ref f__law_any)))
    (l__law_any : K.lookup f__law_any = some ⟨oc__law_any, od__law_any, .func (PySem.W.fnOf "_law_any" "_law_any" (defArgs s__law_any) (defBody s__law_any) (defScope s__law_any) .none kV__law_any dc__law_any pm__law_any an__law_any cd__law_any ct__law_any), sl__law_any⟩)
    (c__law_any : PySem.W.codeIn K cd__law_any "_law_any" = true)
    (k__law_any : PySem.W.keepIn K (.ref f__law_any) = true)
    (a__law_deep : PySem.W.nsIn K mainGlobals "_law_deep" = some (some (.ref f__law_deep)))
    (l__law_deep : K.lookup f__law_deep = some ⟨oc__law_deep, od__law_deep, .func (PySem.W.fnOf "_law_deep" "_law_deep" (defArgs s__law_deep) (defBody s__law_deep) (defScope s__law_deep) .none kV__law_deep dc__law_deep pm__law_deep an__law_deep cd__law_deep ct__law_deep), sl__law_deep⟩)
    (c__law_deep : PySem.W.codeIn K cd__law_deep "_law_deep" = true)
    (k__law_deep : PySem.W.keepIn K (.ref f__law_deep) = true)
    (a__law_made : PySem.W.nsIn K mainGlobals "_law_made" = some (some (.ref f__law_made)))
    (l__law_made : K.lookup f__law_made = some ⟨oc__law_made, od__law_made, .func (PySem.W.fnOf "_law_made" "_law_made" (defArgs s__law_made) (defBody s__law_made) (defScope s__law_made) .none kV__law_made dc__law_made pm__law_made an__law_made cd__law_made ct__law_made), sl__law_made⟩)
    (c__law_made : PySem.W.codeIn K cd__law_made "_law_made" = true)
    (k__law_made : PySem.W.keepIn K (.ref f__law_made) = true)
    (a__law_flags : PySem.W.nsIn K mainGlobals "_law_flags" = some (some (.ref f__law_flags)))
    (l__law_flags : K.lookup f__law_flags = some ⟨oc__law_flags, od__law_flags, .func (PySem.W.fnOf "_law_flags" "_law_flags" (defArgs s__law_flags) (defBody s__law_flags) (defScope s__law_flags) .none kV__law_flags dc__law_flags pm__law_flags an__law_flags cd__law_flags ct__law_flags), sl__law_flags⟩)
    (c__law_flags : PySem.W.codeIn K cd__law_flags "_law_flags" = true)
    (k__law_flags : PySem.W.keepIn K (.ref f__law_flags) = true)
    (a__law_kept : PySem.W.nsIn K mainGlobals "_law_kept" = some (some (.ref f__law_kept)))
    (l__law_kept : K.lookup f__law_kept = some ⟨oc__law_kept, od__law_kept, .func (PySem.W.fnOf "_law_kept" "_law_kept" (defArgs s__law_kept) (defBody s__law_kept) (defScope s__law_kept) .none kV__law_kept dc__law_kept pm__law_kept an__law_kept cd__law_kept ct__law_kept), sl__law_kept⟩)
    (c__law_kept : PySem.W.codeIn K cd__law_kept "_law_kept" = true)
    (k__law_kept : PySem.W.keepIn K (.ref f__law_kept) = true)
    (a__law_is_right : PySem.W.nsIn K mainGlobals "_law_is_right" = some (some (.ref f__law_is_right)))
    (l__law_is_right : K.lookup f__law_is_right = some ⟨oc__law_is_right, od__law_is_right, .func (PySem.W.fnOf "_law_is_right" "_law_is_right" (defArgs s__law_is_right) (defBody s__law_is_right) (defScope s__law_is_right) .none kV__law_is_right dc__law_is_right pm__law_is_right an__law_is_right cd__law_is_right ct__law_is_right), sl__law_is_right⟩)
    (c__law_is_right : PySem.W.codeIn K cd__law_is_right "_law_is_right" = true)
    (k__law_is_right : PySem.W.keepIn K (.ref f__law_is_right) = true)
    (a__law_is_caught : PySem.W.nsIn K mainGlobals "_law_is_caught" = some (some (.ref f__law_is_caught)))
    (l__law_is_caught : K.lookup f__law_is_caught = some ⟨oc__law_is_caught, od__law_is_caught, .func (PySem.W.fnOf "_law_is_caught" "_law_is_caught" (defArgs s__law_is_caught) (defBody s__law_is_caught) (defScope s__law_is_caught) .none kV__law_is_caught dc__law_is_caught pm__law_is_caught an__law_is_caught cd__law_is_caught ct__law_is_caught), sl__law_is_caught⟩)
    (c__law_is_caught : PySem.W.codeIn K cd__law_is_caught "_law_is_caught" = true)
    (k__law_is_caught : PySem.W.keepIn K (.ref f__law_is_caught) = true)
    (a_law : PySem.W.nsIn K mainGlobals "law" = some (some (.ref f_law)))
    (l_law : K.lookup f_law = some ⟨oc_law, od_law, .func (PySem.W.fnOf "law" "law" (defArgs s_law) (defBody s_law) (defScope s_law) .none kV_law dc_law pm_law an_law cd_law ct_law), sl_law⟩)
    (c_law : PySem.W.codeIn K cd_law "law" = true)
    (k_law : PySem.W.keepIn K (.ref f_law) = true)
    (g_CopyError : PySem.W.nsIn K mainGlobals "CopyError" = some (some (.ref cCopyError)))
    (g_NoRun : PySem.W.nsIn K mainGlobals "NoRun" = some (some (.ref cNoRun)))
    (g_NoWorld : PySem.W.nsIn K mainGlobals "NoWorld" = some (some (.ref cNoWorld)))
    (g_NoCopy : PySem.W.nsIn K mainGlobals "NoCopy" = some (some (.ref cNoCopy)))
    (g_NoCopies : PySem.W.nsIn K mainGlobals "NoCopies" = some (some (.ref cNoCopies)))
    (g_NoOrder : PySem.W.nsIn K mainGlobals "NoOrder" = some (some (.ref cNoOrder)))
    (g_NoLook : PySem.W.nsIn K mainGlobals "NoLook" = some (some (.ref cNoLook)))
    (g_NoQuestion : PySem.W.nsIn K mainGlobals "NoQuestion" = some (some (.ref cNoQuestion)))
    (g_NoNumber : PySem.W.nsIn K mainGlobals "NoNumber" = some (some (.ref cNoNumber)))
    (g_NoStamp : PySem.W.nsIn K mainGlobals "NoStamp" = some (some (.ref cNoStamp)))
    (g_NoStamps : PySem.W.nsIn K mainGlobals "NoStamps" = some (some (.ref cNoStamps)))
    (g_NoCell : PySem.W.nsIn K mainGlobals "NoCell" = some (some (.ref cNoCell)))
    (g_NoValue : PySem.W.nsIn K mainGlobals "NoValue" = some (some (.ref cNoValue)))
    (g_Full : PySem.W.nsIn K mainGlobals "Full" = some (some (.ref cFull)))
    (g_LastCopy : PySem.W.nsIn K mainGlobals "LastCopy" = some (some (.ref cLastCopy)))
    (g_NothingDone : PySem.W.nsIn K mainGlobals "NothingDone" = some (some (.ref cNothingDone)))
    (g_NotLet : PySem.W.nsIn K mainGlobals "NotLet" = some (some (.ref cNotLet)))
    (g_BadLog : PySem.W.nsIn K mainGlobals "BadLog" = some (some (.ref cBadLog)))
    (g_BadBook : PySem.W.nsIn K mainGlobals "BadBook" = some (some (.ref cBadBook)))
    (g_TooMany : PySem.W.nsIn K mainGlobals "TooMany" = some (some (.ref cTooMany)))
    (g_BadText : PySem.W.nsIn K mainGlobals "BadText" = some (some (.ref cBadText)))
    (x_NotLet : K.lookup cNotLet = some (excClassObj nm_NotLet q_NotLet cNotLet N_NotLet bs_NotLet bm_NotLet true sn_NotLet sub_NotLet ab_NotLet col_NotLet dd_NotLet m0_NotLet m1_NotLet m2_NotLet m3_NotLet m5_NotLet "ValueError.__new__"))
    (sa_NotLet : PySem.W.findIn K (.ref cNotLet) "__setattr__" = some (some (.builtin "object.__setattr__")))
    (ga_NotLet : PySem.W.findIn K (.ref cNotLet) "__getattribute__" = some (some (.builtin "BaseException.__getattribute__")))
    (gg_NotLet : PySem.W.findIn K (.ref cNotLet) "__getattr__" = some none)
    (nb_NotLet : PySem.W.findIn K (.ref cNotLet) "index" = some none)
    (kC_NotLet : PySem.W.keepIn K (.ref cNotLet) = true)
    (eC_NotLet : PySem.W.subIn K (.ref cNotLet) (.type "BaseException") = some true)
    (tC_NotLet : PySem.W.typeIn K (.ref cNotLet) = some (.type "type"))
    (hC_NotLet : PySem.W.hasDictIn K cNotLet = true)
    (iC_NotLet : PySem.W.isClsIn K cNotLet = true)
    (sC_NotLet : PySem.W.subIn K (.ref cNotLet) (.ref cNotLet) = some true)
    (vC_NotLet : PySem.W.subIn K (.ref cNotLet) (.type "ValueError") = some true)
    (ca_NotLet : PySem.W.findIn K (.ref cNotLet) "__class__" = some (some (.builtin "object.__class__")))
    (cn_NotLet : PySem.W.specialIn K (.builtin "object.__class__") "__get__" = some (some (.builtin "getset_descriptor.__get__")))
    (ck_NotLet : PySem.W.takesIn K (.builtin "object.__class__") = some true)
    (cm_NotLet : PySem.W.mroIn K cNotLet (.type "object") = some true)
    (rv_NotLet : PySem.HandSPX.refsVE bm_NotLet = true)
    (a_NotLet___init__ : PySem.W.findIn K (.ref cNotLet) "__init__" = some (some (.ref f_NotLet___init__)))
    (l_NotLet___init__ : K.lookup f_NotLet___init__ = some ⟨oc_NotLet___init__, od_NotLet___init__, .func (PySem.W.fnOf "__init__" "NotLet.__init__" (defArgs s_NotLet___init__) (defBody s_NotLet___init__) (defScope s_NotLet___init__) .none kV_NotLet___init__ dc_NotLet___init__ pm_NotLet___init__ an_NotLet___init__ cd_NotLet___init__ ct_NotLet___init__), sl_NotLet___init__⟩)
    (c_NotLet___init__ : PySem.W.codeIn K cd_NotLet___init__ "NotLet.__init__" = true)
    (k_NotLet___init__ : PySem.W.keepIn K (.ref f_NotLet___init__) = true)
    (t_NotLet___init__ : PySem.W.typeIn K (.ref f_NotLet___init__) = some (.type "function"))
    (x_BadLog : K.lookup cBadLog = some (excClassObj nm_BadLog q_BadLog cBadLog N_BadLog bs_BadLog bm_BadLog true sn_BadLog sub_BadLog ab_BadLog col_BadLog dd_BadLog m0_BadLog m1_BadLog m2_BadLog m3_BadLog m5_BadLog "ValueError.__new__"))
    (sa_BadLog : PySem.W.findIn K (.ref cBadLog) "__setattr__" = some (some (.builtin "object.__setattr__")))
    (ga_BadLog : PySem.W.findIn K (.ref cBadLog) "__getattribute__" = some (some (.builtin "BaseException.__getattribute__")))
    (gg_BadLog : PySem.W.findIn K (.ref cBadLog) "__getattr__" = some none)
    (nb_BadLog : PySem.W.findIn K (.ref cBadLog) "index" = some none)
    (kC_BadLog : PySem.W.keepIn K (.ref cBadLog) = true)
    (eC_BadLog : PySem.W.subIn K (.ref cBadLog) (.type "BaseException") = some true)
    (tC_BadLog : PySem.W.typeIn K (.ref cBadLog) = some (.type "type"))
    (hC_BadLog : PySem.W.hasDictIn K cBadLog = true)
    (iC_BadLog : PySem.W.isClsIn K cBadLog = true)
    (sC_BadLog : PySem.W.subIn K (.ref cBadLog) (.ref cBadLog) = some true)
    (vC_BadLog : PySem.W.subIn K (.ref cBadLog) (.type "ValueError") = some true)
    (ca_BadLog : PySem.W.findIn K (.ref cBadLog) "__class__" = some (some (.builtin "object.__class__")))
    (cn_BadLog : PySem.W.specialIn K (.builtin "object.__class__") "__get__" = some (some (.builtin "getset_descriptor.__get__")))
    (ck_BadLog : PySem.W.takesIn K (.builtin "object.__class__") = some true)
    (cm_BadLog : PySem.W.mroIn K cBadLog (.type "object") = some true)
    (rv_BadLog : PySem.HandSPX.refsVE bm_BadLog = true)
    (a_BadLog___init__ : PySem.W.findIn K (.ref cBadLog) "__init__" = some (some (.ref f_BadLog___init__)))
    (l_BadLog___init__ : K.lookup f_BadLog___init__ = some ⟨oc_BadLog___init__, od_BadLog___init__, .func (PySem.W.fnOf "__init__" "BadLog.__init__" (defArgs s_BadLog___init__) (defBody s_BadLog___init__) (defScope s_BadLog___init__) .none kV_BadLog___init__ dc_BadLog___init__ pm_BadLog___init__ an_BadLog___init__ cd_BadLog___init__ ct_BadLog___init__), sl_BadLog___init__⟩)
    (c_BadLog___init__ : PySem.W.codeIn K cd_BadLog___init__ "BadLog.__init__" = true)
    (k_BadLog___init__ : PySem.W.keepIn K (.ref f_BadLog___init__) = true)
    (t_BadLog___init__ : PySem.W.typeIn K (.ref f_BadLog___init__) = some (.type "function"))
    (x_BadBook : K.lookup cBadBook = some (excClassObj nm_BadBook q_BadBook cBadBook N_BadBook bs_BadBook bm_BadBook true sn_BadBook sub_BadBook ab_BadBook col_BadBook dd_BadBook m0_BadBook m1_BadBook m2_BadBook m3_BadBook m5_BadBook "ValueError.__new__"))
    (sa_BadBook : PySem.W.findIn K (.ref cBadBook) "__setattr__" = some (some (.builtin "object.__setattr__")))
    (ga_BadBook : PySem.W.findIn K (.ref cBadBook) "__getattribute__" = some (some (.builtin "BaseException.__getattribute__")))
    (gg_BadBook : PySem.W.findIn K (.ref cBadBook) "__getattr__" = some none)
    (nb_BadBook : PySem.W.findIn K (.ref cBadBook) "part" = some none)
    (kC_BadBook : PySem.W.keepIn K (.ref cBadBook) = true)
    (eC_BadBook : PySem.W.subIn K (.ref cBadBook) (.type "BaseException") = some true)
    (tC_BadBook : PySem.W.typeIn K (.ref cBadBook) = some (.type "type"))
    (hC_BadBook : PySem.W.hasDictIn K cBadBook = true)
    (iC_BadBook : PySem.W.isClsIn K cBadBook = true)
    (sC_BadBook : PySem.W.subIn K (.ref cBadBook) (.ref cBadBook) = some true)
    (vC_BadBook : PySem.W.subIn K (.ref cBadBook) (.type "ValueError") = some true)
    (ca_BadBook : PySem.W.findIn K (.ref cBadBook) "__class__" = some (some (.builtin "object.__class__")))
    (cn_BadBook : PySem.W.specialIn K (.builtin "object.__class__") "__get__" = some (some (.builtin "getset_descriptor.__get__")))
    (ck_BadBook : PySem.W.takesIn K (.builtin "object.__class__") = some true)
    (cm_BadBook : PySem.W.mroIn K cBadBook (.type "object") = some true)
    (rv_BadBook : PySem.HandSPX.refsVE bm_BadBook = true)
    (a_BadBook___init__ : PySem.W.findIn K (.ref cBadBook) "__init__" = some (some (.ref f_BadBook___init__)))
    (l_BadBook___init__ : K.lookup f_BadBook___init__ = some ⟨oc_BadBook___init__, od_BadBook___init__, .func (PySem.W.fnOf "__init__" "BadBook.__init__" (defArgs s_BadBook___init__) (defBody s_BadBook___init__) (defScope s_BadBook___init__) .none kV_BadBook___init__ dc_BadBook___init__ pm_BadBook___init__ an_BadBook___init__ cd_BadBook___init__ ct_BadBook___init__), sl_BadBook___init__⟩)
    (c_BadBook___init__ : PySem.W.codeIn K cd_BadBook___init__ "BadBook.__init__" = true)
    (k_BadBook___init__ : PySem.W.keepIn K (.ref f_BadBook___init__) = true)
    (t_BadBook___init__ : PySem.W.typeIn K (.ref f_BadBook___init__) = some (.type "function"))
    (x_TooMany : K.lookup cTooMany = some (excClassObj nm_TooMany q_TooMany cTooMany N_TooMany bs_TooMany bm_TooMany true sn_TooMany sub_TooMany ab_TooMany col_TooMany dd_TooMany m0_TooMany m1_TooMany m2_TooMany m3_TooMany m5_TooMany "ValueError.__new__"))
    (sa_TooMany : PySem.W.findIn K (.ref cTooMany) "__setattr__" = some (some (.builtin "object.__setattr__")))
    (ga_TooMany : PySem.W.findIn K (.ref cTooMany) "__getattribute__" = some (some (.builtin "BaseException.__getattribute__")))
    (gg_TooMany : PySem.W.findIn K (.ref cTooMany) "__getattr__" = some none)
    (nb_TooMany : PySem.W.findIn K (.ref cTooMany) "most" = some none)
    (kC_TooMany : PySem.W.keepIn K (.ref cTooMany) = true)
    (eC_TooMany : PySem.W.subIn K (.ref cTooMany) (.type "BaseException") = some true)
    (tC_TooMany : PySem.W.typeIn K (.ref cTooMany) = some (.type "type"))
    (hC_TooMany : PySem.W.hasDictIn K cTooMany = true)
    (iC_TooMany : PySem.W.isClsIn K cTooMany = true)
    (sC_TooMany : PySem.W.subIn K (.ref cTooMany) (.ref cTooMany) = some true)
    (vC_TooMany : PySem.W.subIn K (.ref cTooMany) (.type "ValueError") = some true)
    (ca_TooMany : PySem.W.findIn K (.ref cTooMany) "__class__" = some (some (.builtin "object.__class__")))
    (cn_TooMany : PySem.W.specialIn K (.builtin "object.__class__") "__get__" = some (some (.builtin "getset_descriptor.__get__")))
    (ck_TooMany : PySem.W.takesIn K (.builtin "object.__class__") = some true)
    (cm_TooMany : PySem.W.mroIn K cTooMany (.type "object") = some true)
    (rv_TooMany : PySem.HandSPX.refsVE bm_TooMany = true)
    (a_TooMany___init__ : PySem.W.findIn K (.ref cTooMany) "__init__" = some (some (.ref f_TooMany___init__)))
    (l_TooMany___init__ : K.lookup f_TooMany___init__ = some ⟨oc_TooMany___init__, od_TooMany___init__, .func (PySem.W.fnOf "__init__" "TooMany.__init__" (defArgs s_TooMany___init__) (defBody s_TooMany___init__) (defScope s_TooMany___init__) .none kV_TooMany___init__ dc_TooMany___init__ pm_TooMany___init__ an_TooMany___init__ cd_TooMany___init__ ct_TooMany___init__), sl_TooMany___init__⟩)
    (c_TooMany___init__ : PySem.W.codeIn K cd_TooMany___init__ "TooMany.__init__" = true)
    (k_TooMany___init__ : PySem.W.keepIn K (.ref f_TooMany___init__) = true)
    (t_TooMany___init__ : PySem.W.typeIn K (.ref f_TooMany___init__) = some (.type "function"))
    (x_BadText : K.lookup cBadText = some (excClassObj nm_BadText q_BadText cBadText N_BadText bs_BadText bm_BadText true sn_BadText sub_BadText ab_BadText col_BadText dd_BadText m0_BadText m1_BadText m2_BadText m3_BadText m5_BadText "ValueError.__new__"))
    (sa_BadText : PySem.W.findIn K (.ref cBadText) "__setattr__" = some (some (.builtin "object.__setattr__")))
    (ga_BadText : PySem.W.findIn K (.ref cBadText) "__getattribute__" = some (some (.builtin "BaseException.__getattribute__")))
    (gg_BadText : PySem.W.findIn K (.ref cBadText) "__getattr__" = some none)
    (nb_BadText : PySem.W.findIn K (.ref cBadText) "line" = some none)
    (kC_BadText : PySem.W.keepIn K (.ref cBadText) = true)
    (eC_BadText : PySem.W.subIn K (.ref cBadText) (.type "BaseException") = some true)
    (tC_BadText : PySem.W.typeIn K (.ref cBadText) = some (.type "type"))
    (hC_BadText : PySem.W.hasDictIn K cBadText = true)
    (iC_BadText : PySem.W.isClsIn K cBadText = true)
    (sC_BadText : PySem.W.subIn K (.ref cBadText) (.ref cBadText) = some true)
    (vC_BadText : PySem.W.subIn K (.ref cBadText) (.type "ValueError") = some true)
    (ca_BadText : PySem.W.findIn K (.ref cBadText) "__class__" = some (some (.builtin "object.__class__")))
    (cn_BadText : PySem.W.specialIn K (.builtin "object.__class__") "__get__" = some (some (.builtin "getset_descriptor.__get__")))
    (ck_BadText : PySem.W.takesIn K (.builtin "object.__class__") = some true)
    (cm_BadText : PySem.W.mroIn K cBadText (.type "object") = some true)
    (rv_BadText : PySem.HandSPX.refsVE bm_BadText = true)
    (a_BadText___init__ : PySem.W.findIn K (.ref cBadText) "__init__" = some (some (.ref f_BadText___init__)))
    (l_BadText___init__ : K.lookup f_BadText___init__ = some ⟨oc_BadText___init__, od_BadText___init__, .func (PySem.W.fnOf "__init__" "BadText.__init__" (defArgs s_BadText___init__) (defBody s_BadText___init__) (defScope s_BadText___init__) .none kV_BadText___init__ dc_BadText___init__ pm_BadText___init__ an_BadText___init__ cd_BadText___init__ ct_BadText___init__), sl_BadText___init__⟩)
    (c_BadText___init__ : PySem.W.codeIn K cd_BadText___init__ "BadText.__init__" = true)
    (k_BadText___init__ : PySem.W.keepIn K (.ref f_BadText___init__) = true)
    (t_BadText___init__ : PySem.W.typeIn K (.ref f_BadText___init__) = some (.type "function"))
    (ga_NoRun : PySem.W.findIn K (.ref cNoRun) "__getattribute__" = some (some (.builtin "BaseException.__getattribute__")))
    (gg_NoRun : PySem.W.findIn K (.ref cNoRun) "__getattr__" = some none)
    (kC_NoRun : PySem.W.keepIn K (.ref cNoRun) = true)
    (eC_NoRun : PySem.W.subIn K (.ref cNoRun) (.type "BaseException") = some true)
    (tC_NoRun : PySem.W.typeIn K (.ref cNoRun) = some (.type "type"))
    (hC_NoRun : PySem.W.hasDictIn K cNoRun = true)
    (iC_NoRun : PySem.W.isClsIn K cNoRun = true)
    (vC_NoRun : PySem.W.subIn K (.ref cNoRun) (.type "ValueError") = some true)
    (ca_NoRun : PySem.W.findIn K (.ref cNoRun) "__class__" = some (some (.builtin "object.__class__")))
    (cn_NoRun : PySem.W.specialIn K (.builtin "object.__class__") "__get__" = some (some (.builtin "getset_descriptor.__get__")))
    (ck_NoRun : PySem.W.takesIn K (.builtin "object.__class__") = some true)
    (cm_NoRun : PySem.W.mroIn K cNoRun (.type "object") = some true)
    (ex_NoRun : PySem.W.excIn K cNoRun [.type "ValueError", .type "Exception", .type "BaseException", .type "object"] "ValueError.__new__" = true)
    (ga_NoWorld : PySem.W.findIn K (.ref cNoWorld) "__getattribute__" = some (some (.builtin "BaseException.__getattribute__")))
    (gg_NoWorld : PySem.W.findIn K (.ref cNoWorld) "__getattr__" = some none)
    (kC_NoWorld : PySem.W.keepIn K (.ref cNoWorld) = true)
    (eC_NoWorld : PySem.W.subIn K (.ref cNoWorld) (.type "BaseException") = some true)
    (tC_NoWorld : PySem.W.typeIn K (.ref cNoWorld) = some (.type "type"))
    (hC_NoWorld : PySem.W.hasDictIn K cNoWorld = true)
    (iC_NoWorld : PySem.W.isClsIn K cNoWorld = true)
    (vC_NoWorld : PySem.W.subIn K (.ref cNoWorld) (.type "ValueError") = some true)
    (ca_NoWorld : PySem.W.findIn K (.ref cNoWorld) "__class__" = some (some (.builtin "object.__class__")))
    (cn_NoWorld : PySem.W.specialIn K (.builtin "object.__class__") "__get__" = some (some (.builtin "getset_descriptor.__get__")))
    (ck_NoWorld : PySem.W.takesIn K (.builtin "object.__class__") = some true)
    (cm_NoWorld : PySem.W.mroIn K cNoWorld (.type "object") = some true)
    (ex_NoWorld : PySem.W.excIn K cNoWorld [.type "ValueError", .type "Exception", .type "BaseException", .type "object"] "ValueError.__new__" = true)
    (ga_NoCopy : PySem.W.findIn K (.ref cNoCopy) "__getattribute__" = some (some (.builtin "BaseException.__getattribute__")))
    (gg_NoCopy : PySem.W.findIn K (.ref cNoCopy) "__getattr__" = some none)
    (kC_NoCopy : PySem.W.keepIn K (.ref cNoCopy) = true)
    (eC_NoCopy : PySem.W.subIn K (.ref cNoCopy) (.type "BaseException") = some true)
    (tC_NoCopy : PySem.W.typeIn K (.ref cNoCopy) = some (.type "type"))
    (hC_NoCopy : PySem.W.hasDictIn K cNoCopy = true)
    (iC_NoCopy : PySem.W.isClsIn K cNoCopy = true)
    (vC_NoCopy : PySem.W.subIn K (.ref cNoCopy) (.type "ValueError") = some true)
    (ca_NoCopy : PySem.W.findIn K (.ref cNoCopy) "__class__" = some (some (.builtin "object.__class__")))
    (cn_NoCopy : PySem.W.specialIn K (.builtin "object.__class__") "__get__" = some (some (.builtin "getset_descriptor.__get__")))
    (ck_NoCopy : PySem.W.takesIn K (.builtin "object.__class__") = some true)
    (cm_NoCopy : PySem.W.mroIn K cNoCopy (.type "object") = some true)
    (ex_NoCopy : PySem.W.excIn K cNoCopy [.type "ValueError", .type "Exception", .type "BaseException", .type "object"] "ValueError.__new__" = true)
    (ga_NoCopies : PySem.W.findIn K (.ref cNoCopies) "__getattribute__" = some (some (.builtin "BaseException.__getattribute__")))
    (gg_NoCopies : PySem.W.findIn K (.ref cNoCopies) "__getattr__" = some none)
    (kC_NoCopies : PySem.W.keepIn K (.ref cNoCopies) = true)
    (eC_NoCopies : PySem.W.subIn K (.ref cNoCopies) (.type "BaseException") = some true)
    (tC_NoCopies : PySem.W.typeIn K (.ref cNoCopies) = some (.type "type"))
    (hC_NoCopies : PySem.W.hasDictIn K cNoCopies = true)
    (iC_NoCopies : PySem.W.isClsIn K cNoCopies = true)
    (vC_NoCopies : PySem.W.subIn K (.ref cNoCopies) (.type "ValueError") = some true)
    (ca_NoCopies : PySem.W.findIn K (.ref cNoCopies) "__class__" = some (some (.builtin "object.__class__")))
    (cn_NoCopies : PySem.W.specialIn K (.builtin "object.__class__") "__get__" = some (some (.builtin "getset_descriptor.__get__")))
    (ck_NoCopies : PySem.W.takesIn K (.builtin "object.__class__") = some true)
    (cm_NoCopies : PySem.W.mroIn K cNoCopies (.type "object") = some true)
    (ex_NoCopies : PySem.W.excIn K cNoCopies [.type "ValueError", .type "Exception", .type "BaseException", .type "object"] "ValueError.__new__" = true)
    (ga_NoOrder : PySem.W.findIn K (.ref cNoOrder) "__getattribute__" = some (some (.builtin "BaseException.__getattribute__")))
    (gg_NoOrder : PySem.W.findIn K (.ref cNoOrder) "__getattr__" = some none)
    (kC_NoOrder : PySem.W.keepIn K (.ref cNoOrder) = true)
    (eC_NoOrder : PySem.W.subIn K (.ref cNoOrder) (.type "BaseException") = some true)
    (tC_NoOrder : PySem.W.typeIn K (.ref cNoOrder) = some (.type "type"))
    (hC_NoOrder : PySem.W.hasDictIn K cNoOrder = true)
    (iC_NoOrder : PySem.W.isClsIn K cNoOrder = true)
    (vC_NoOrder : PySem.W.subIn K (.ref cNoOrder) (.type "ValueError") = some true)
    (ca_NoOrder : PySem.W.findIn K (.ref cNoOrder) "__class__" = some (some (.builtin "object.__class__")))
    (cn_NoOrder : PySem.W.specialIn K (.builtin "object.__class__") "__get__" = some (some (.builtin "getset_descriptor.__get__")))
    (ck_NoOrder : PySem.W.takesIn K (.builtin "object.__class__") = some true)
    (cm_NoOrder : PySem.W.mroIn K cNoOrder (.type "object") = some true)
    (ex_NoOrder : PySem.W.excIn K cNoOrder [.type "ValueError", .type "Exception", .type "BaseException", .type "object"] "ValueError.__new__" = true)
    (ga_NoLook : PySem.W.findIn K (.ref cNoLook) "__getattribute__" = some (some (.builtin "BaseException.__getattribute__")))
    (gg_NoLook : PySem.W.findIn K (.ref cNoLook) "__getattr__" = some none)
    (kC_NoLook : PySem.W.keepIn K (.ref cNoLook) = true)
    (eC_NoLook : PySem.W.subIn K (.ref cNoLook) (.type "BaseException") = some true)
    (tC_NoLook : PySem.W.typeIn K (.ref cNoLook) = some (.type "type"))
    (hC_NoLook : PySem.W.hasDictIn K cNoLook = true)
    (iC_NoLook : PySem.W.isClsIn K cNoLook = true)
    (vC_NoLook : PySem.W.subIn K (.ref cNoLook) (.type "ValueError") = some true)
    (ca_NoLook : PySem.W.findIn K (.ref cNoLook) "__class__" = some (some (.builtin "object.__class__")))
    (cn_NoLook : PySem.W.specialIn K (.builtin "object.__class__") "__get__" = some (some (.builtin "getset_descriptor.__get__")))
    (ck_NoLook : PySem.W.takesIn K (.builtin "object.__class__") = some true)
    (cm_NoLook : PySem.W.mroIn K cNoLook (.type "object") = some true)
    (ex_NoLook : PySem.W.excIn K cNoLook [.type "ValueError", .type "Exception", .type "BaseException", .type "object"] "ValueError.__new__" = true)
    (ga_NoQuestion : PySem.W.findIn K (.ref cNoQuestion) "__getattribute__" = some (some (.builtin "BaseException.__getattribute__")))
    (gg_NoQuestion : PySem.W.findIn K (.ref cNoQuestion) "__getattr__" = some none)
    (kC_NoQuestion : PySem.W.keepIn K (.ref cNoQuestion) = true)
    (eC_NoQuestion : PySem.W.subIn K (.ref cNoQuestion) (.type "BaseException") = some true)
    (tC_NoQuestion : PySem.W.typeIn K (.ref cNoQuestion) = some (.type "type"))
    (hC_NoQuestion : PySem.W.hasDictIn K cNoQuestion = true)
    (iC_NoQuestion : PySem.W.isClsIn K cNoQuestion = true)
    (vC_NoQuestion : PySem.W.subIn K (.ref cNoQuestion) (.type "ValueError") = some true)
    (ca_NoQuestion : PySem.W.findIn K (.ref cNoQuestion) "__class__" = some (some (.builtin "object.__class__")))
    (cn_NoQuestion : PySem.W.specialIn K (.builtin "object.__class__") "__get__" = some (some (.builtin "getset_descriptor.__get__")))
    (ck_NoQuestion : PySem.W.takesIn K (.builtin "object.__class__") = some true)
    (cm_NoQuestion : PySem.W.mroIn K cNoQuestion (.type "object") = some true)
    (ex_NoQuestion : PySem.W.excIn K cNoQuestion [.type "ValueError", .type "Exception", .type "BaseException", .type "object"] "ValueError.__new__" = true)
    (ga_NoNumber : PySem.W.findIn K (.ref cNoNumber) "__getattribute__" = some (some (.builtin "BaseException.__getattribute__")))
    (gg_NoNumber : PySem.W.findIn K (.ref cNoNumber) "__getattr__" = some none)
    (kC_NoNumber : PySem.W.keepIn K (.ref cNoNumber) = true)
    (eC_NoNumber : PySem.W.subIn K (.ref cNoNumber) (.type "BaseException") = some true)
    (tC_NoNumber : PySem.W.typeIn K (.ref cNoNumber) = some (.type "type"))
    (hC_NoNumber : PySem.W.hasDictIn K cNoNumber = true)
    (iC_NoNumber : PySem.W.isClsIn K cNoNumber = true)
    (vC_NoNumber : PySem.W.subIn K (.ref cNoNumber) (.type "ValueError") = some true)
    (ca_NoNumber : PySem.W.findIn K (.ref cNoNumber) "__class__" = some (some (.builtin "object.__class__")))
    (cn_NoNumber : PySem.W.specialIn K (.builtin "object.__class__") "__get__" = some (some (.builtin "getset_descriptor.__get__")))
    (ck_NoNumber : PySem.W.takesIn K (.builtin "object.__class__") = some true)
    (cm_NoNumber : PySem.W.mroIn K cNoNumber (.type "object") = some true)
    (ex_NoNumber : PySem.W.excIn K cNoNumber [.type "ValueError", .type "Exception", .type "BaseException", .type "object"] "ValueError.__new__" = true)
    (ga_NoStamp : PySem.W.findIn K (.ref cNoStamp) "__getattribute__" = some (some (.builtin "BaseException.__getattribute__")))
    (gg_NoStamp : PySem.W.findIn K (.ref cNoStamp) "__getattr__" = some none)
    (kC_NoStamp : PySem.W.keepIn K (.ref cNoStamp) = true)
    (eC_NoStamp : PySem.W.subIn K (.ref cNoStamp) (.type "BaseException") = some true)
    (tC_NoStamp : PySem.W.typeIn K (.ref cNoStamp) = some (.type "type"))
    (hC_NoStamp : PySem.W.hasDictIn K cNoStamp = true)
    (iC_NoStamp : PySem.W.isClsIn K cNoStamp = true)
    (vC_NoStamp : PySem.W.subIn K (.ref cNoStamp) (.type "ValueError") = some true)
    (ca_NoStamp : PySem.W.findIn K (.ref cNoStamp) "__class__" = some (some (.builtin "object.__class__")))
    (cn_NoStamp : PySem.W.specialIn K (.builtin "object.__class__") "__get__" = some (some (.builtin "getset_descriptor.__get__")))
    (ck_NoStamp : PySem.W.takesIn K (.builtin "object.__class__") = some true)
    (cm_NoStamp : PySem.W.mroIn K cNoStamp (.type "object") = some true)
    (ex_NoStamp : PySem.W.excIn K cNoStamp [.type "ValueError", .type "Exception", .type "BaseException", .type "object"] "ValueError.__new__" = true)
    (ga_NoStamps : PySem.W.findIn K (.ref cNoStamps) "__getattribute__" = some (some (.builtin "BaseException.__getattribute__")))
    (gg_NoStamps : PySem.W.findIn K (.ref cNoStamps) "__getattr__" = some none)
    (kC_NoStamps : PySem.W.keepIn K (.ref cNoStamps) = true)
    (eC_NoStamps : PySem.W.subIn K (.ref cNoStamps) (.type "BaseException") = some true)
    (tC_NoStamps : PySem.W.typeIn K (.ref cNoStamps) = some (.type "type"))
    (hC_NoStamps : PySem.W.hasDictIn K cNoStamps = true)
    (iC_NoStamps : PySem.W.isClsIn K cNoStamps = true)
    (vC_NoStamps : PySem.W.subIn K (.ref cNoStamps) (.type "ValueError") = some true)
    (ca_NoStamps : PySem.W.findIn K (.ref cNoStamps) "__class__" = some (some (.builtin "object.__class__")))
    (cn_NoStamps : PySem.W.specialIn K (.builtin "object.__class__") "__get__" = some (some (.builtin "getset_descriptor.__get__")))
    (ck_NoStamps : PySem.W.takesIn K (.builtin "object.__class__") = some true)
    (cm_NoStamps : PySem.W.mroIn K cNoStamps (.type "object") = some true)
    (ex_NoStamps : PySem.W.excIn K cNoStamps [.type "ValueError", .type "Exception", .type "BaseException", .type "object"] "ValueError.__new__" = true)
    (ga_NoCell : PySem.W.findIn K (.ref cNoCell) "__getattribute__" = some (some (.builtin "BaseException.__getattribute__")))
    (gg_NoCell : PySem.W.findIn K (.ref cNoCell) "__getattr__" = some none)
    (kC_NoCell : PySem.W.keepIn K (.ref cNoCell) = true)
    (eC_NoCell : PySem.W.subIn K (.ref cNoCell) (.type "BaseException") = some true)
    (tC_NoCell : PySem.W.typeIn K (.ref cNoCell) = some (.type "type"))
    (hC_NoCell : PySem.W.hasDictIn K cNoCell = true)
    (iC_NoCell : PySem.W.isClsIn K cNoCell = true)
    (vC_NoCell : PySem.W.subIn K (.ref cNoCell) (.type "ValueError") = some true)
    (ca_NoCell : PySem.W.findIn K (.ref cNoCell) "__class__" = some (some (.builtin "object.__class__")))
    (cn_NoCell : PySem.W.specialIn K (.builtin "object.__class__") "__get__" = some (some (.builtin "getset_descriptor.__get__")))
    (ck_NoCell : PySem.W.takesIn K (.builtin "object.__class__") = some true)
    (cm_NoCell : PySem.W.mroIn K cNoCell (.type "object") = some true)
    (ex_NoCell : PySem.W.excIn K cNoCell [.type "ValueError", .type "Exception", .type "BaseException", .type "object"] "ValueError.__new__" = true)
    (ga_NoValue : PySem.W.findIn K (.ref cNoValue) "__getattribute__" = some (some (.builtin "BaseException.__getattribute__")))
    (gg_NoValue : PySem.W.findIn K (.ref cNoValue) "__getattr__" = some none)
    (kC_NoValue : PySem.W.keepIn K (.ref cNoValue) = true)
    (eC_NoValue : PySem.W.subIn K (.ref cNoValue) (.type "BaseException") = some true)
    (tC_NoValue : PySem.W.typeIn K (.ref cNoValue) = some (.type "type"))
    (hC_NoValue : PySem.W.hasDictIn K cNoValue = true)
    (iC_NoValue : PySem.W.isClsIn K cNoValue = true)
    (vC_NoValue : PySem.W.subIn K (.ref cNoValue) (.type "ValueError") = some true)
    (ca_NoValue : PySem.W.findIn K (.ref cNoValue) "__class__" = some (some (.builtin "object.__class__")))
    (cn_NoValue : PySem.W.specialIn K (.builtin "object.__class__") "__get__" = some (some (.builtin "getset_descriptor.__get__")))
    (ck_NoValue : PySem.W.takesIn K (.builtin "object.__class__") = some true)
    (cm_NoValue : PySem.W.mroIn K cNoValue (.type "object") = some true)
    (ex_NoValue : PySem.W.excIn K cNoValue [.type "ValueError", .type "Exception", .type "BaseException", .type "object"] "ValueError.__new__" = true)
    (ga_Full : PySem.W.findIn K (.ref cFull) "__getattribute__" = some (some (.builtin "BaseException.__getattribute__")))
    (gg_Full : PySem.W.findIn K (.ref cFull) "__getattr__" = some none)
    (kC_Full : PySem.W.keepIn K (.ref cFull) = true)
    (eC_Full : PySem.W.subIn K (.ref cFull) (.type "BaseException") = some true)
    (tC_Full : PySem.W.typeIn K (.ref cFull) = some (.type "type"))
    (hC_Full : PySem.W.hasDictIn K cFull = true)
    (iC_Full : PySem.W.isClsIn K cFull = true)
    (vC_Full : PySem.W.subIn K (.ref cFull) (.type "ValueError") = some true)
    (ca_Full : PySem.W.findIn K (.ref cFull) "__class__" = some (some (.builtin "object.__class__")))
    (cn_Full : PySem.W.specialIn K (.builtin "object.__class__") "__get__" = some (some (.builtin "getset_descriptor.__get__")))
    (ck_Full : PySem.W.takesIn K (.builtin "object.__class__") = some true)
    (cm_Full : PySem.W.mroIn K cFull (.type "object") = some true)
    (ex_Full : PySem.W.excIn K cFull [.type "ValueError", .type "Exception", .type "BaseException", .type "object"] "ValueError.__new__" = true)
    (ga_LastCopy : PySem.W.findIn K (.ref cLastCopy) "__getattribute__" = some (some (.builtin "BaseException.__getattribute__")))
    (gg_LastCopy : PySem.W.findIn K (.ref cLastCopy) "__getattr__" = some none)
    (kC_LastCopy : PySem.W.keepIn K (.ref cLastCopy) = true)
    (eC_LastCopy : PySem.W.subIn K (.ref cLastCopy) (.type "BaseException") = some true)
    (tC_LastCopy : PySem.W.typeIn K (.ref cLastCopy) = some (.type "type"))
    (hC_LastCopy : PySem.W.hasDictIn K cLastCopy = true)
    (iC_LastCopy : PySem.W.isClsIn K cLastCopy = true)
    (vC_LastCopy : PySem.W.subIn K (.ref cLastCopy) (.type "ValueError") = some true)
    (ca_LastCopy : PySem.W.findIn K (.ref cLastCopy) "__class__" = some (some (.builtin "object.__class__")))
    (cn_LastCopy : PySem.W.specialIn K (.builtin "object.__class__") "__get__" = some (some (.builtin "getset_descriptor.__get__")))
    (ck_LastCopy : PySem.W.takesIn K (.builtin "object.__class__") = some true)
    (cm_LastCopy : PySem.W.mroIn K cLastCopy (.type "object") = some true)
    (ex_LastCopy : PySem.W.excIn K cLastCopy [.type "ValueError", .type "Exception", .type "BaseException", .type "object"] "ValueError.__new__" = true)
    (ga_NothingDone : PySem.W.findIn K (.ref cNothingDone) "__getattribute__" = some (some (.builtin "BaseException.__getattribute__")))
    (gg_NothingDone : PySem.W.findIn K (.ref cNothingDone) "__getattr__" = some none)
    (kC_NothingDone : PySem.W.keepIn K (.ref cNothingDone) = true)
    (eC_NothingDone : PySem.W.subIn K (.ref cNothingDone) (.type "BaseException") = some true)
    (tC_NothingDone : PySem.W.typeIn K (.ref cNothingDone) = some (.type "type"))
    (hC_NothingDone : PySem.W.hasDictIn K cNothingDone = true)
    (iC_NothingDone : PySem.W.isClsIn K cNothingDone = true)
    (vC_NothingDone : PySem.W.subIn K (.ref cNothingDone) (.type "ValueError") = some true)
    (ca_NothingDone : PySem.W.findIn K (.ref cNothingDone) "__class__" = some (some (.builtin "object.__class__")))
    (cn_NothingDone : PySem.W.specialIn K (.builtin "object.__class__") "__get__" = some (some (.builtin "getset_descriptor.__get__")))
    (ck_NothingDone : PySem.W.takesIn K (.builtin "object.__class__") = some true)
    (cm_NothingDone : PySem.W.mroIn K cNothingDone (.type "object") = some true)
    (ex_NothingDone : PySem.W.excIn K cNothingDone [.type "ValueError", .type "Exception", .type "BaseException", .type "object"] "ValueError.__new__" = true)
    (eC_CopyError : PySem.W.subIn K (.ref cCopyError) (.type "BaseException") = some true)
    (tC_CopyError : PySem.W.typeIn K (.ref cCopyError) = some (.type "type"))
    (iC_CopyError : PySem.W.isClsIn K cCopyError = true)
    (s_NoRun_CopyError : PySem.W.subIn K (.ref cNoRun) (.ref cCopyError) = some true)
    (s_NoWorld_CopyError : PySem.W.subIn K (.ref cNoWorld) (.ref cCopyError) = some true)
    (s_NoCopy_CopyError : PySem.W.subIn K (.ref cNoCopy) (.ref cCopyError) = some true)
    (s_NoCopies_CopyError : PySem.W.subIn K (.ref cNoCopies) (.ref cCopyError) = some true)
    (s_NoOrder_CopyError : PySem.W.subIn K (.ref cNoOrder) (.ref cCopyError) = some true)
    (s_NoLook_CopyError : PySem.W.subIn K (.ref cNoLook) (.ref cCopyError) = some true)
    (s_NoQuestion_CopyError : PySem.W.subIn K (.ref cNoQuestion) (.ref cCopyError) = some true)
    (s_NoNumber_CopyError : PySem.W.subIn K (.ref cNoNumber) (.ref cCopyError) = some true)
    (s_NoStamp_CopyError : PySem.W.subIn K (.ref cNoStamp) (.ref cCopyError) = some true)
    (s_NoStamps_CopyError : PySem.W.subIn K (.ref cNoStamps) (.ref cCopyError) = some true)
    (s_NoCell_CopyError : PySem.W.subIn K (.ref cNoCell) (.ref cCopyError) = some true)
    (s_NoValue_CopyError : PySem.W.subIn K (.ref cNoValue) (.ref cCopyError) = some true)
    (s_Full_CopyError : PySem.W.subIn K (.ref cFull) (.ref cCopyError) = some true)
    (s_LastCopy_CopyError : PySem.W.subIn K (.ref cLastCopy) (.ref cCopyError) = some true)
    (s_NothingDone_CopyError : PySem.W.subIn K (.ref cNothingDone) (.ref cCopyError) = some true)
    (s_NotLet_CopyError : PySem.W.subIn K (.ref cNotLet) (.ref cCopyError) = some true)
    (s_BadLog_CopyError : PySem.W.subIn K (.ref cBadLog) (.ref cCopyError) = some true)
    (s_BadBook_CopyError : PySem.W.subIn K (.ref cBadBook) (.ref cCopyError) = some true)
    (s_TooMany_CopyError : PySem.W.subIn K (.ref cTooMany) (.ref cCopyError) = some true)
    (s_BadText_CopyError : PySem.W.subIn K (.ref cBadText) (.ref cCopyError) = some true)
    (nd_cl : ([cNoRun, cNoWorld, cNoCopy, cNoCopies, cNoOrder, cNoLook, cNoQuestion, cNoNumber, cNoStamp, cNoStamps, cNoCell, cNoValue, cFull, cLastCopy, cNothingDone, cNotLet, cBadLog, cBadBook, cTooMany, cBadText] : List Addr).Nodup)
    (nc_NoRun : cNoRun ≠ cCopyError)
    (nc_NoWorld : cNoWorld ≠ cCopyError)
    (nc_NoCopy : cNoCopy ≠ cCopyError)
    (nc_NoCopies : cNoCopies ≠ cCopyError)
    (nc_NoOrder : cNoOrder ≠ cCopyError)
    (nc_NoLook : cNoLook ≠ cCopyError)
    (nc_NoQuestion : cNoQuestion ≠ cCopyError)
    (nc_NoNumber : cNoNumber ≠ cCopyError)
    (nc_NoStamp : cNoStamp ≠ cCopyError)
    (nc_NoStamps : cNoStamps ≠ cCopyError)
    (nc_NoCell : cNoCell ≠ cCopyError)
    (nc_NoValue : cNoValue ≠ cCopyError)
    (nc_Full : cFull ≠ cCopyError)
    (nc_LastCopy : cLastCopy ≠ cCopyError)
    (nc_NothingDone : cNothingDone ≠ cCopyError)
    (nc_NotLet : cNotLet ≠ cCopyError)
    (nc_BadLog : cBadLog ≠ cCopyError)
    (nc_BadBook : cBadBook ≠ cCopyError)
    (nc_TooMany : cTooMany ≠ cCopyError)
    (nc_BadText : cBadText ≠ cCopyError)
    (sub_all : ((List.range 20).all fun i => (List.range 20).all fun j => decide (i = j) || (PySem.W.subIn K (.ref (([cNoRun, cNoWorld, cNoCopy, cNoCopies, cNoOrder, cNoLook, cNoQuestion, cNoNumber, cNoStamp, cNoStamps, cNoCell, cNoValue, cFull, cLastCopy, cNothingDone, cNotLet, cBadLog, cBadBook, cTooMany, cBadText] : List Addr).getD i 0)) (.ref (([cNoRun, cNoWorld, cNoCopy, cNoCopies, cNoOrder, cNoLook, cNoQuestion, cNoNumber, cNoStamp, cNoStamps, cNoCell, cNoValue, cFull, cLastCopy, cNothingDone, cNotLet, cBadLog, cBadBook, cTooMany, cBadText] : List Addr).getD j 0)) == some false)) = true) :
    ∃ fd : FuncData, (∀ (s : Shared) (u : Value), BindsTo s fd ⟨[u], []⟩ [("_law_script", u)]) ∧ ∀ base : Heap, K.In base → base.Ns mainGlobals mg → FnOk l.prog w K mg base (L2.CX l.prog w) 60 fa fd ["_law_script"] (liftSp K spLaw) := by
  have e := hfa.symm.trans (PySem.W.mg_of X G a_law)
  cases e
  have F__law_pot := fun_mk (st := s__law_pot) l__law_pot c__law_pot k__law_pot
  have b__law_pot := F__law_pot.binds (ps := ["_law_script"]) fun _ _ _ _ _ _ us hl => match us, hl with | [_], _ => rfl
  have F__law_draw := fun_mk (st := s__law_draw) l__law_draw c__law_draw k__law_draw
  have b__law_draw := F__law_draw.binds (ps := ["_law_pot_here", "_law_many"]) fun _ _ _ _ _ _ us hl => match us, hl with | [_, _], _ => rfl
  have F__law_any := fun_mk (st := s__law_any) l__law_any c__law_any k__law_any
  have b__law_any := F__law_any.binds (ps := ["_law_pot_here", "_law_items"]) fun _ _ _ _ _ _ us hl => match us, hl with | [_, _], _ => rfl
  have F__law_deep := fun_mk (st := s__law_deep) l__law_deep c__law_deep k__law_deep
  have b__law_deep := F__law_deep.binds (ps := []) fun _ _ _ _ _ _ us hl => match us, hl with | [], _ => rfl
  have F__law_made := fun_mk (st := s__law_made) l__law_made c__law_made k__law_made
  have b__law_made := F__law_made.binds (ps := ["_law_which", "_law_thing"]) fun _ _ _ _ _ _ us hl => match us, hl with | [_, _], _ => rfl
  have F__law_flags := fun_mk (st := s__law_flags) l__law_flags c__law_flags k__law_flags
  have b__law_flags := F__law_flags.binds (ps := ["_law_error"]) fun _ _ _ _ _ _ us hl => match us, hl with | [_], _ => rfl
  have F__law_kept := fun_mk (st := s__law_kept) l__law_kept c__law_kept k__law_kept
  have b__law_kept := F__law_kept.binds (ps := ["_law_which", "_law_error"]) fun _ _ _ _ _ _ us hl => match us, hl with | [_, _], _ => rfl
  have F__law_is_right := fun_mk (st := s__law_is_right) l__law_is_right c__law_is_right k__law_is_right
  have b__law_is_right := F__law_is_right.binds (ps := ["_law_which", "_law_error", "_law_thing"]) fun _ _ _ _ _ _ us hl => match us, hl with | [_, _, _], _ => rfl
  have F__law_is_caught := fun_mk (st := s__law_is_caught) l__law_is_caught c__law_is_caught k__law_is_caught
  have b__law_is_caught := F__law_is_caught.binds (ps := ["_law_which", "_law_thing"]) fun _ _ _ _ _ _ us hl => match us, hl with | [_, _], _ => rfl
  have F_law := fun_mk (st := s_law) l_law c_law k_law
  have b_law := F_law.binds (ps := ["_law_script"]) fun _ _ _ _ _ _ us hl => match us, hl with | [_], _ => rfl
  have F_NotLet___init__ := fun_mk (st := s_NotLet___init__) l_NotLet___init__ c_NotLet___init__ k_NotLet___init__
  have b_NotLet___init__ := F_NotLet___init__.binds (ps := ["self", "index"]) fun _ _ _ _ _ _ us hl => match us, hl with | [_, _], _ => rfl
  have F_BadLog___init__ := fun_mk (st := s_BadLog___init__) l_BadLog___init__ c_BadLog___init__ k_BadLog___init__
  have b_BadLog___init__ := F_BadLog___init__.binds (ps := ["self", "index"]) fun _ _ _ _ _ _ us hl => match us, hl with | [_, _], _ => rfl
  have F_BadBook___init__ := fun_mk (st := s_BadBook___init__) l_BadBook___init__ c_BadBook___init__ k_BadBook___init__
  have b_BadBook___init__ := F_BadBook___init__.binds (ps := ["self", "part"]) fun _ _ _ _ _ _ us hl => match us, hl with | [_, _], _ => rfl
  have F_TooMany___init__ := fun_mk (st := s_TooMany___init__) l_TooMany___init__ c_TooMany___init__ k_TooMany___init__
  have b_TooMany___init__ := F_TooMany___init__.binds (ps := ["self", "most"]) fun _ _ _ _ _ _ us hl => match us, hl with | [_, _], _ => rfl
  have F_BadText___init__ := fun_mk (st := s_BadText___init__) l_BadText___init__ c_BadText___init__ k_BadText___init__
  have b_BadText___init__ := F_BadText___init__.binds (ps := ["self", "line"]) fun _ _ _ _ _ _ us hl => match us, hl with | [_, _], _ => rfl
  have eI : ∀ i, i < 20 → ErrI K (([cNoRun, cNoWorld, cNoCopy, cNoCopies, cNoOrder, cNoLook, cNoQuestion, cNoNumber, cNoStamp, cNoStamps, cNoCell, cNoValue, cFull, cLastCopy, cNothingDone, cNotLet, cBadLog, cBadBook, cTooMany, cBadText] : List Addr).getD i 0) := fun i hi => match i, hi with
      | 0, _ => ⟨iC_NoRun, ga_NoRun, gg_NoRun, eC_NoRun, ca_NoRun, cn_NoRun, ck_NoRun, cm_NoRun⟩
      | 1, _ => ⟨iC_NoWorld, ga_NoWorld, gg_NoWorld, eC_NoWorld, ca_NoWorld, cn_NoWorld, ck_NoWorld, cm_NoWorld⟩
      | 2, _ => ⟨iC_NoCopy, ga_NoCopy, gg_NoCopy, eC_NoCopy, ca_NoCopy, cn_NoCopy, ck_NoCopy, cm_NoCopy⟩
      | 3, _ => ⟨iC_NoCopies, ga_NoCopies, gg_NoCopies, eC_NoCopies, ca_NoCopies, cn_NoCopies, ck_NoCopies, cm_NoCopies⟩
      | 4, _ => ⟨iC_NoOrder, ga_NoOrder, gg_NoOrder, eC_NoOrder, ca_NoOrder, cn_NoOrder, ck_NoOrder, cm_NoOrder⟩
      | 5, _ => ⟨iC_NoLook, ga_NoLook, gg_NoLook, eC_NoLook, ca_NoLook, cn_NoLook, ck_NoLook, cm_NoLook⟩
      | 6, _ => ⟨iC_NoQuestion, ga_NoQuestion, gg_NoQuestion, eC_NoQuestion, ca_NoQuestion, cn_NoQuestion, ck_NoQuestion, cm_NoQuestion⟩
      | 7, _ => ⟨iC_NoNumber, ga_NoNumber, gg_NoNumber, eC_NoNumber, ca_NoNumber, cn_NoNumber, ck_NoNumber, cm_NoNumber⟩
      | 8, _ => ⟨iC_NoStamp, ga_NoStamp, gg_NoStamp, eC_NoStamp, ca_NoStamp, cn_NoStamp, ck_NoStamp, cm_NoStamp⟩
      | 9, _ => ⟨iC_NoStamps, ga_NoStamps, gg_NoStamps, eC_NoStamps, ca_NoStamps, cn_NoStamps, ck_NoStamps, cm_NoStamps⟩
      | 10, _ => ⟨iC_NoCell, ga_NoCell, gg_NoCell, eC_NoCell, ca_NoCell, cn_NoCell, ck_NoCell, cm_NoCell⟩
      | 11, _ => ⟨iC_NoValue, ga_NoValue, gg_NoValue, eC_NoValue, ca_NoValue, cn_NoValue, ck_NoValue, cm_NoValue⟩
      | 12, _ => ⟨iC_Full, ga_Full, gg_Full, eC_Full, ca_Full, cn_Full, ck_Full, cm_Full⟩
      | 13, _ => ⟨iC_LastCopy, ga_LastCopy, gg_LastCopy, eC_LastCopy, ca_LastCopy, cn_LastCopy, ck_LastCopy, cm_LastCopy⟩
      | 14, _ => ⟨iC_NothingDone, ga_NothingDone, gg_NothingDone, eC_NothingDone, ca_NothingDone, cn_NothingDone, ck_NothingDone, cm_NothingDone⟩
      | 15, _ => ⟨iC_NotLet, ga_NotLet, gg_NotLet, eC_NotLet, ca_NotLet, cn_NotLet, ck_NotLet, cm_NotLet⟩
      | 16, _ => ⟨iC_BadLog, ga_BadLog, gg_BadLog, eC_BadLog, ca_BadLog, cn_BadLog, ck_BadLog, cm_BadLog⟩
      | 17, _ => ⟨iC_BadBook, ga_BadBook, gg_BadBook, eC_BadBook, ca_BadBook, cn_BadBook, ck_BadBook, cm_BadBook⟩
      | 18, _ => ⟨iC_TooMany, ga_TooMany, gg_TooMany, eC_TooMany, ca_TooMany, cn_TooMany, ck_TooMany, cm_TooMany⟩
      | 19, _ => ⟨iC_BadText, ga_BadText, gg_BadText, eC_BadText, ca_BadText, cn_BadText, ck_BadText, cm_BadText⟩
      | n + 20, h => absurd h (by omega)
  have iA : ∀ i, i < 20 → PySem.W.isClsIn K (([cNoRun, cNoWorld, cNoCopy, cNoCopies, cNoOrder, cNoLook, cNoQuestion, cNoNumber, cNoStamp, cNoStamps, cNoCell, cNoValue, cFull, cLastCopy, cNothingDone, cNotLet, cBadLog, cBadBook, cTooMany, cBadText] : List Addr).getD i 0) = true ∧ PySem.W.typeIn K (.ref (([cNoRun, cNoWorld, cNoCopy, cNoCopies, cNoOrder, cNoLook, cNoQuestion, cNoNumber, cNoStamp, cNoStamps, cNoCell, cNoValue, cFull, cLastCopy, cNothingDone, cNotLet, cBadLog, cBadBook, cTooMany, cBadText] : List Addr).getD i 0)) = some (.type "type") ∧ PySem.W.subIn K (.ref (([cNoRun, cNoWorld, cNoCopy, cNoCopies, cNoOrder, cNoLook, cNoQuestion, cNoNumber, cNoStamp, cNoStamps, cNoCell, cNoValue, cFull, cLastCopy, cNothingDone, cNotLet, cBadLog, cBadBook, cTooMany, cBadText] : List Addr).getD i 0)) (.type "ValueError") = some true ∧ PySem.W.subIn K (.ref (([cNoRun, cNoWorld, cNoCopy, cNoCopies, cNoOrder, cNoLook, cNoQuestion, cNoNumber, cNoStamp, cNoStamps, cNoCell, cNoValue, cFull, cLastCopy, cNothingDone, cNotLet, cBadLog, cBadBook, cTooMany, cBadText] : List Addr).getD i 0)) (.ref cCopyError) = some true ∧ ([cNoRun, cNoWorld, cNoCopy, cNoCopies, cNoOrder, cNoLook, cNoQuestion, cNoNumber, cNoStamp, cNoStamps, cNoCell, cNoValue, cFull, cLastCopy, cNothingDone, cNotLet, cBadLog, cBadBook, cTooMany, cBadText] : List Addr).getD i 0 ≠ cCopyError := fun i hi => match i, hi with
      | 0, _ => ⟨iC_NoRun, tC_NoRun, vC_NoRun, s_NoRun_CopyError, nc_NoRun⟩
      | 1, _ => ⟨iC_NoWorld, tC_NoWorld, vC_NoWorld, s_NoWorld_CopyError, nc_NoWorld⟩
      | 2, _ => ⟨iC_NoCopy, tC_NoCopy, vC_NoCopy, s_NoCopy_CopyError, nc_NoCopy⟩
      | 3, _ => ⟨iC_NoCopies, tC_NoCopies, vC_NoCopies, s_NoCopies_CopyError, nc_NoCopies⟩
      | 4, _ => ⟨iC_NoOrder, tC_NoOrder, vC_NoOrder, s_NoOrder_CopyError, nc_NoOrder⟩
      | 5, _ => ⟨iC_NoLook, tC_NoLook, vC_NoLook, s_NoLook_CopyError, nc_NoLook⟩
      | 6, _ => ⟨iC_NoQuestion, tC_NoQuestion, vC_NoQuestion, s_NoQuestion_CopyError, nc_NoQuestion⟩
      | 7, _ => ⟨iC_NoNumber, tC_NoNumber, vC_NoNumber, s_NoNumber_CopyError, nc_NoNumber⟩
      | 8, _ => ⟨iC_NoStamp, tC_NoStamp, vC_NoStamp, s_NoStamp_CopyError, nc_NoStamp⟩
      | 9, _ => ⟨iC_NoStamps, tC_NoStamps, vC_NoStamps, s_NoStamps_CopyError, nc_NoStamps⟩
      | 10, _ => ⟨iC_NoCell, tC_NoCell, vC_NoCell, s_NoCell_CopyError, nc_NoCell⟩
      | 11, _ => ⟨iC_NoValue, tC_NoValue, vC_NoValue, s_NoValue_CopyError, nc_NoValue⟩
      | 12, _ => ⟨iC_Full, tC_Full, vC_Full, s_Full_CopyError, nc_Full⟩
      | 13, _ => ⟨iC_LastCopy, tC_LastCopy, vC_LastCopy, s_LastCopy_CopyError, nc_LastCopy⟩
      | 14, _ => ⟨iC_NothingDone, tC_NothingDone, vC_NothingDone, s_NothingDone_CopyError, nc_NothingDone⟩
      | 15, _ => ⟨iC_NotLet, tC_NotLet, vC_NotLet, s_NotLet_CopyError, nc_NotLet⟩
      | 16, _ => ⟨iC_BadLog, tC_BadLog, vC_BadLog, s_BadLog_CopyError, nc_BadLog⟩
      | 17, _ => ⟨iC_BadBook, tC_BadBook, vC_BadBook, s_BadBook_CopyError, nc_BadBook⟩
      | 18, _ => ⟨iC_TooMany, tC_TooMany, vC_TooMany, s_TooMany_CopyError, nc_TooMany⟩
      | 19, _ => ⟨iC_BadText, tC_BadText, vC_BadText, s_BadText_CopyError, nc_BadText⟩
      | n + 20, h => absurd h (by omega)
  have T : Txt K mg (fun i => ([cNoRun, cNoWorld, cNoCopy, cNoCopies, cNoOrder, cNoLook, cNoQuestion, cNoNumber, cNoStamp, cNoStamps, cNoCell, cNoValue, cFull, cLastCopy, cNothingDone, cNotLet, cBadLog, cBadBook, cTooMany, cBadText] : List Addr).getD i 0) cCopyError := {
    b_ValueError := PySem.W.mg_none_of X G z_ValueError,
    b_abs := PySem.W.mg_none_of X G z_abs,
    b_all := PySem.W.mg_none_of X G z_all,
    b_any := PySem.W.mg_none_of X G z_any,
    b_bool := PySem.W.mg_none_of X G z_bool,
    b_dict := PySem.W.mg_none_of X G z_dict,
    b_enumerate := PySem.W.mg_none_of X G z_enumerate,
    b_int := PySem.W.mg_none_of X G z_int,
    b_isinstance := PySem.W.mg_none_of X G z_isinstance,
    b_len := PySem.W.mg_none_of X G z_len,
    b_list := PySem.W.mg_none_of X G z_list,
    b_max := PySem.W.mg_none_of X G z_max,
    b_min := PySem.W.mg_none_of X G z_min,
    b_range := PySem.W.mg_none_of X G z_range,
    b_set := PySem.W.mg_none_of X G z_set,
    b_sorted := PySem.W.mg_none_of X G z_sorted,
    b_str := PySem.W.mg_none_of X G z_str,
    b_sum := PySem.W.mg_none_of X G z_sum,
    b_tuple := PySem.W.mg_none_of X G z_tuple,
    b_type := PySem.W.mg_none_of X G z_type,
    b_zip := PySem.W.mg_none_of X G z_zip,
    d__law_pot := ⟨_, _, F__law_pot, PySem.W.mg_of X G a__law_pot, k__law_pot, b__law_pot⟩,
    d__law_draw := ⟨_, _, F__law_draw, PySem.W.mg_of X G a__law_draw, k__law_draw, b__law_draw⟩,
    d__law_any := ⟨_, _, F__law_any, PySem.W.mg_of X G a__law_any, k__law_any, b__law_any⟩,
    d__law_deep := ⟨_, _, F__law_deep, PySem.W.mg_of X G a__law_deep, k__law_deep, b__law_deep⟩,
    d__law_made := ⟨_, _, F__law_made, PySem.W.mg_of X G a__law_made, k__law_made, b__law_made⟩,
    d__law_flags := ⟨_, _, F__law_flags, PySem.W.mg_of X G a__law_flags, k__law_flags, b__law_flags⟩,
    d__law_kept := ⟨_, _, F__law_kept, PySem.W.mg_of X G a__law_kept, k__law_kept, b__law_kept⟩,
    d__law_is_right := ⟨_, _, F__law_is_right, PySem.W.mg_of X G a__law_is_right, k__law_is_right, b__law_is_right⟩,
    d__law_is_caught := ⟨_, _, F__law_is_caught, PySem.W.mg_of X G a__law_is_caught, k__law_is_caught, b__law_is_caught⟩,
    d_law := ⟨_, _, F_law, PySem.W.mg_of X G a_law, k_law, b_law⟩,
    d_NotLet___init__ := ⟨_, _, F_NotLet___init__, ⟨⟨kC_NotLet, eC_NotLet, tC_NotLet⟩, ⟨_, _, _, _, _, _, _, _, _, _, _, _, _, _, _, x_NotLet, rv_NotLet⟩, sa_NotLet, nb_NotLet, a_NotLet___init__, t_NotLet___init__⟩, b_NotLet___init__⟩,
    c_NotLet := PySem.W.mg_of X G g_NotLet,
    d_BadLog___init__ := ⟨_, _, F_BadLog___init__, ⟨⟨kC_BadLog, eC_BadLog, tC_BadLog⟩, ⟨_, _, _, _, _, _, _, _, _, _, _, _, _, _, _, x_BadLog, rv_BadLog⟩, sa_BadLog, nb_BadLog, a_BadLog___init__, t_BadLog___init__⟩, b_BadLog___init__⟩,
    c_BadLog := PySem.W.mg_of X G g_BadLog,
    d_BadBook___init__ := ⟨_, _, F_BadBook___init__, ⟨⟨kC_BadBook, eC_BadBook, tC_BadBook⟩, ⟨_, _, _, _, _, _, _, _, _, _, _, _, _, _, _, x_BadBook, rv_BadBook⟩, sa_BadBook, nb_BadBook, a_BadBook___init__, t_BadBook___init__⟩, b_BadBook___init__⟩,
    c_BadBook := PySem.W.mg_of X G g_BadBook,
    d_TooMany___init__ := ⟨_, _, F_TooMany___init__, ⟨⟨kC_TooMany, eC_TooMany, tC_TooMany⟩, ⟨_, _, _, _, _, _, _, _, _, _, _, _, _, _, _, x_TooMany, rv_TooMany⟩, sa_TooMany, nb_TooMany, a_TooMany___init__, t_TooMany___init__⟩, b_TooMany___init__⟩,
    c_TooMany := PySem.W.mg_of X G g_TooMany,
    d_BadText___init__ := ⟨_, _, F_BadText___init__, ⟨⟨kC_BadText, eC_BadText, tC_BadText⟩, ⟨_, _, _, _, _, _, _, _, _, _, _, _, _, _, _, x_BadText, rv_BadText⟩, sa_BadText, nb_BadText, a_BadText___init__, t_BadText___init__⟩, b_BadText___init__⟩,
    c_BadText := PySem.W.mg_of X G g_BadText,
    e_NoRun := ⟨⟨kC_NoRun, eC_NoRun, tC_NoRun⟩, ex_NoRun⟩,
    c_NoRun := PySem.W.mg_of X G g_NoRun,
    e_NoWorld := ⟨⟨kC_NoWorld, eC_NoWorld, tC_NoWorld⟩, ex_NoWorld⟩,
    c_NoWorld := PySem.W.mg_of X G g_NoWorld,
    e_NoCopy := ⟨⟨kC_NoCopy, eC_NoCopy, tC_NoCopy⟩, ex_NoCopy⟩,
    c_NoCopy := PySem.W.mg_of X G g_NoCopy,
    e_NoCopies := ⟨⟨kC_NoCopies, eC_NoCopies, tC_NoCopies⟩, ex_NoCopies⟩,
    c_NoCopies := PySem.W.mg_of X G g_NoCopies,
    e_NoOrder := ⟨⟨kC_NoOrder, eC_NoOrder, tC_NoOrder⟩, ex_NoOrder⟩,
    c_NoOrder := PySem.W.mg_of X G g_NoOrder,
    e_NoLook := ⟨⟨kC_NoLook, eC_NoLook, tC_NoLook⟩, ex_NoLook⟩,
    c_NoLook := PySem.W.mg_of X G g_NoLook,
    e_NoQuestion := ⟨⟨kC_NoQuestion, eC_NoQuestion, tC_NoQuestion⟩, ex_NoQuestion⟩,
    c_NoQuestion := PySem.W.mg_of X G g_NoQuestion,
    e_NoNumber := ⟨⟨kC_NoNumber, eC_NoNumber, tC_NoNumber⟩, ex_NoNumber⟩,
    c_NoNumber := PySem.W.mg_of X G g_NoNumber,
    e_NoStamp := ⟨⟨kC_NoStamp, eC_NoStamp, tC_NoStamp⟩, ex_NoStamp⟩,
    c_NoStamp := PySem.W.mg_of X G g_NoStamp,
    e_NoStamps := ⟨⟨kC_NoStamps, eC_NoStamps, tC_NoStamps⟩, ex_NoStamps⟩,
    c_NoStamps := PySem.W.mg_of X G g_NoStamps,
    e_NoCell := ⟨⟨kC_NoCell, eC_NoCell, tC_NoCell⟩, ex_NoCell⟩,
    c_NoCell := PySem.W.mg_of X G g_NoCell,
    e_NoValue := ⟨⟨kC_NoValue, eC_NoValue, tC_NoValue⟩, ex_NoValue⟩,
    c_NoValue := PySem.W.mg_of X G g_NoValue,
    e_Full := ⟨⟨kC_Full, eC_Full, tC_Full⟩, ex_Full⟩,
    c_Full := PySem.W.mg_of X G g_Full,
    e_LastCopy := ⟨⟨kC_LastCopy, eC_LastCopy, tC_LastCopy⟩, ex_LastCopy⟩,
    c_LastCopy := PySem.W.mg_of X G g_LastCopy,
    e_NothingDone := ⟨⟨kC_NothingDone, eC_NothingDone, tC_NothingDone⟩, ex_NothingDone⟩,
    c_NothingDone := PySem.W.mg_of X G g_NothingDone,
    c_CopyError := PySem.W.mg_of X G g_CopyError,
    xf := fun i hi => match i, hi with
      | 0, _ => ⟨ga_NoRun, gg_NoRun, eC_NoRun, hC_NoRun⟩
      | 1, _ => ⟨ga_NoWorld, gg_NoWorld, eC_NoWorld, hC_NoWorld⟩
      | 2, _ => ⟨ga_NoCopy, gg_NoCopy, eC_NoCopy, hC_NoCopy⟩
      | 3, _ => ⟨ga_NoCopies, gg_NoCopies, eC_NoCopies, hC_NoCopies⟩
      | 4, _ => ⟨ga_NoOrder, gg_NoOrder, eC_NoOrder, hC_NoOrder⟩
      | 5, _ => ⟨ga_NoLook, gg_NoLook, eC_NoLook, hC_NoLook⟩
      | 6, _ => ⟨ga_NoQuestion, gg_NoQuestion, eC_NoQuestion, hC_NoQuestion⟩
      | 7, _ => ⟨ga_NoNumber, gg_NoNumber, eC_NoNumber, hC_NoNumber⟩
      | 8, _ => ⟨ga_NoStamp, gg_NoStamp, eC_NoStamp, hC_NoStamp⟩
      | 9, _ => ⟨ga_NoStamps, gg_NoStamps, eC_NoStamps, hC_NoStamps⟩
      | 10, _ => ⟨ga_NoCell, gg_NoCell, eC_NoCell, hC_NoCell⟩
      | 11, _ => ⟨ga_NoValue, gg_NoValue, eC_NoValue, hC_NoValue⟩
      | 12, _ => ⟨ga_Full, gg_Full, eC_Full, hC_Full⟩
      | 13, _ => ⟨ga_LastCopy, gg_LastCopy, eC_LastCopy, hC_LastCopy⟩
      | 14, _ => ⟨ga_NothingDone, gg_NothingDone, eC_NothingDone, hC_NothingDone⟩
      | 15, _ => ⟨ga_NotLet, gg_NotLet, eC_NotLet, hC_NotLet⟩
      | 16, _ => ⟨ga_BadLog, gg_BadLog, eC_BadLog, hC_BadLog⟩
      | 17, _ => ⟨ga_BadBook, gg_BadBook, eC_BadBook, hC_BadBook⟩
      | 18, _ => ⟨ga_TooMany, gg_TooMany, eC_TooMany, hC_TooMany⟩
      | 19, _ => ⟨ga_BadText, gg_BadText, eC_BadText, hC_BadText⟩
      | n + 20, h => absurd h (by omega),
    xn := fun i h1 h2 => match i, h1, h2 with
      | 15, _, _ => nb_NotLet
      | 16, _, _ => nb_BadLog
      | 17, _, _ => nb_BadBook
      | 18, _, _ => nb_TooMany
      | 19, _, _ => nb_BadText
      | 0, h, _ => absurd h (by decide)
      | 1, h, _ => absurd h (by decide)
      | 2, h, _ => absurd h (by decide)
      | 3, h, _ => absurd h (by decide)
      | 4, h, _ => absurd h (by decide)
      | 5, h, _ => absurd h (by decide)
      | 6, h, _ => absurd h (by decide)
      | 7, h, _ => absurd h (by decide)
      | 8, h, _ => absurd h (by decide)
      | 9, h, _ => absurd h (by decide)
      | 10, h, _ => absurd h (by decide)
      | 11, h, _ => absurd h (by decide)
      | 12, h, _ => absurd h (by decide)
      | 13, h, _ => absurd h (by decide)
      | 14, h, _ => absurd h (by decide)
      | n + 20, _, h => absurd h (by omega),
    em := fun i hi => match i, hi with
      | 0, _ => exm_of eC_CopyError iC_CopyError tC_CopyError s_NoRun_CopyError
      | 1, _ => exm_of eC_CopyError iC_CopyError tC_CopyError s_NoWorld_CopyError
      | 2, _ => exm_of eC_CopyError iC_CopyError tC_CopyError s_NoCopy_CopyError
      | 3, _ => exm_of eC_CopyError iC_CopyError tC_CopyError s_NoCopies_CopyError
      | 4, _ => exm_of eC_CopyError iC_CopyError tC_CopyError s_NoOrder_CopyError
      | 5, _ => exm_of eC_CopyError iC_CopyError tC_CopyError s_NoLook_CopyError
      | 6, _ => exm_of eC_CopyError iC_CopyError tC_CopyError s_NoQuestion_CopyError
      | 7, _ => exm_of eC_CopyError iC_CopyError tC_CopyError s_NoNumber_CopyError
      | 8, _ => exm_of eC_CopyError iC_CopyError tC_CopyError s_NoStamp_CopyError
      | 9, _ => exm_of eC_CopyError iC_CopyError tC_CopyError s_NoStamps_CopyError
      | 10, _ => exm_of eC_CopyError iC_CopyError tC_CopyError s_NoCell_CopyError
      | 11, _ => exm_of eC_CopyError iC_CopyError tC_CopyError s_NoValue_CopyError
      | 12, _ => exm_of eC_CopyError iC_CopyError tC_CopyError s_Full_CopyError
      | 13, _ => exm_of eC_CopyError iC_CopyError tC_CopyError s_LastCopy_CopyError
      | 14, _ => exm_of eC_CopyError iC_CopyError tC_CopyError s_NothingDone_CopyError
      | 15, _ => exm_of eC_CopyError iC_CopyError tC_CopyError s_NotLet_CopyError
      | 16, _ => exm_of eC_CopyError iC_CopyError tC_CopyError s_BadLog_CopyError
      | 17, _ => exm_of eC_CopyError iC_CopyError tC_CopyError s_BadBook_CopyError
      | 18, _ => exm_of eC_CopyError iC_CopyError tC_CopyError s_TooMany_CopyError
      | 19, _ => exm_of eC_CopyError iC_CopyError tC_CopyError s_BadText_CopyError
      | n + 20, h => absurd h (by omega),
    kit := kit_all nd_cl sub_all eI iA iC_CopyError tC_CopyError }
  exact ⟨PySem.W.fnOf "law" "law" (defArgs s_law) (defBody s_law) (defScope s_law) .none kV_law dc_law pm_law an_law cd_law ct_law, fun s u => .of_eq rfl, fun base _ _ => okF_law T (ok__law_pot T) (ok__law_draw T) (ok__law_any T (ok__law_draw T)) (ok__law_deep T) (ok__law_made T (ok_err T.d_NotLet___init__ T.c_NotLet sc_NotLet___init__ rfl) (ok_err T.d_BadLog___init__ T.c_BadLog sc_BadLog___init__ rfl) (ok_err T.d_BadBook___init__ T.c_BadBook sc_BadBook___init__ rfl) (ok_err T.d_TooMany___init__ T.c_TooMany sc_TooMany___init__ rfl) (ok_err T.d_BadText___init__ T.c_BadText sc_BadText___init__ rfl)) (ok__law_is_right T (ok__law_flags T) (ok__law_kept T)) (ok__law_is_caught T (fun a C d hC => okP__law_is_right T hC (okP__law_flags T hC) (okP__law_kept T hC)) (ok_err T.d_NotLet___init__ T.c_NotLet sc_NotLet___init__ rfl) (ok_err T.d_TooMany___init__ T.c_TooMany sc_TooMany___init__ rfl)) F_law⟩
end K00
open PySem PySem.W PyProof.Rows in
set_option maxRecDepth 100000 in
set_option maxHeartbeats 0 in
theorem PySem.Challenge.cw_threecopies_k00_errors_of_the_package_holds : PySem.Challenge.rw_threecopies_k00_errors_of_the_package.Holds := by
  w_on; o_law; k_head; (case hw => w_witness2)
  k_fill
  refine Dy.dy_walkX "_law_script" (l := PySem.Challenge.rw_threecopies_k00_errors_of_the_package) (k := 60) rfl rfl ⟨rfl, by decide, by decide⟩ (fun w h Y => PySem.W.kIn_of Y) ?F
  case F =>
    intro w mg fa h KX G hmg
    refine' K00.all_mk KX G hmg ?z_ValueError ?z_abs ?z_all ?z_any ?z_bool ?z_dict ?z_enumerate ?z_int ?z_isinstance ?z_len ?z_list ?z_max ?z_min ?z_range ?z_set ?z_sorted ?z_str ?z_sum ?z_tuple ?z_type ?z_zip ?a__law_pot ?l__law_pot ?c__law_pot ?k__law_pot ?a__law_draw ?l__law_draw ?c__law_draw ?k__law_draw ?a__law_any ?l__law_any ?c__law_any ?k__law_any ?a__law_deep ?l__law_deep ?c__law_deep ?k__law_deep ?a__law_made ?l__law_made ?c__law_made ?k__law_made ?a__law_flags ?l__law_flags ?c__law_flags ?k__law_flags ?a__law_kept ?l__law_kept ?c__law_kept ?k__law_kept ?a__law_is_right ?l__law_is_right ?c__law_is_right ?k__law_is_right ?a__law_is_caught ?l__law_is_caught ?c__law_is_caught ?k__law_is_caught ?a_law ?l_law ?c_law ?k_law ?g_CopyError ?g_NoRun ?g_NoWorld ?g_NoCopy ?g_NoCopies ?g_NoOrder ?g_NoLook ?g_NoQuestion ?g_NoNumber ?g_NoStamp ?g_NoStamps ?g_NoCell ?g_NoValue ?g_Full ?g_LastCopy ?g_NothingDone ?g_NotLet ?g_BadLog ?g_BadBook ?g_TooMany ?g_BadText ?x_NotLet ?sa_NotLet ?ga_NotLet ?gg_NotLet ?nb_NotLet ?kC_NotLet ?eC_NotLet ?tC_NotLet ?hC_NotLet ?iC_NotLet ?sC_NotLet ?vC_NotLet ?ca_NotLet ?cn_NotLet ?ck_NotLet ?cm_NotLet ?rv_NotLet ?a_NotLet___init__ ?l_NotLet___init__ ?c_NotLet___init__ ?k_NotLet___init__ ?t_NotLet___init__ ?x_BadLog ?sa_BadLog ?ga_BadLog ?gg_BadLog ?nb_BadLog ?kC_BadLog ?eC_BadLog ?tC_BadLog ?hC_BadLog ?iC_BadLog ?sC_BadLog ?vC_BadLog ?ca_BadLog ?cn_BadLog ?ck_BadLog ?cm_BadLog ?rv_BadLog ?a_BadLog___init__ ?l_BadLog___init__ ?c_BadLog___init__ ?k_BadLog___init__ ?t_BadLog___init__ ?x_BadBook ?sa_BadBook ?ga_BadBook ?gg_BadBook ?nb_BadBook ?kC_BadBook ?eC_BadBook ?tC_BadBook ?hC_BadBook ?iC_BadBook ?sC_BadBook ?vC_BadBook ?ca_BadBook ?cn_BadBook ?ck_BadBook ?cm_BadBook ?rv_BadBook ?a_BadBook___init__ ?l_BadBook___init__ ?c_BadBook___init__ ?k_BadBook___init__ ?t_BadBook___init__ ?x_TooMany ?sa_TooMany ?ga_TooMany ?gg_TooMany ?nb_TooMany ?kC_TooMany ?eC_TooMany ?tC_TooMany ?hC_TooMany ?iC_TooMany ?sC_TooMany ?vC_TooMany ?ca_TooMany ?cn_TooMany ?ck_TooMany ?cm_TooMany ?rv_TooMany ?a_TooMany___init__ ?l_TooMany___init__ ?c_TooMany___init__ ?k_TooMany___init__ ?t_TooMany___init__ ?x_BadText ?sa_BadText ?ga_BadText ?gg_BadText ?nb_BadText ?kC_BadText ?eC_BadText ?tC_BadText ?hC_BadText ?iC_BadText ?sC_BadText ?vC_BadText ?ca_BadText ?cn_BadText ?ck_BadText ?cm_BadText ?rv_BadText ?a_BadText___init__ ?l_BadText___init__ ?c_BadText___init__ ?k_BadText___init__ ?t_BadText___init__ ?ga_NoRun ?gg_NoRun ?kC_NoRun ?eC_NoRun ?tC_NoRun ?hC_NoRun ?iC_NoRun ?vC_NoRun ?ca_NoRun ?cn_NoRun ?ck_NoRun ?cm_NoRun ?ex_NoRun ?ga_NoWorld ?gg_NoWorld ?kC_NoWorld ?eC_NoWorld ?tC_NoWorld ?hC_NoWorld ?iC_NoWorld ?vC_NoWorld ?ca_NoWorld ?cn_NoWorld ?ck_NoWorld ?cm_NoWorld ?ex_NoWorld ?ga_NoCopy ?gg_NoCopy ?kC_NoCopy ?eC_NoCopy ?tC_NoCopy ?hC_NoCopy ?iC_NoCopy ?vC_NoCopy ?ca_NoCopy ?cn_NoCopy ?ck_NoCopy ?cm_NoCopy ?ex_NoCopy ?ga_NoCopies ?gg_NoCopies ?kC_NoCopies ?eC_NoCopies ?tC_NoCopies ?hC_NoCopies ?iC_NoCopies ?vC_NoCopies ?ca_NoCopies ?cn_NoCopies ?ck_NoCopies ?cm_NoCopies ?ex_NoCopies ?ga_NoOrder ?gg_NoOrder ?kC_NoOrder ?eC_NoOrder ?tC_NoOrder ?hC_NoOrder ?iC_NoOrder ?vC_NoOrder ?ca_NoOrder ?cn_NoOrder ?ck_NoOrder ?cm_NoOrder ?ex_NoOrder ?ga_NoLook ?gg_NoLook ?kC_NoLook ?eC_NoLook ?tC_NoLook ?hC_NoLook ?iC_NoLook ?vC_NoLook ?ca_NoLook ?cn_NoLook ?ck_NoLook ?cm_NoLook ?ex_NoLook ?ga_NoQuestion ?gg_NoQuestion ?kC_NoQuestion ?eC_NoQuestion ?tC_NoQuestion ?hC_NoQuestion ?iC_NoQuestion ?vC_NoQuestion ?ca_NoQuestion ?cn_NoQuestion ?ck_NoQuestion ?cm_NoQuestion ?ex_NoQuestion ?ga_NoNumber ?gg_NoNumber ?kC_NoNumber ?eC_NoNumber ?tC_NoNumber ?hC_NoNumber ?iC_NoNumber ?vC_NoNumber ?ca_NoNumber ?cn_NoNumber ?ck_NoNumber ?cm_NoNumber ?ex_NoNumber ?ga_NoStamp ?gg_NoStamp ?kC_NoStamp ?eC_NoStamp ?tC_NoStamp ?hC_NoStamp ?iC_NoStamp ?vC_NoStamp ?ca_NoStamp ?cn_NoStamp ?ck_NoStamp ?cm_NoStamp ?ex_NoStamp ?ga_NoStamps ?gg_NoStamps ?kC_NoStamps ?eC_NoStamps ?tC_NoStamps ?hC_NoStamps ?iC_NoStamps ?vC_NoStamps ?ca_NoStamps ?cn_NoStamps ?ck_NoStamps ?cm_NoStamps ?ex_NoStamps ?ga_NoCell ?gg_NoCell ?kC_NoCell ?eC_NoCell ?tC_NoCell ?hC_NoCell ?iC_NoCell ?vC_NoCell ?ca_NoCell ?cn_NoCell ?ck_NoCell ?cm_NoCell ?ex_NoCell ?ga_NoValue ?gg_NoValue ?kC_NoValue ?eC_NoValue ?tC_NoValue ?hC_NoValue ?iC_NoValue ?vC_NoValue ?ca_NoValue ?cn_NoValue ?ck_NoValue ?cm_NoValue ?ex_NoValue ?ga_Full ?gg_Full ?kC_Full ?eC_Full ?tC_Full ?hC_Full ?iC_Full ?vC_Full ?ca_Full ?cn_Full ?ck_Full ?cm_Full ?ex_Full ?ga_LastCopy ?gg_LastCopy ?kC_LastCopy ?eC_LastCopy ?tC_LastCopy ?hC_LastCopy ?iC_LastCopy ?vC_LastCopy ?ca_LastCopy ?cn_LastCopy ?ck_LastCopy ?cm_LastCopy ?ex_LastCopy ?ga_NothingDone ?gg_NothingDone ?kC_NothingDone ?eC_NothingDone ?tC_NothingDone ?hC_NothingDone ?iC_NothingDone ?vC_NothingDone ?ca_NothingDone ?cn_NothingDone ?ck_NothingDone ?cm_NothingDone ?ex_NothingDone ?eC_CopyError ?tC_CopyError ?iC_CopyError ?s_NoRun_CopyError ?s_NoWorld_CopyError ?s_NoCopy_CopyError ?s_NoCopies_CopyError ?s_NoOrder_CopyError ?s_NoLook_CopyError ?s_NoQuestion_CopyError ?s_NoNumber_CopyError ?s_NoStamp_CopyError ?s_NoStamps_CopyError ?s_NoCell_CopyError ?s_NoValue_CopyError ?s_Full_CopyError ?s_LastCopy_CopyError ?s_NothingDone_CopyError ?s_NotLet_CopyError ?s_BadLog_CopyError ?s_BadBook_CopyError ?s_TooMany_CopyError ?s_BadText_CopyError ?nd_cl ?nc_NoRun ?nc_NoWorld ?nc_NoCopy ?nc_NoCopies ?nc_NoOrder ?nc_NoLook ?nc_NoQuestion ?nc_NoNumber ?nc_NoStamp ?nc_NoStamps ?nc_NoCell ?nc_NoValue ?nc_Full ?nc_LastCopy ?nc_NothingDone ?nc_NotLet ?nc_BadLog ?nc_BadBook ?nc_TooMany ?nc_BadText ?sub_all
    (case z_ValueError => k_is)
    (case z_abs => k_is)
    (case z_all => k_is)
    (case z_any => k_is)
    (case z_bool => k_is)
    (case z_dict => k_is)
    (case z_enumerate => k_is)
    (case z_int => k_is)
    (case z_isinstance => k_is)
    (case z_len => k_is)
    (case z_list => k_is)
    (case z_max => k_is)
    (case z_min => k_is)
    (case z_range => k_is)
    (case z_set => k_is)
    (case z_sorted => k_is)
    (case z_str => k_is)
    (case z_sum => k_is)
    (case z_tuple => k_is)
    (case z_type => k_is)
    (case z_zip => k_is)
    (case a__law_pot => k_is)
    (case l__law_pot => k_is)
    (case c__law_pot => k_is)
    (case k__law_pot => k_is)
    (case a__law_draw => k_is)
    (case l__law_draw => k_is)
    (case c__law_draw => k_is)
    (case k__law_draw => k_is)
    (case a__law_any => k_is)
    (case l__law_any => k_is)
    (case c__law_any => k_is)
    (case k__law_any => k_is)
    (case a__law_deep => k_is)
    (case l__law_deep => k_is)
    (case c__law_deep => k_is)
    (case k__law_deep => k_is)
    (case a__law_made => k_is)
    (case l__law_made => k_is)
    (case c__law_made => k_is)
    (case k__law_made => k_is)
    (case a__law_flags => k_is)
    (case l__law_flags => k_is)
    (case c__law_flags => k_is)
    (case k__law_flags => k_is)
    (case a__law_kept => k_is)
    (case l__law_kept => k_is)
    (case c__law_kept => k_is)
    (case k__law_kept => k_is)
    (case a__law_is_right => k_is)
    (case l__law_is_right => k_is)
    (case c__law_is_right => k_is)
    (case k__law_is_right => k_is)
    (case a__law_is_caught => k_is)
    (case l__law_is_caught => k_is)
    (case c__law_is_caught => k_is)
    (case k__law_is_caught => k_is)
    (case a_law => k_is)
    (case l_law => k_is)
    (case c_law => k_is)
    (case k_law => k_is)
    (case g_CopyError => k_is)
    (case g_NoRun => k_is)
    (case g_NoWorld => k_is)
    (case g_NoCopy => k_is)
    (case g_NoCopies => k_is)
    (case g_NoOrder => k_is)
    (case g_NoLook => k_is)
    (case g_NoQuestion => k_is)
    (case g_NoNumber => k_is)
    (case g_NoStamp => k_is)
    (case g_NoStamps => k_is)
    (case g_NoCell => k_is)
    (case g_NoValue => k_is)
    (case g_Full => k_is)
    (case g_LastCopy => k_is)
    (case g_NothingDone => k_is)
    (case g_NotLet => k_is)
    (case g_BadLog => k_is)
    (case g_BadBook => k_is)
    (case g_TooMany => k_is)
    (case g_BadText => k_is)
    (case x_NotLet => k_is)
    (case sa_NotLet => k_is)
    (case ga_NotLet => k_is)
    (case gg_NotLet => k_is)
    (case nb_NotLet => k_is)
    (case kC_NotLet => k_is)
    (case eC_NotLet => k_is)
    (case tC_NotLet => k_is)
    (case hC_NotLet => k_is)
    (case iC_NotLet => k_is)
    (case sC_NotLet => k_is)
    (case vC_NotLet => k_is)
    (case ca_NotLet => k_is)
    (case cn_NotLet => k_is)
    (case ck_NotLet => k_is)
    (case cm_NotLet => k_is)
    (case rv_NotLet => decide +kernel)
    (case a_NotLet___init__ => k_is)
    (case l_NotLet___init__ => k_is)
    (case c_NotLet___init__ => k_is)
    (case k_NotLet___init__ => k_is)
    (case t_NotLet___init__ => k_is)
    (case x_BadLog => k_is)
    (case sa_BadLog => k_is)
    (case ga_BadLog => k_is)
    (case gg_BadLog => k_is)
    (case nb_BadLog => k_is)
    (case kC_BadLog => k_is)
    (case eC_BadLog => k_is)
    (case tC_BadLog => k_is)
    (case hC_BadLog => k_is)
    (case iC_BadLog => k_is)
    (case sC_BadLog => k_is)
    (case vC_BadLog => k_is)
    (case ca_BadLog => k_is)
    (case cn_BadLog => k_is)
    (case ck_BadLog => k_is)
    (case cm_BadLog => k_is)
    (case rv_BadLog => decide +kernel)
    (case a_BadLog___init__ => k_is)
    (case l_BadLog___init__ => k_is)
    (case c_BadLog___init__ => k_is)
    (case k_BadLog___init__ => k_is)
    (case t_BadLog___init__ => k_is)
    (case x_BadBook => k_is)
    (case sa_BadBook => k_is)
    (case ga_BadBook => k_is)
    (case gg_BadBook => k_is)
    (case nb_BadBook => k_is)
    (case kC_BadBook => k_is)
    (case eC_BadBook => k_is)
    (case tC_BadBook => k_is)
    (case hC_BadBook => k_is)
    (case iC_BadBook => k_is)
    (case sC_BadBook => k_is)
    (case vC_BadBook => k_is)
    (case ca_BadBook => k_is)
    (case cn_BadBook => k_is)
    (case ck_BadBook => k_is)
    (case cm_BadBook => k_is)
    (case rv_BadBook => decide +kernel)
    (case a_BadBook___init__ => k_is)
    (case l_BadBook___init__ => k_is)
    (case c_BadBook___init__ => k_is)
    (case k_BadBook___init__ => k_is)
    (case t_BadBook___init__ => k_is)
    (case x_TooMany => k_is)
    (case sa_TooMany => k_is)
    (case ga_TooMany => k_is)
    (case gg_TooMany => k_is)
    (case nb_TooMany => k_is)
    (case kC_TooMany => k_is)
    (case eC_TooMany => k_is)
    (case tC_TooMany => k_is)
    (case hC_TooMany => k_is)
    (case iC_TooMany => k_is)
    (case sC_TooMany => k_is)
    (case vC_TooMany => k_is)
    (case ca_TooMany => k_is)
    (case cn_TooMany => k_is)
    (case ck_TooMany => k_is)
    (case cm_TooMany => k_is)
    (case rv_TooMany => decide +kernel)
    (case a_TooMany___init__ => k_is)
    (case l_TooMany___init__ => k_is)
    (case c_TooMany___init__ => k_is)
    (case k_TooMany___init__ => k_is)
    (case t_TooMany___init__ => k_is)
    (case x_BadText => k_is)
    (case sa_BadText => k_is)
    (case ga_BadText => k_is)
    (case gg_BadText => k_is)
    (case nb_BadText => k_is)
    (case kC_BadText => k_is)
    (case eC_BadText => k_is)
    (case tC_BadText => k_is)
    (case hC_BadText => k_is)
    (case iC_BadText => k_is)
    (case sC_BadText => k_is)
    (case vC_BadText => k_is)
    (case ca_BadText => k_is)
    (case cn_BadText => k_is)
    (case ck_BadText => k_is)
    (case cm_BadText => k_is)
    (case rv_BadText => decide +kernel)
    (case a_BadText___init__ => k_is)
    (case l_BadText___init__ => k_is)
    (case c_BadText___init__ => k_is)
    (case k_BadText___init__ => k_is)
    (case t_BadText___init__ => k_is)
    (case ga_NoRun => k_is)
    (case gg_NoRun => k_is)
    (case kC_NoRun => k_is)
    (case eC_NoRun => k_is)
    (case tC_NoRun => k_is)
    (case hC_NoRun => k_is)
    (case iC_NoRun => k_is)
    (case vC_NoRun => k_is)
    (case ca_NoRun => k_is)
    (case cn_NoRun => k_is)
    (case ck_NoRun => k_is)
    (case cm_NoRun => k_is)
    (case ex_NoRun => first | k_exc | decide +kernel)
    (case ga_NoWorld => k_is)
    (case gg_NoWorld => k_is)
    (case kC_NoWorld => k_is)
    (case eC_NoWorld => k_is)
    (case tC_NoWorld => k_is)
    (case hC_NoWorld => k_is)
    (case iC_NoWorld => k_is)
    (case vC_NoWorld => k_is)
    (case ca_NoWorld => k_is)
    (case cn_NoWorld => k_is)
    (case ck_NoWorld => k_is)
    (case cm_NoWorld => k_is)
    (case ex_NoWorld => first | k_exc | decide +kernel)
    (case ga_NoCopy => k_is)
    (case gg_NoCopy => k_is)
    (case kC_NoCopy => k_is)
    (case eC_NoCopy => k_is)
    (case tC_NoCopy => k_is)
    (case hC_NoCopy => k_is)
    (case iC_NoCopy => k_is)
    (case vC_NoCopy => k_is)
    (case ca_NoCopy => k_is)
    (case cn_NoCopy => k_is)
    (case ck_NoCopy => k_is)
    (case cm_NoCopy => k_is)
    (case ex_NoCopy => first | k_exc | decide +kernel)
    (case ga_NoCopies => k_is)
    (case gg_NoCopies => k_is)
    (case kC_NoCopies => k_is)
    (case eC_NoCopies => k_is)
    (case tC_NoCopies => k_is)
    (case hC_NoCopies => k_is)
    (case iC_NoCopies => k_is)
    (case vC_NoCopies => k_is)
    (case ca_NoCopies => k_is)
    (case cn_NoCopies => k_is)
    (case ck_NoCopies => k_is)
    (case cm_NoCopies => k_is)
    (case ex_NoCopies => first | k_exc | decide +kernel)
    (case ga_NoOrder => k_is)
    (case gg_NoOrder => k_is)
    (case kC_NoOrder => k_is)
    (case eC_NoOrder => k_is)
    (case tC_NoOrder => k_is)
    (case hC_NoOrder => k_is)
    (case iC_NoOrder => k_is)
    (case vC_NoOrder => k_is)
    (case ca_NoOrder => k_is)
    (case cn_NoOrder => k_is)
    (case ck_NoOrder => k_is)
    (case cm_NoOrder => k_is)
    (case ex_NoOrder => first | k_exc | decide +kernel)
    (case ga_NoLook => k_is)
    (case gg_NoLook => k_is)
    (case kC_NoLook => k_is)
    (case eC_NoLook => k_is)
    (case tC_NoLook => k_is)
    (case hC_NoLook => k_is)
    (case iC_NoLook => k_is)
    (case vC_NoLook => k_is)
    (case ca_NoLook => k_is)
    (case cn_NoLook => k_is)
    (case ck_NoLook => k_is)
    (case cm_NoLook => k_is)
    (case ex_NoLook => first | k_exc | decide +kernel)
    (case ga_NoQuestion => k_is)
    (case gg_NoQuestion => k_is)
    (case kC_NoQuestion => k_is)
    (case eC_NoQuestion => k_is)
    (case tC_NoQuestion => k_is)
    (case hC_NoQuestion => k_is)
    (case iC_NoQuestion => k_is)
    (case vC_NoQuestion => k_is)
    (case ca_NoQuestion => k_is)
    (case cn_NoQuestion => k_is)
    (case ck_NoQuestion => k_is)
    (case cm_NoQuestion => k_is)
    (case ex_NoQuestion => first | k_exc | decide +kernel)
    (case ga_NoNumber => k_is)
    (case gg_NoNumber => k_is)
    (case kC_NoNumber => k_is)
    (case eC_NoNumber => k_is)
    (case tC_NoNumber => k_is)
    (case hC_NoNumber => k_is)
    (case iC_NoNumber => k_is)
    (case vC_NoNumber => k_is)
    (case ca_NoNumber => k_is)
    (case cn_NoNumber => k_is)
    (case ck_NoNumber => k_is)
    (case cm_NoNumber => k_is)
    (case ex_NoNumber => first | k_exc | decide +kernel)
    (case ga_NoStamp => k_is)
    (case gg_NoStamp => k_is)
    (case kC_NoStamp => k_is)
    (case eC_NoStamp => k_is)
    (case tC_NoStamp => k_is)
    (case hC_NoStamp => k_is)
    (case iC_NoStamp => k_is)
    (case vC_NoStamp => k_is)
    (case ca_NoStamp => k_is)
    (case cn_NoStamp => k_is)
    (case ck_NoStamp => k_is)
    (case cm_NoStamp => k_is)
    (case ex_NoStamp => first | k_exc | decide +kernel)
    (case ga_NoStamps => k_is)
    (case gg_NoStamps => k_is)
    (case kC_NoStamps => k_is)
    (case eC_NoStamps => k_is)
    (case tC_NoStamps => k_is)
    (case hC_NoStamps => k_is)
    (case iC_NoStamps => k_is)
    (case vC_NoStamps => k_is)
    (case ca_NoStamps => k_is)
    (case cn_NoStamps => k_is)
    (case ck_NoStamps => k_is)
    (case cm_NoStamps => k_is)
    (case ex_NoStamps => first | k_exc | decide +kernel)
    (case ga_NoCell => k_is)
    (case gg_NoCell => k_is)
    (case kC_NoCell => k_is)
    (case eC_NoCell => k_is)
    (case tC_NoCell => k_is)
    (case hC_NoCell => k_is)
    (case iC_NoCell => k_is)
    (case vC_NoCell => k_is)
    (case ca_NoCell => k_is)
    (case cn_NoCell => k_is)
    (case ck_NoCell => k_is)
    (case cm_NoCell => k_is)
    (case ex_NoCell => first | k_exc | decide +kernel)
    (case ga_NoValue => k_is)
    (case gg_NoValue => k_is)
    (case kC_NoValue => k_is)
    (case eC_NoValue => k_is)
    (case tC_NoValue => k_is)
    (case hC_NoValue => k_is)
    (case iC_NoValue => k_is)
    (case vC_NoValue => k_is)
    (case ca_NoValue => k_is)
    (case cn_NoValue => k_is)
    (case ck_NoValue => k_is)
    (case cm_NoValue => k_is)
    (case ex_NoValue => first | k_exc | decide +kernel)
    (case ga_Full => k_is)
    (case gg_Full => k_is)
    (case kC_Full => k_is)
    (case eC_Full => k_is)
    (case tC_Full => k_is)
    (case hC_Full => k_is)
    (case iC_Full => k_is)
    (case vC_Full => k_is)
    (case ca_Full => k_is)
    (case cn_Full => k_is)
    (case ck_Full => k_is)
    (case cm_Full => k_is)
    (case ex_Full => first | k_exc | decide +kernel)
    (case ga_LastCopy => k_is)
    (case gg_LastCopy => k_is)
    (case kC_LastCopy => k_is)
    (case eC_LastCopy => k_is)
    (case tC_LastCopy => k_is)
    (case hC_LastCopy => k_is)
    (case iC_LastCopy => k_is)
    (case vC_LastCopy => k_is)
    (case ca_LastCopy => k_is)
    (case cn_LastCopy => k_is)
    (case ck_LastCopy => k_is)
    (case cm_LastCopy => k_is)
    (case ex_LastCopy => first | k_exc | decide +kernel)
    (case ga_NothingDone => k_is)
    (case gg_NothingDone => k_is)
    (case kC_NothingDone => k_is)
    (case eC_NothingDone => k_is)
    (case tC_NothingDone => k_is)
    (case hC_NothingDone => k_is)
    (case iC_NothingDone => k_is)
    (case vC_NothingDone => k_is)
    (case ca_NothingDone => k_is)
    (case cn_NothingDone => k_is)
    (case ck_NothingDone => k_is)
    (case cm_NothingDone => k_is)
    (case ex_NothingDone => first | k_exc | decide +kernel)
    (case eC_CopyError => k_is)
    (case tC_CopyError => k_is)
    (case iC_CopyError => k_is)
    (case s_NoRun_CopyError => k_is)
    (case s_NoWorld_CopyError => k_is)
    (case s_NoCopy_CopyError => k_is)
    (case s_NoCopies_CopyError => k_is)
    (case s_NoOrder_CopyError => k_is)
    (case s_NoLook_CopyError => k_is)
    (case s_NoQuestion_CopyError => k_is)
    (case s_NoNumber_CopyError => k_is)
    (case s_NoStamp_CopyError => k_is)
    (case s_NoStamps_CopyError => k_is)
    (case s_NoCell_CopyError => k_is)
    (case s_NoValue_CopyError => k_is)
    (case s_Full_CopyError => k_is)
    (case s_LastCopy_CopyError => k_is)
    (case s_NothingDone_CopyError => k_is)
    (case s_NotLet_CopyError => k_is)
    (case s_BadLog_CopyError => k_is)
    (case s_BadBook_CopyError => k_is)
    (case s_TooMany_CopyError => k_is)
    (case s_BadText_CopyError => k_is)
    (case nd_cl => decide)
    (case nc_NoRun => decide)
    (case nc_NoWorld => decide)
    (case nc_NoCopy => decide)
    (case nc_NoCopies => decide)
    (case nc_NoOrder => decide)
    (case nc_NoLook => decide)
    (case nc_NoQuestion => decide)
    (case nc_NoNumber => decide)
    (case nc_NoStamp => decide)
    (case nc_NoStamps => decide)
    (case nc_NoCell => decide)
    (case nc_NoValue => decide)
    (case nc_Full => decide)
    (case nc_LastCopy => decide)
    (case nc_NothingDone => decide)
    (case nc_NotLet => decide)
    (case nc_BadLog => decide)
    (case nc_BadBook => decide)
    (case nc_TooMany => decide)
    (case nc_BadText => decide)
    (case sub_all => kernel_rfl)
