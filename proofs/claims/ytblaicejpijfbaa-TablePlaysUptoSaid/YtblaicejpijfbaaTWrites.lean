/-
  OF THE LAWS: TableWrites.
-/
import Derived.Test.YtblaicejpijfbaaTPairs
import Derived.Test.YtblaicejpijfbaaTSeqSi
import Derived.RangeFuncFrom
namespace Go.Proofs.Ytblaicejpijfbaa
open Go.RowKit Go.Maps Go.WideMaps Go.Shelf Go.Proofs.Ytblaicejpijfbaa.Tb
attribute [local go_sem] Oper.semAt_some

/-- a going over that may be left by a break -/
theorem rangeFunc_brk {F : Fence} {n : Nat} {P : Program} {α : Type} {g : Operand} {ps : Array Tmp} {assign body : Code} {Q : Exit → Act → World → Prop} {a : Act} {w : World}
    (hro : F.round = none) (h1 : 1 ≤ n) {gf : Nat} {lb : Array Value} (hg : a.eval g = .func (.func gf) #[] lb) (hFg : F.fn gf) (eg : ∀ args w, (callFunc gf args).run P w = .ok (.enter gf args) w)
    {encs : α → Array Value} {Kp : World → World → Prop} {S Sp : List α → Prop} {N : Nat} {w0 : World} (hseq : SeqStopsK F (n - 1) P gf lb encs Kp S Sp N w0)
    (hKt : ∀ {A B C : World}, Kp A B → Kp B C → Kp A C) (hKb : ∀ (W : World) (l : Nat) (o o' : Obj), w.heap.size ≤ l → W.heap[l]? = some o → o.isCells = false → o.isWalk = false → Kp W (W.putObj l o')) (hb0 : Below w0.heap.size w0 w) (hps : ∀ x, (encs x).size = ps.size)
    (id : Nat) (hQ : ∀ a' W', Q .normal a' W' → Q (.exit id) a' W')
    (I : List α → World → Prop) (I2 : World → Prop) (hI : OwnFrom w.heap.size I) (hI2 : OwnFrom w.heap.size (fun (_ : List α) W => I2 W)) (h0 : I [] w) (a₁ : α → Act)
    (hassign : ∀ (l : Nat) (x : α) (W : World) (K : Act → World → Prop), K (a₁ x) W →
      assign.wpIn (F.inRound l) (n - 1 - 1) P (Exit.then K (fun _ _ _ => False)) { tmps := (ps.zip (encs x)).foldl (fun t (p, v) => t.setIfInBounds p v) a.tmps, defers := [] } W)
    (hbody : ∀ (l : Nat) (pre : List α) (x : α) (W : World), I pre W → pre.length < N → body.wpIn (F.inRound l) (n - 1 - 1) P (ownPostK Kp I (fun c _ W => c = .exit id ∧ I2 W) (pre ++ [x]) W) (a₁ x) W)
    (hI12 : ∀ xs W, I xs W → I2 W)
    (hend : ∀ (D : Nat) (W : World), w.heap.size ≤ D → I2 W → W.heap[D]? = some (.deferred (some [])) → Q .normal { a with defers := { target := .collected D, args := #[] } :: a.defers } W) :
    (Code.rangeFunc g ps assign body).wpIn F n P Q a w :=
  wpIn_rangeFunc_ownF hro h1 hg hFg eg hseq hKt hKb hb0 hps I (fun c _ W => c = .exit id ∧ I2 W) hI (fun _ s W W' row h hg hr => ⟨h.1, hI2 s W W' row h.2 hg hr⟩) h0 a₁ hassign hbody
    (fun D xs W h1 _ h3 h4 => hend D W h1 (hI12 xs W h3) h4)
    (fun D c pre W h1 _ h3 h4 => by obtain ⟨rfl, h3⟩ := h3; exact wpIn_exit (hQ _ _ (hend D W h1 h3 h4)))

/-- the table that such operations put -/
def trOf (l : List Op3) : Tr (List UInt8) Int := l.foldl (fun t o => put t o.key o.v) .nil

theorem trOf_more {l : List Op3} {k : Nat} (h : k < l.length) : trOf (l.take (k + 1)) = put (trOf (l.take k)) l[k].key l[k].v := by
  unfold trOf
  rw [List.take_succ_eq_append_getElem h, List.foldl_append]; rfl

theorem trOf_facts : ∀ (l : List Op3) (t : Tr (List UInt8) Int), t.Sized → Rises t.list → (l.foldl (fun t o => put t o.key o.v) t).Sized ∧ Rises (l.foldl (fun t o => put t o.key o.v) t).list ∧ (l.foldl (fun t o => put t o.key o.v) t).count ≤ t.count + l.length
  | [], t, h1, h2 => ⟨h1, h2, Nat.le_refl _⟩
  | o :: r, t, h1, h2 => by
    have hr : Rises (put t o.key o.v).list := by rw [put_list h2]; exact rises_putL h2 _ _
    obtain ⟨a, b, c⟩ := trOf_facts r (put t o.key o.v) (sized_put h1 _ _) hr
    have := count_put h1 o.key o.v
    refine ⟨a, b, ?_⟩
    rw [List.foldl_cons, List.length_cons]
    omega

section
variable {w w' : World} {Q : Nat → Prop}

theorem own_shape {base : Nat} {e : TypeId} {size n : Nat} {v : Value} {xs : List Value} (h : w.ownsRow base e size v n xs) : ∃ p cap, v = .slice p n cap := by
  rcases h.2 with ⟨rfl, rfl⟩ | ⟨g, cap, cur, rfl, _⟩
  · exact ⟨none, 0, rfl⟩
  · exact ⟨_, cap, rfl⟩

/-- where we stand: our boxes, the table, the pairs -/
structure St (w0 W : World) (M tp T N : Nat) (vm : Value) (stop : Int) (t : Tr (List UInt8) Int) (ver : Nat) (now : List Pr3) : Prop where
  bm : Boxed W M 22 vm
  bs : Boxed W (M + 1) 3 (intV stop)
  br : ∃ b : Bool, Boxed W (M + 2) 4 (.bool b)
  bt : Boxed W T 25 (.pointer (some ⟨tp, 0, none⟩))
  bn : ∃ base v, Boxed W N 27 v ∧ W.ownsRow base 49 2 v now.length (flat3 now)
  tab : Tab w0 W tp t ver
  o1 : w0.heap.size ≤ M
  o2 : M + 2 < tp
  o3 : tp < T
  o4 : T < N

section
variable {w0 W W' : World} {M tp T N : Nat} {vm : Value} {stop : Int} {t : Tr (List UInt8) Int} {ver : Nat} {now : List Pr3}

theorem boxed_turn {B : Nat} {ty : TypeId} {v : Value} (h : Boxed W B ty v) (ht : Turn Q W W') (hne : ¬ Q B) : Boxed W' B ty v := (ht.block B h.lt hne).trans h

theorem St.kept (h : St w0 W M tp T N vm stop t ver now) (ht : Turn Q W W') (q0 : ∀ i, Q i → w0.heap.size ≤ i) (q1 : ¬ Q M) (q2 : ¬ Q (M + 1)) (q3 : ¬ Q (M + 2)) (q4 : ¬ Q tp) (q5 : ¬ Q T) (q6 : ¬ Q N)
    (q7 : si.NoNode W Q) (q8 : ∀ i cur, Q i → W.heap[i]? ≠ some (.cells cur 49 (0, 0))) : St w0 W' M tp T N vm stop t ver now := by
  obtain ⟨b, hb⟩ := h.br
  obtain ⟨base, v, hn1, hn2⟩ := h.bn
  obtain ⟨⟨root, a1, a2⟩, a3, a4⟩ := h.tab
  refine ⟨boxed_turn h.bm ht q1, boxed_turn h.bs ht q2, ⟨b, boxed_turn hb ht q3⟩, boxed_turn h.bt ht q5, ⟨base, v, boxed_turn hn1 ht q6, ownsRow_turned hn2 ht (fun r e q => ?_)⟩, ⟨⟨root, a1.later ht q4, a2.turned ht q7⟩, a3, a4.trans ht (fun i hi q => by have := q0 i q; omega)⟩, h.o1, h.o2, h.o3, h.o4⟩
  obtain ⟨_, _, cur, hc⟩ := own_block hn2 e
  exact q8 r cur q hc

theorem St.same (h : St w0 W M tp T N vm stop t ver now) (ht : Turn (fun _ => False) W W') : St w0 W' M tp T N vm stop t ver now :=
  h.kept ht (fun _ q => q.elim) id id id id id id (fun _ _ _ q => q.elim) (fun _ _ q => q.elim)

/-- a box of ours beyond -/
theorem St.box {X : Nat} {u : Value} (h : St w0 W M tp T N vm stop t ver now) (ht : Turn (fun b => b = X) W W') (hX : Boxed W X 3 u) (hN : N < X) : St w0 W' M tp T N vm stop t ver now := by
  have h1 := h.o1
  have h2 := h.o2
  have h3 := h.o3
  have h4 := h.o4
  have hX' : W.heap[X]? = some (.cells #[u] 3 (0, 0)) := hX
  refine h.kept ht (fun i q => by omega) (by omega) (by omega) (by omega) (by omega) (by omega) (by omega) (fun b cs fr q e => ?_) (fun i cur q e => ?_)
  · subst q; rw [hX'] at e; cases e
  · subst q; rw [hX'] at e; cases e

/-- what is no cells -/
theorem St.grown {row : Option Nat} (h : St w0 W M tp T N vm stop t ver now) (hg : W.grownBy W' row) (hr : ∀ r, row = some r → w0.heap.size ≤ r ∧ ∃ o : Obj, W.heap[r]? = some o ∧ o.isCells = false) : St w0 W' M tp T N vm stop t ver now := by
  have no : ∀ i cur ty fr, row = some i → W.heap[i]? ≠ some (.cells cur ty fr) := fun i cur ty fr q e => by
    obtain ⟨_, o, ho, hc⟩ := hr i q
    rw [e] at ho; cases ho; cases hc
  obtain ⟨b, hb⟩ := h.br
  obtain ⟨base, v, hn1, hn2⟩ := h.bn
  obtain ⟨root, a1, a2⟩ := h.tab.at_
  exact h.kept (Q := fun i => row = some i) ((Turn.refl _ W).grown hg (fun k e => Or.inl e)) (fun i q => (hr i q).1) (fun q => no _ _ _ _ q h.bm) (fun q => no _ _ _ _ q h.bs) (fun q => no _ _ _ _ q hb) (fun q => no _ _ _ _ q a1) (fun q => no _ _ _ _ q h.bt) (fun q => no _ _ _ _ q hn1)
    (fun b cs fr q => no _ _ _ _ q) (fun i cur q => no _ _ _ _ q)

/-- the table has been written -/
theorem St.table {t' : Tr (List UInt8) Int} {ver' : Nat} (h : St w0 W M tp T N vm stop t ver now) (ht : Turn (fun b => b = tp) W W') (h' : Tab w0 W' tp t' ver') : St w0 W' M tp T N vm stop t' ver' now := by
  have h1 := h.o1
  have h2 := h.o2
  have h3 := h.o3
  have h4 := h.o4
  obtain ⟨b, hb⟩ := h.br
  obtain ⟨base, v, hn1, hn2⟩ := h.bn
  refine ⟨boxed_turn h.bm ht (by omega), boxed_turn h.bs ht (by omega), ⟨b, boxed_turn hb ht (by omega)⟩, boxed_turn h.bt ht (by omega), ⟨base, v, boxed_turn hn1 ht (by omega), ownsRow_turned hn2 ht (fun r e q => ?_)⟩, h', h.o1, h.o2, h.o3, h.o4⟩
  obtain ⟨_, _, cur, hc⟩ := own_block hn2 e
  obtain ⟨root, a1, _⟩ := h.tab.at_
  unfold si.TabC at a1
  subst q
  rw [a1] at hc
  cases hc

theorem St.put (h : St w0 W M tp T N vm stop t ver now) (hz : t.Sized) (hs : t.count + 2 < 1000000000000) (hv : ver < 1000000000000) (k : List UInt8) (x : Int) :
    Calls Try.prog 8 #[.pointer (some ⟨tp, 0, none⟩), .string ⟨k.toArray⟩, .int .i64 x] W fun r w' => r = .returned (.tuple #[]) ∧ St w0 w' M tp T N vm stop (put t k x) (ver + 1) now ∧ Turn (fun b => b = tp) W w' :=
  (h.tab.put hz hs hv k _ rfl x).mono fun _ _ ⟨h1, h2, h3⟩ => ⟨h1, h.table h3 h2, h3⟩

theorem St.delete (h : St w0 W M tp T N vm stop t ver now) (hz : t.Sized) (hs : t.count + 2 < 1000000000000) (hv : ver < 1000000000000) (k : List UInt8) :
    Calls Try.prog 11 #[.pointer (some ⟨tp, 0, none⟩), .string ⟨k.toArray⟩] W fun r w' => (∃ b : Bool, r = .returned (.bool b)) ∧ St w0 w' M tp T N vm stop (si.dropT t k) (ver + 1) now ∧ Turn (fun b => b = tp) W w' :=
  (h.tab.delete hz hs hv k _ rfl rfl).mono fun _ _ ⟨h1, h2, h3⟩ => ⟨⟨_, h1⟩, h.table h3 h2, h3⟩

/-- the pairs have been written -/
theorem St.setNow {now' : List Pr3} {base : Nat} {v' : Value} (h : St w0 W M tp T N vm stop t ver now) (hown : W.ownsRow base 49 2 v' now'.length (flat3 now')) : St w0 (W.setCell ⟨N, 0, none⟩ v') M tp T N vm stop t ver now' := by
  have h1 := h.o1
  have h2 := h.o2
  have h3 := h.o3
  have h4 := h.o4
  obtain ⟨b, hb⟩ := h.br
  obtain ⟨_, v, hn1, _⟩ := h.bn
  obtain ⟨⟨root, a1, a2⟩, a3, a4⟩ := h.tab
  have hN : W.heap[N]? = some (.cells #[v] 27 (0, 0)) := hn1
  have ht : Turn (fun b => b = N) W (W.setCell ⟨N, 0, none⟩ v') := Turn.setCell (Turn.refl (fun b => b = N) W) (p := ⟨N, 0, none⟩) (Or.inl rfl) v'
  refine ⟨boxed_turn h.bm ht (by omega), boxed_turn h.bs ht (by omega), ⟨b, boxed_turn hb ht (by omega)⟩, boxed_turn h.bt ht (by omega), ⟨base, v', hn1.set v', ownsRow_turned hown ht (fun r e q => ?_)⟩, ⟨⟨root, a1.later ht (by omega), a2.turned ht (fun b cs fr q e => ?_)⟩, a3, a4.trans ht (fun i hi q => by omega)⟩, h.o1, h.o2, h.o3, h.o4⟩
  · obtain ⟨_, _, cur, hc⟩ := own_block hown e
    subst q
    rw [hN] at hc
    cases hc
  · subst q; rw [hN] at e; cases e

theorem sized_dropT {t : Tr (List UInt8) Int} (h : t.Sized) (k : List UInt8) : (si.dropT t k).Sized ∧ (si.dropT t k).count ≤ t.count := by
  unfold si.dropT
  split
  · exact ⟨sized_without h k, count_without h k⟩
  · exact ⟨h, Nat.le_refl _⟩

/-- in the second going over: the table has been written so often -/
structure Half (w0 W : World) (M tp T N : Nat) (vm : Value) (stop : Int) (now : List Pr3) (ib D : Nat) (n c : Nat) : Prop where
  st : ∃ tj vj, St w0 W M tp T N vm stop tj vj now ∧ tj.Sized ∧ tj.count ≤ c ∧ vj ≤ c
  box : Boxed W ib 3 (.int .i64 (n : Nat))
  mark : W.heap[D]? = some (.deferred (some []))

/-- .. and so many pairs were as they should be -/
structure Mid2 (w0 W : World) (M tp T N : Nat) (vm : Value) (stop : Int) (now : List Pr3) (ib D : Nat) (pre : List Pr3) : Prop where
  front : pre = now.take pre.length
  half : Half w0 W M tp T N vm stop now ib D pre.length (200 + pre.length)

section
variable {ib D n c : Nat} {pre : List Pr3}

theorem Half.grown {row : Option Nat} (h : Half w0 W M tp T N vm stop now ib D n c) (hg : W.grownBy W' row)
    (hr : ∀ r, row = some r → w0.heap.size ≤ r ∧ ∃ o : Obj, W.heap[r]? = some o ∧ o.isCells = false) (h1 : some ib ≠ row) (h2 : row ≠ some D) : Half w0 W' M tp T N vm stop now ib D n c := by
  obtain ⟨tj, vj, hs, hz⟩ := h.st
  exact ⟨⟨tj, vj, hs.grown hg hr, hz⟩, h.box.kept hg h1, (hg.block D (Array.getElem?_eq_some_iff.1 h.mark).1 (fun e => h2 e.symm)).trans h.mark⟩

theorem Mid2.grown {row : Option Nat} (h : Mid2 w0 W M tp T N vm stop now ib D pre) (hg : W.grownBy W' row)
    (hr : ∀ r, row = some r → w0.heap.size ≤ r ∧ ∃ o : Obj, W.heap[r]? = some o ∧ o.isCells = false) (h1 : some ib ≠ row) (h2 : row ≠ some D) : Mid2 w0 W' M tp T N vm stop now ib D pre :=
  ⟨h.front, h.half.grown hg hr h1 h2⟩

/-- the table has been written -/
theorem Half.wrote {tj' : Tr (List UInt8) Int} {vj' c' : Nat} (h : Half w0 W M tp T N vm stop now ib D n c) (hN : N < ib) (hs : St w0 W' M tp T N vm stop tj' vj' now) (hz : tj'.Sized) (hc : tj'.count ≤ c') (hv : vj' ≤ c') (ht : Turn (fun b => b = tp) W W') :
    KeepsOthers W W' ∧ si.KeepsN W W' ∧ Half w0 W' M tp T N vm stop now ib D n c' := by
  obtain ⟨tj, vj, h1, _⟩ := h.st
  obtain ⟨root, a1, _⟩ := h1.tab.at_
  have htp := a1
  unfold si.TabC at htp
  have o3 := hs.o3
  have o4 := hs.o4
  refine ⟨⟨ht.size, fun k o hk ho => ?_⟩, si.KeepsN.turn ht h1.tab.noNode, ⟨⟨tj', vj', hs, hz, hc, hv⟩, boxed_turn h.box ht (by omega), ?_⟩⟩
  · refine (ht.block k (Array.getElem?_eq_some_iff.1 hk).1 (fun e => ?_)).trans hk
    subst e; rw [htp] at hk; cases hk; cases ho
  · refine (ht.block D (Array.getElem?_eq_some_iff.1 h.mark).1 (fun e => ?_)).trans h.mark
    have hm := h.mark
    rw [e, htp] at hm; cases hm

theorem Half.more {c' : Nat} (h : Half w0 W M tp T N vm stop now ib D n c) (hc : c ≤ c') : Half w0 W M tp T N vm stop now ib D n c' := by
  obtain ⟨tj, vj, h1, h2, h3, h4⟩ := h.st
  exact ⟨⟨tj, vj, h1, h2, by omega, by omega⟩, h.box, h.mark⟩

/-- the count goes up -/
theorem Half.tick {u : Pr3} (h : Half w0 W M tp T N vm stop now ib D pre.length (200 + pre.length + 1)) (hN : N < ib) (hf : pre = now.take pre.length) (hu : now[pre.length]? = some u) :
    KeepsOthers W (W.setCell ⟨ib, 0, none⟩ (.int .i64 ((pre.length : Int) + 1))) ∧ si.KeepsN W (W.setCell ⟨ib, 0, none⟩ (.int .i64 ((pre.length : Int) + 1))) ∧ Mid2 w0 (W.setCell ⟨ib, 0, none⟩ (.int .i64 ((pre.length : Int) + 1))) M tp T N vm stop now ib D (pre ++ [u]) := by
  obtain ⟨tj, vj, h1, h2, h3, h4⟩ := h.st
  have tset : Turn (fun b => b = ib) W (W.setCell ⟨ib, 0, none⟩ (.int .i64 ((pre.length : Int) + 1))) := Turn.setCell (Turn.refl (fun b => b = ib) W) (p := ⟨ib, 0, none⟩) (Or.inl rfl) _
  have hbx : W.heap[ib]? = some (.cells #[.int .i64 (pre.length : Nat)] 3 (0, 0)) := h.box
  have hl : (pre ++ [u]).length = pre.length + 1 := by rw [List.length_append]; rfl
  have hk : KeepsOthers W (W.setCell ⟨ib, 0, none⟩ (.int .i64 ((pre.length : Int) + 1))) := KeepsOthers.setCell _ _ _
  refine ⟨hk, si.KeepsN.turn tset (fun b cs fr q e => by subst q; rw [hbx] at e; cases e), ⟨?_, ?_⟩⟩
  · have hlt : pre.length < now.length := (List.getElem?_eq_some_iff.1 hu).1
    have e := (List.getElem?_eq_some_iff.1 hu).2
    rw [hl, List.take_succ_eq_append_getElem hlt, e, ← hf]
  · rw [hl]
    refine ⟨⟨tj, vj, h1.box tset h.box hN, h2, by omega, by omega⟩, h.box.set _, hk.same D _ h.mark rfl⟩
end
end
end
end Go.Proofs.Ytblaicejpijfbaa
