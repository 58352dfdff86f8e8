import PyProof.Rows.All
import Wide.All
import OpenK.AllK
import Wide.FinOn
import HandS.ForMost
import PyProof.ReprLen
import PyProof.ReprRoads
import PyProof.WalksMore
import PyProof.CollectIter
import KE.SortUse
import HandS.Lambda
import HandS.EndTab
import HandS.SortKw
import PyProof.Rows.TupSub
import HandS.SetKeys
import PyProof.Rows.SetFrom
import HandS.Conv
import KE.KDictPairs
import HandS.IsInst
import HandS.TupAny
import HandS.TupMul
import HandS.Style
import HandS.ExcInit
import HandS.ExcIs
import HandS.ExcField
import HandS.CallLocal
import HandS.CallSlots
import HandS.TryOnly
import HandS.ExcOwn
import HandS.WordsExc
import HandS.More
import HandS.NoneIn
import HandS.Walk
import HandS.Deep
import KE.KNestM
import PySem.Challenge.RW_plainstore_k01_deeds_and_names
set_option Elab.async false
set_option linter.all false
set_option maxRecDepth 100000
set_option maxHeartbeats 8000000
namespace Pl
open L2 PySem PySem.Spec PyProof.Rows
/-- what a tracked tuple's items read as: known to its object (which has no dict), or longer than four, or (k = false) any -/
inductive TupAt (H : Hp) : Bool → Addr → List V → Prop
  | frz {k : Bool} {a : Addr} {o : Obj} {xs : List V} (h : H a = some (.frz o (.tup xs))) (d : o.dict = none) : TupAt H k a xs
  | big {k : Bool} {a : Addr} {xs : List V} (h : H a = some (.tup xs)) (l : 4 < xs.length) : TupAt H k a xs
  | any {a : Addr} {xs : List V} (h : H a = some (.tup xs)) : TupAt H false a xs
mutual
/-- m: dicts (true) or lists (false) stand in it; z: an address that it keeps away from; k: its own tuple is known -/
inductive Dv (m : Bool) (z : Addr) (H : Hp) : Bool → V → PyData → Prop
  | non {k : Bool} : Dv m z H k .non .none
  | bl {k : Bool} (b : Bool) : Dv m z H k (.bl b) (.bool b)
  | int {k : Bool} (i : Int) : Dv m z H k (.int i) (.int i)
  | str {k : Bool} (x : Str) : Dv m z H k (.str x) (.str x)
  | lst {k : Bool} {a : Addr} {xs : List V} {ds : List PyData} (hm : m = false) (ne : a ≠ z) (h : H a = some (.lst xs)) (t : DvL m z H false xs ds) : Dv m z H k (.ref a) (.list ds)
  | tup {k : Bool} {a : Addr} {xs : List V} {ds : List PyData} (ne : a ≠ z) (h : TupAt H k a xs) (t : DvL m z H true xs ds) : Dv m z H k (.ref a) (.tuple ds)
  | dct {k : Bool} {a : Addr} (hm : m = true) (ne : a ≠ z) (h : H a = some (.dK [])) : Dv m z H k (.ref a) (.dict [])
inductive DvL (m : Bool) (z : Addr) (H : Hp) : Bool → List V → List PyData → Prop
  | nil {k : Bool} : DvL m z H k [] []
  | cons {k : Bool} {v : V} {vs : List V} {d : PyData} {ds : List PyData} (a : Dv m z H k v d) (t : DvL m z H k vs ds) : DvL m z H k (v :: vs) (d :: ds)
end
theorem TupAt.weak {H : Hp} {k : Bool} {a : Addr} {xs : List V} (h : TupAt H k a xs) : TupAt H false a xs := by
  cases h with
  | frz h d => exact .frz h d
  | big h l => exact .any h
  | any h => exact .any h
theorem TupAt.sq {K : PySem.W.Frag} {H : Hp} {k : Bool} {a : Addr} {xs : List V} (h : TupAt H k a xs) : SqT K H a xs := by
  cases h with
  | frz h d => exact .inl (.inr ⟨_, h⟩)
  | big h l => exact .inl (.inl h)
  | any h => exact .inl (.inl h)
/-- (any object) -/
def NoT (_ : HO) : Prop := True
theorem NoT.lst {xs : List V} : NoT (.lst xs) := trivial
theorem NoT.tup {xs : List V} : NoT (.tup xs) := trivial
theorem NoT.dK {kvs : List (Key × V)} : NoT (.dK kvs) := trivial
theorem NoT.frz {o : Obj} {u : HO} : NoT (.frz o u) := trivial
/-- all but z stands -/
def But (z : Addr) (H G : Hp) : Prop := ∀ b o, b ≠ z → NoT o → H b = some o → G b = some o
/-- all stands -/
def Sam (H G : Hp) : Prop := ∀ b o, NoT o → H b = some o → G b = some o
theorem Sam.refl (H : Hp) : Sam H H := fun _ _ _ e => e
theorem Sam.of {H G : Hp} (s : Same H G) : Sam H G := fun b o _ e => s b o e
theorem Sam.trans {H G F : Hp} (a : Sam H G) (b : Sam G F) : Sam H F := fun c o n e => b c o n (a c o n e)
theorem Sam.but {H G : Hp} {z : Addr} (s : Sam H G) : But z H G := fun b o _ n e => s b o n e
theorem But.of {H G : Hp} {z : Addr} (s : Same H G) : But z H G := fun b o _ _ e => s b o e
theorem But.refl (z : Addr) (H : Hp) : But z H H := fun _ _ _ _ e => e
theorem But.trans {z : Addr} {H G F : Hp} (a : But z H G) (b : But z G F) : But z H F := fun c o n t e => b c o n t (a c o n t e)
theorem But.upd {z : Addr} {H : Hp} {o : HO} : But z H (L2.upd H z o) := fun b u n _ e => (upd_ne n).trans e
theorem But.new {z p : Addr} {H : Hp} {o : HO} (f : H p = none) : But z H (L2.upd H p o) := fun b u _ _ e => (upd_ne (ne_of_none e f)).trans e
theorem same_new {p : Addr} {H : Hp} {o : HO} (f : H p = none) : Same H (L2.upd H p o) := fun b u e => (upd_ne (ne_of_none e f)).trans e
theorem TupAt.to {H G : Hp} {z : Addr} {k : Bool} {a : Addr} {xs : List V} (e : But z H G) (ne : a ≠ z) (h : TupAt H k a xs) : TupAt G k a xs := by
  cases h with
  | frz h d => exact .frz (e _ _ ne NoT.frz h) d
  | big h l => exact .big (e _ _ ne NoT.tup h) l
  | any h => exact .any (e _ _ ne NoT.tup h)
section
variable {m : Bool} {z : Addr} {H G : Hp}
mutual
theorem Dv.to (e : But z H G) : ∀ (k : Bool) (d : PyData) (v : V), Dv m z H k v d → Dv m z G k v d
  | _, .none, _, h => by cases h; exact .non
  | _, .bool _, _, h => by cases h; exact .bl _
  | _, .int _, _, h => by cases h; exact .int _
  | _, .str _, _, h => by cases h; exact .str _
  | _, .list ds, _, h => by
    cases h with
    | lst hm ne h t => exact .lst hm ne (e _ _ ne NoT.lst h) (DvL.to e _ ds _ t)
  | _, .tuple ds, _, h => by
    cases h with
    | tup ne h t => exact .tup ne (h.to e ne) (DvL.to e _ ds _ t)
  | _, .dict _, _, h => by
    cases h with
    | dct hm ne h => exact .dct hm ne (e _ _ ne NoT.dK h)
theorem DvL.to (e : But z H G) : ∀ (k : Bool) (ds : List PyData) (vs : List V), DvL m z H k vs ds → DvL m z G k vs ds
  | _, [], _, h => by cases h; exact .nil
  | _, d :: ds, _, h => by
    cases h with
    | cons a t => exact .cons (Dv.to e _ d _ a) (DvL.to e _ ds _ t)
end
theorem Dv.weak {k : Bool} {v : V} {d : PyData} (h : Dv m z H k v d) : Dv m z H false v d := by
  cases h with
  | non => exact .non
  | bl b => exact .bl b
  | int i => exact .int i
  | str x => exact .str x
  | lst hm ne h t => exact .lst hm ne h t
  | tup ne h t => exact .tup ne h.weak t
  | dct hm ne h => exact .dct hm ne h
theorem DvL.weak {k : Bool} : ∀ {vs : List V} {ds : List PyData}, DvL m z H k vs ds → DvL m z H false vs ds
  | _, _, .nil => .nil
  | _, _, .cons a t => .cons a.weak t.weak
theorem DvL.len {k : Bool} : ∀ {vs : List V} {ds : List PyData}, DvL m z H k vs ds → vs.length = ds.length
  | _, _, .nil => rfl
  | _, _, .cons _ t => congrArg Nat.succ t.len
theorem DvL.at {k : Bool} : ∀ {vs : List V} {ds : List PyData} {i : Nat} {d : PyData}, DvL m z H k vs ds → ds[i]? = some d → ∃ v, vs[i]? = some v ∧ Dv m z H k v d
  | _, _, _, _, .nil, e => absurd e (by simp)
  | _, _, 0, _, .cons a _, e => by simp at e; subst e; exact ⟨_, rfl, a⟩
  | _, _, i + 1, _, .cons _ t, e => by
    obtain ⟨v, h1, h2⟩ := DvL.at (i := i) t (by simpa using e)
    exact ⟨v, by simpa using h1, h2⟩
theorem DvL.at' {k : Bool} : ∀ {vs : List V} {ds : List PyData} {i : Nat} {v : V}, DvL m z H k vs ds → vs[i]? = some v → ∃ d, ds[i]? = some d ∧ Dv m z H k v d
  | _, _, _, _, .nil, e => absurd e (by simp)
  | _, _, 0, _, .cons a _, e => by simp at e; subst e; exact ⟨_, rfl, a⟩
  | _, _, i + 1, _, .cons _ t, e => by
    obtain ⟨v, h1, h2⟩ := DvL.at' (i := i) t (by simpa using e)
    exact ⟨v, by simpa using h1, h2⟩
theorem DvL.app {k : Bool} : ∀ {vs ws : List V} {ds es : List PyData}, DvL m z H k vs ds → DvL m z H k ws es → DvL m z H k (vs ++ ws) (ds ++ es)
  | _, _, _, _, .nil, h => h
  | _, _, _, _, .cons a t, h => .cons a (t.app h)
theorem DvL.take {k : Bool} : ∀ {vs : List V} {ds : List PyData} (n : Nat), DvL m z H k vs ds → DvL m z H k (vs.take n) (ds.take n)
  | _, _, 0, _ => by rw [List.take_zero, List.take_zero]; exact .nil
  | _, _, _ + 1, .nil => .nil
  | _, _, n + 1, .cons a t => .cons a (t.take n)
theorem DvL.drop {k : Bool} : ∀ {vs : List V} {ds : List PyData} (n : Nat), DvL m z H k vs ds → DvL m z H k (vs.drop n) (ds.drop n)
  | _, _, 0, h => h
  | _, _, _ + 1, .nil => .nil
  | _, _, n + 1, .cons _ t => t.drop n
end
section
variable {X : Cx} {pins : List (Addr × Obj)} {σ : L2.St} {H : Hp} {s : Shared} {m : Bool} {z : Addr}
theorem vals_list {a : Addr} {xs : List V} (I : Inv X pins σ H s) (h : H a = some (.lst xs)) : ∃ o vs n, s.heap.get? a = some o ∧ o.cls = .type "list" ∧ o.data = .seq vs n ∧ Vals xs vs.toList := by
  obtain ⟨_, its, n, r, e⟩ := I.hok a _ h
  exact ⟨_, its.toArray, n, e, rfl, rfl, by simpa using r⟩
theorem TupAt.obj {k : Bool} {a : Addr} {xs : List V} (I : Inv X pins σ H s) (h : TupAt H k a xs) : xs.length ≤ sizeLine ∧ ∃ its : List Value, Vals xs its ∧ IsTup s.heap a its.toArray := by
  cases h with
  | frz h d => exact (I.hok _ _ h).2
  | big h l => exact I.hok _ _ h
  | any h => exact I.hok _ _ h
mutual
theorem Dv.rd (I : Inv X pins σ H s) : ∀ (k : Bool) (d : PyData) (v : V) (u : Value), Dv m z H k v d → RelV v u → ∃ as, Reads s.heap u d as ∧ (m = true → sysModules ∉ as)
  | _, .none, _, _, h, r => by cases h; cases r; exact ⟨_, .none, fun _ => List.not_mem_nil⟩
  | _, .bool b, _, _, h, r => by cases h; cases r; exact ⟨_, .bool b, fun _ => List.not_mem_nil⟩
  | _, .int i, _, _, h, r => by
    cases h
    obtain ⟨t, rfl⟩ := r
    exact ⟨_, .int i t, fun _ => List.not_mem_nil⟩
  | _, .str x, _, _, h, r => by
    cases h
    obtain ⟨t, rfl⟩ := r
    exact ⟨_, .str x t, fun _ => List.not_mem_nil⟩
  | _, .list ds, _, _, h, r => by
    cases h with
    | lst hm ne h t =>
      cases r
      obtain ⟨o, vs, n, e1, e2, e3, rv⟩ := vals_list I h
      obtain ⟨as, q, _⟩ := DvL.rd I _ ds _ _ t rv
      exact ⟨_, .list e1 e2 e3 q, fun e => absurd (hm.symm.trans e) (by decide)⟩
  | _, .tuple ds, _, _, h, r => by
    cases h with
    | tup ne h t =>
      cases r
      obtain ⟨_, its, rv, o, e1, e2, n, e3⟩ := h.obj I
      obtain ⟨as, q, kk⟩ := DvL.rd I _ ds _ its t rv
      exact ⟨_, .tuple e1 e2 e3 (by simpa using q), kk⟩
  | _, .dict kvs, _, _, h, r => by
    cases h with
    | @dct _ a hm ne h =>
      cases r
      obtain ⟨_, lo, vs, rel, o, es, n, e1, e2, e3, _, e4, _⟩ := I.hok _ _ h
      cases rel
      obtain ⟨l⟩ := es
      have e5 : l = [] := by
        cases l with
        | nil => rfl
        | cons x l => cases e4
      subst e5
      refine ⟨[a] ++ [], .dict (as := []) (bs := []) e1 e2.1 e3 .nil .nil, fun _ hm => ?_⟩
      rw [List.append_nil, List.mem_singleton] at hm
      subst hm
      simp at lo
theorem DvL.rd (I : Inv X pins σ H s) : ∀ (k : Bool) (ds : List PyData) (vs : List V) (us : List Value), DvL m z H k vs ds → Vals vs us → ∃ as, ReadsAll s.heap us ds as ∧ (m = true → sysModules ∉ as)
  | _, [], _, _, h, r => by cases h; cases r; exact ⟨_, .nil, fun _ => List.not_mem_nil⟩
  | _, d :: ds, _, _, h, r => by
    cases h with
    | cons a t =>
      cases r with
      | cons r1 r2 =>
        obtain ⟨as, q1, k1⟩ := Dv.rd I _ d _ _ a r1
        obtain ⟨bs, q2, k2⟩ := DvL.rd I _ ds _ _ t r2
        exact ⟨_, .cons q1 q2, fun e hm => (List.mem_append.mp hm).elim (k1 e) (k2 e)⟩
end
mutual
theorem Dv.nod (e : m = false) : ∀ (k : Bool) (d : PyData) (v : V), Dv m z H k v d → d.hasDict = false
  | _, .none, _, _ => by simp only [PyData.hasDict]
  | _, .bool _, _, _ => by simp only [PyData.hasDict]
  | _, .int _, _, _ => by simp only [PyData.hasDict]
  | _, .str _, _, _ => by simp only [PyData.hasDict]
  | _, .list ds, _, h => by
    cases h with
    | lst hm ne h t => simp only [PyData.hasDict]; exact DvL.nod e _ ds _ t
  | _, .tuple ds, _, h => by
    cases h with
    | tup ne h t => simp only [PyData.hasDict]; exact DvL.nod e _ ds _ t
  | _, .dict _, _, h => by
    cases h with
    | dct hm ne h => exact absurd (hm.symm.trans e) (by decide)
theorem DvL.nod (e : m = false) : ∀ (k : Bool) (ds : List PyData) (vs : List V), DvL m z H k vs ds → PyData.hasDictAll ds = false
  | _, [], _, _ => by simp only [PyData.hasDictAll]
  | _, d :: ds, _, h => by
    cases h with
    | cons a t => simp only [PyData.hasDictAll, Dv.nod e _ d _ a, DvL.nod e _ ds _ t, Bool.or_self]
end
/-- what can be written out -/
structure Shw (d : PyData) : Prop where
  sh : d.showable = true
  dp : d.depth ≤ 10
  sz : d.shown.length ≤ sizeLine
def rRepr : List V → Hp → VK → Prop := fun xs H Q => ∃ (m : Bool) (z : Addr) (v : V) (d : PyData), xs = [v] ∧ Dv m z H false v d ∧ Shw d ∧ Q (.str d.shown) H
theorem call_repr (hg : X.A.guards = some []) (hu : X.A.units + 64 < cLine) : CallR X (.builtin "repr") rRepr := by
  intro pins s σ H xs us Q I r h; skip
  obtain ⟨m, z, v, d, rfl, hd, S, q⟩ := h
  obtain ⟨u, rfl, ru⟩ := vals1 r; skip
  obtain ⟨as, rd, lo⟩ := Dv.rd I _ d v u hd ru
  have fin : ∀ (a : Addr), u = .ref a → wpAny (model X.prog X.w) X.A (call (.builtin "repr") [u]) (EP X pins σ Q) X.xe s := fun a e => by
    subst e
    refine repr_of_reads' rd S.sh (fun hd2 => ?_) hg (by have := S.dp; omega) (fun _ _ e => e) (fun h' w tk k => ?_) S.sz
    · cases m with
      | true => exact lo rfl
      | false => exact absurd (hd2.symm.trans (Dv.nod rfl _ d v hd)) (by decide)
    · exact ⟨.str d.shown, H, I.kept k, ⟨w, rfl⟩, q⟩
  cases rd with
  | none => exact P.repr_of_none ⟨.str _, H, I.tok _, ⟨_, rfl⟩, by simpa only [PyData.shown] using q⟩
  | bool b => exact P.repr_of_bool ⟨.str _, H, I.tok _, ⟨_, rfl⟩, by cases b <;> simpa only [PyData.shown] using q⟩
  | int i t =>
    have e : decide (i.natAbs.log2 < 1920) = true := by simpa only [PyData.showable] using S.sh
    exact P.repr_of_int (of_decide_eq_true e) ⟨.str _, H, I.tok _, ⟨_, rfl⟩, by simpa only [PyData.shown] using q⟩
  | str x t => exact P.repr_of_str ⟨.str _, H, I.tok _, ⟨_, rfl⟩, by simpa only [PyData.shown] using q⟩ (by simpa only [PyData.shown] using S.sz)
  | list => exact fin _ rfl
  | tuple => exact fin _ rfl
  | dict => exact fin _ rfl
end
end Pl

namespace Pl
open L2 PySem PySem.Spec PyProof.Rows
/-! ### a, b, *c = a tuple -/
theorem shiftW {prog : Program} {w : World} {A : Around} {I : Addr} {fp wr : List Addr} {G : Array GenState → Array GenState → Prop} {n : Nat} {P : Nat → Value → Prop} {St : Nat → Shared → Prop}
    (W : WalksS prog w A I fp wr G n P St) (k : Nat) (hk : k ≤ n) : WalksS prog w A I fp wr G (n - k) (fun i => P (i + k)) (fun i => St (i + k)) where
  sub := W.sub
  grefl := W.grefl
  gtrans := W.gtrans
  frame := fun i => W.frame (i + k)
  item := fun i s Q E hi st hQ => W.item (i + k) s Q E (by omega) st fun v s' hp hs hm => by
    have e : i + 1 + k = i + k + 1 := by omega
    have hs' : St (i + 1 + k) s' := by
      rw [e]
      exact hs
    exact hQ v s' hp hs' hm
  done := fun s Q E st hQ => by
    have e : n - k + k = n := by omega
    have st' : St (n - k + k) s := st
    rw [e] at st'
    exact W.done s Q E st' hQ
  self := fun i => W.self (i + k)
theorem items_eq {items : Array Value} {k : Nat} {acc : Array Value} (h : ItemsOf (fun i v => items[i + k]? = some v) acc (items.size - k)) : acc.toList = items.toList.drop k := by
  obtain ⟨h1, h2⟩ := h
  apply List.ext_getElem?
  intro i
  rw [List.getElem?_drop]
  cases e : acc[i]? with
  | some v =>
    have q := h2 i v e
    rw [Array.getElem?_toList, e, Array.getElem?_toList, Nat.add_comm k i]
    exact q.symm
  | none =>
    have q : acc.size ≤ i := by simpa using e
    rw [Array.getElem?_toList, e, Array.getElem?_toList]
    symm
    rw [Array.getElem?_eq_none_iff]
    omega
section
variable {prog : Program} {w : World} {s : Shared} {E : Value → Shared → Prop} {A : Around}
theorem unpack_star {t : Addr} {items : Array Value} {targets : List (Bool × (Value → Sem Unit))} {k : Nat} {Q : Unit → Shared → Prop} (hh : A.handled = none) (ht : s.heap.IsTuple t items)
    (hn : targets.length = k + 1) (hstar : targets.findIdx? (·.1) = some k) (hk : k ≤ items.size) (hz : items.size ≤ sizeLine)
    (h : ∀ (h2 : Heap) (tk : Nat), (∀ b o, s.heap.get? b = some o → h2.get? b = some o) →
      wpAny (model prog w) A (assignInOrder (targets.map (·.2)) (items.toList.take k ++ [.ref h2.objs.size])) Q E { s with heap := h2.push { cls := .type "list", data := .seq (items.toList.drop k).toArray }, toks := tk }) :
    (wpAny (model prog w) A (unpack (.ref t) targets) Q E s) := by
  have hlt : t ≠ s.heap.objs.size := by
    obtain ⟨o, ho, _⟩ := ht
    exact Nat.ne_of_lt (Heap.lt_size ho); skip
  unfold unpack
  rw [hn, hstar]
  refine wpAny_bind (wpAny_holding ?_); skip
  unfold unpackItems
  refine wpAny_bind ?_
  unfold notIterableAtAll
  refine wpAny_bind (wpAny_specialOf ht.typeIs slot_tuple_iter.lookup (wpAny_pure ?_))
  simp only [Bool.false_eq_true, if_false]; skip
  refine wpAny_bind (wpAny_holding (wpAny_pyIter_tuple ht ?_)); skip
  have W0 := (Walks.tuple (prog := prog) (w := w) (A := A.in1) hh s.heap.objs.size t hlt items).toS
  have i0 : (s.heap.push { cls := .type "tuple_iterator", data := .fields #[.ref t, .int 0 0] }).IsTupleIter s.heap.objs.size t 0 := ⟨_, Heap.get?_push_size _ rfl, rfl, rfl⟩
  refine wpAny_bind (wpAny_holding (wpAny_draw_tuple hlt k 0 _ _ i0 (ht.push _) (by omega) fun h1 it1 sb1 => ?_))
  have elen : (List.take k (List.drop 0 items.toList)).length = k := by
    rw [List.drop_zero, List.length_take, Array.length_toList]
    omega
  rw [if_neg (by rw [elen]; omega)]
  have ht1 : h1.IsTuple t items := (ht.push _).extBut sb1.extBut hlt
  have sz1 : s.heap.objs.size < h1.objs.size := by
    obtain ⟨o, ho, _⟩ := it1
    exact Heap.lt_size ho
  have hold : ∀ b o, s.heap.get? b = some o → h1.get? b = some o := fun b o e => by
    rw [sb1.2 b (Nat.ne_of_lt (Heap.lt_size e))]
    exact Heap.get?_push_of_some _ e; skip
  refine wpAny_bind (wpAny_holding (wpAny_collect_iter (T := "tuple_iterator") (.inr (.inr (.inr rfl))) (shiftW W0 k hk) (fun i s' st => st.1.typeIs) ⟨by simpa using it1, ht1⟩ (fun b hb => ?_) (List.mem_cons_self) (fun s2 acc mv it => ?_) (by omega)))
  · rcases List.mem_cons.mp hb with rfl | hb; skip
    · exact sz1
    · rcases List.mem_cons.mp hb with rfl | hb; skip
      · obtain ⟨o, ho, _⟩ := ht1
        exact Heap.lt_size ho
      · cases hb
  · have ea := items_eq it
    have keep2 : ∀ b o, s.heap.get? b = some o → s2.heap.get? b = some o := fun b o e => mv.heap b o (fun hb => absurd (Heap.lt_size e) ((List.mem_singleton.mp hb) ▸ Nat.lt_irrefl _)) (hold b o e)
    have e1 : k + 1 - 1 - k = 0 := by omega
    rw [e1, if_neg (Nat.not_lt_zero _), Nat.sub_zero]
    have e2 : List.take acc.toList.length acc.toList = acc.toList := List.take_length
    have e3 : List.drop acc.toList.length acc.toList = [] := List.drop_length
    rw [e2, e3]
    obtain ⟨hp2, g2, d2, t2, o2⟩ := s2
    obtain ⟨hp, g, d, t0, os⟩ := s
    obtain rfl : g2 = g := mv.gens
    obtain rfl : d2 = d := mv.drawn
    obtain rfl : o2 = os := mv.os
    refine wpAny_bind (wpAny_newList ?_ ?_)
    · refine wpAny_pure ?_
      rw [List.append_nil, List.drop_zero, ea]
      exact h hp2 t2 keep2
    · rw [ea, List.length_drop, Array.length_toList]
      omega
end
end Pl
namespace Pl
open L2 PySem PySem.Spec PyProof.Rows
section
variable {X : Cx}
theorem pgs_star {e : Expr} {es : List Expr} {t : TG} {u : TGs} {p : Pos} (h1 : PG X e t) (h2 : PGs X es u)
    (hs : (assignEach (.Starred e p :: es) X.env).map (·.2) = assign e X.env :: (assignEach es X.env).map (·.2) := by rfl) : PGs X (.Starred e p :: es) (gCons t u) :=
  ⟨fun pins s σ H vs us Q I r h => by
    obtain ⟨v, vr, rfl, h⟩ := h
    cases r with
    | cons r rr =>
      rw [hs]
      exact assignInOrder_cons (thn (h1.run pins s σ H _ _ _ I r h) fun _ s1 ⟨σ1, H1, I1, q1⟩ => h2.run pins s1 σ1 H1 _ _ Q I1 rr q1)⟩
def gStar (K : PySem.W.Frag) (k : Nat) (t : TGs) : TG := fun v σ H Q => ∃ a xs, v = .ref a ∧ SqT K H a xs ∧ k ≤ xs.length ∧ ∀ p, H p = none → t (xs.take k ++ [.ref p]) σ (upd H p (.lst (xs.drop k))) Q
theorem pg_star {es : List Expr} {j k : Nat} {t : TGs} {pos : Pos} (hc : X.calm = true) (h : PGs X es t) (hn : (assignEach es X.env).length = k + 1 := by rfl)
    (hst : (assignEach es X.env).findIdx? (·.1) = some k := by rfl) : PG X (.Tuple es j pos) (gStar X.K k t) := by
  refine ⟨fun pins s σ H v u Q I r hw => ?_⟩; skip
  obtain ⟨a, xs, rfl, hq, hl, hw⟩ := hw
  cases r
  obtain ⟨its, rv, ht, hz⟩ := I.tuple hq; skip
  rw [assign_Tuple]
  refine wpAny_bind (wpAny_standAt (unpack_star (I.ok.hd hc) ht hn hst (by rw [List.size_toArray, ← rv.length]; exact hl) (by rw [List.size_toArray, ← rv.length]; exact hz) fun h2 tk kp => ?_))
  have I2 : Inv X pins σ H { s with heap := h2, toks := tk } := I.kept kp
  have hf : H h2.objs.size = none := I2.hok.fresh (Nat.le_refl _)
  have rd : Vals (xs.drop k) (its.drop k) := rv.drop k
  have I3 : Inv X pins σ (upd H h2.objs.size (.lst (xs.drop k))) { s with heap := h2.push { cls := .type "list", data := .seq (its.drop k).toArray }, toks := tk } :=
    I2.laid (t' := tk) (fun b u e => Heap.get?_push_of_some _ e) (Nat.le_refl _) ⟨by rw [List.length_drop]; omega, _, 0, rd, Heap.get?_push_size _ rfl⟩
  exact h.run pins _ σ _ _ _ Q I3 ((rv.take k).append (.cons (show RelV (.ref h2.objs.size) (Value.ref h2.objs.size) from rfl) .nil)) (hw _ hf)
end
end Pl

namespace Pl
open L2 PySem PySem.Spec PyProof.Rows
section
variable {prog : Program} {w : World} {s : Shared} {E : Value → Shared → Prop} {A : Around}
/-- a tuple's items, gathered -/
theorem gather_tup {a : Addr} {xs : List Value} {Q : List Value → Shared → Prop} (ht : s.heap.IsTuple a xs.toArray) (hz : xs.length ≤ sizeLine)
    (q : Q xs { s with heap := (s.heap.push (seqObj "list" #[] 0)).update s.heap.objs.size (Obj.mapSeq (· ++ xs.toArray)) }) : wpAny (model prog w) A (collect (.ref a)) Q E s := by
  obtain ⟨ob, e1, e2, k, e3⟩ := id ht
  have e1' : (s.heap.push (seqObj "list" #[] 0)).get? a = some ob := Heap.get?_push_of_some _ e1
  have top : (s.heap.push (seqObj "list" #[] 0)).get? s.heap.objs.size = some (seqObj "list" #[] 0) := Heap.get?_push_size _ rfl
  unfold collect
  refine wpAny_bind (wpAny_runValue (codeAny_builtin entry_proto_collect' ?_)); skip
  show wpAny _ _ (newList [] >>= fun g => again (.builtin "list.__iadd__" ⟨[g, .ref a], []⟩)) _ _ s
  refine wpAny_bind (wpAny_newList (wpAny_pure ⟨Code.quiet_builtin _ (by decide +kernel), codeAny_builtin entry_list_iadd' ?_⟩)); skip
  have go : ∀ (P : PySem.Fin → Shared → Prop) (F : Value → Shared → Prop) (B : Around), P (.done (.ret (.ref s.heap.objs.size))) { s with heap := (s.heap.push (seqObj "list" #[] 0)).update s.heap.objs.size (Obj.mapSeq (· ++ xs.toArray)) } →
      wpAny (model prog w) B (Builtin.List.listExtendWith (.ref s.heap.objs.size) (.ref a) (.ref s.heap.objs.size)) P F { s with heap := s.heap.push (seqObj "list" #[] 0) } := by
    intro P F B hP
    unfold Builtin.List.listExtendWith; skip
    refine wpAny_bind (wpAny_typeOf (T := "tuple") ⟨ob, e1', e2⟩ ?_)
    have two : (Value.type "tuple" == Value.type "tuple") = true := by rfl
    rw [if_pos (by rw [two]; simp)]
    refine wpAny_bind (listItems_at e1' e3 ?_)
    refine wpAny_bind (listItems_at (xs := #[]) (n := 0) top rfl ?_)
    rw [if_neg (by simp)]
    refine wpAny_bind (listUpdate_at (xs := #[]) (n := 0) top rfl ?_ (Nat.zero_le _) (by
      show (#[] ++ xs.toArray).size ≤ sizeLine + 1
      rw [Array.size_append, List.size_toArray]
      show 0 + xs.length ≤ sizeLine + 1
      omega))
    exact wpAny_pure hP
  refine go _ _ _ ?_
  show wpAny (model prog w) A (load s.heap.objs.size >>= _) Q E _
  refine wpAny_bind (wpAny_load (get?_update_seq top _) ?_)
  have e : ((#[] : Array Value) ++ xs.toArray).toList = xs := by simp
  show wpAny _ _ (pure ((#[] : Array Value) ++ xs.toArray).toList) Q E _
  rw [e]
  exact wpAny_pure q
end
end Pl
namespace Pl
open PySem PySem.W PySem.Calls PyProof.Rows L2
section
variable {prog : Program} {w : World} {s : Shared} {E : Value → Shared → Prop} {A : Around}
/-- sorted(a tuple, ..) is the sort of a new list of its items -/
theorem tup_sorted {a : Addr} {xs : List Value} {kw : List (Str × Value)} {Q : Value → Shared → Prop} (ht : s.heap.IsTuple a xs.toArray) (hz : xs.length ≤ sizeLine) (ok1 : argsOk "sorted" ⟨[.ref a], kw⟩) (ok2 : ∀ y, argsOk "list.sort" ⟨[.ref y], kw⟩)
    (run : ∀ F : Value → Shared → Prop, wpAny (model prog w) A.in1.in1 (Builtin.«list.sort» ⟨[.ref (s.heap.objs.size + 1)], kw⟩) (fun f s' => f = .done (.ret .none) ∧ Q (.ref (s.heap.objs.size + 1)) s') F { s with heap := copyHeap s.heap xs }) :
    wpAny (model prog w) A (call (.builtin "sorted") [.ref a] kw) Q E s := by
  refine call_function_entry_kw kind_sorted plain_sorted entry_sorted ok1 ?_
  unfold Builtin.«sorted»
  refine wpAny_bind (m := checkCount "sorted" 1 1 _) (wpAny_pure ?_); skip
  refine wpAny_bind (gather_tup ht hz (wpAny_bind (wpAny_newList ?_ hz)))
  have n1 : ((s.heap.push (seqObj "list" #[] 0)).update s.heap.objs.size (Obj.mapSeq (· ++ xs.toArray))).objs.size = s.heap.objs.size + 1 := by
    rw [Heap.size_update]
    exact size_push' _ _
  show wpAny _ _ _ _ _ { s with heap := copyHeap s.heap xs }
  rw [n1]
  refine wpAny_bind (wpAny_holding (wpAny_call_entry_kw slot_list_sort ⟨_, copyHeap_at s.heap xs, rfl⟩ entry_list_sort ?go (ok2 _)))
  case go =>
    show wpAny (model prog w) A.in1.in1 (Builtin.«list.sort» ⟨[.ref (s.heap.objs.size + 1)], kw⟩) _ _ _; skip
    exact wpAny_mono (run _) (fun f s' ⟨e, q⟩ => ⟨.none, by rw [e], wpAny_pure ⟨_, rfl, q⟩⟩) fun _ _ e => e
section
variable {β : Type} {R : Value → β → Prop} {bs : List β} {vs : List Value}
theorem tup_sorted_data {enc : β → PyData} {a : Addr} {Q : Value → Shared → Prop} (ht : s.heap.IsTuple a vs.toArray) (e : EachIs R vs bs) (er : EachIs (fun v b => ∃ as, Reads s.heap v (enc b) as) vs bs) (hal : AllAlike (bs.map enc)) (hk : Sortable (bs.map enc)) (hL : bs.length ≤ sizeLine)
    (hu : ∀ b, b ∈ bs → A.units + 2 + (enc b).depth < cLine) (q : ∀ out, out.length = bs.length → EachIs R out (bs.mergeSort (dataLe false enc)) → Q (.ref (s.heap.objs.size + 1)) { s with heap := sortedAll s.heap vs (List.toArray out) }) :
    wpAny (model prog w) A (call (.builtin "sorted") [.ref a]) Q E s := by
  have up : EachIs (fun v b => ∃ as, Reads (sortingHeap (copyHeap s.heap vs) (s.heap.objs.size + 1) vs) v (enc b) as) vs bs := er.mono fun _ _ ⟨as, r⟩ => ⟨as, PyProof.Rows.Reads.keeps (fun _ _ => sorting_copy_old) r⟩
  have S := SortsAt.data (prog := prog) (w := w) (A := A.in1.in1) (s := { s with heap := sortingHeap (copyHeap s.heap vs) (s.heap.objs.size + 1) vs }) (each_map (R := fun v d => ∃ as, Reads (sortingHeap (copyHeap s.heap vs) (s.heap.objs.size + 1) vs) v d as) enc up) hal hk (bound_map hu)
  refine tup_sorted ht (by rw [e.length]; exact hL) (args_sorted1 _) (fun _ => args_list_sort _) fun F => ?_
  exact list_sort_vals (s := { s with heap := copyHeap s.heap vs }) (copyHeap_at s.heap vs) S (by rw [e.length]; exact hL) ⟨rfl, q _ (by rw [sortVals_length false rfl]; exact e.length) (sortVals_data false e up hal)⟩
theorem tup_sorted_key {a : Addr} {f : Addr} {Q : Value → Shared → Prop} (k : β → PyData) (ht : s.heap.IsTuple a vs.toArray) (e : EachIs R vs bs) (hal : AllAlike (bs.map k)) (hk : Sortable (bs.map k)) (hL : bs.length ≤ sizeLine)
    (hu : ∀ x, x ∈ bs → A.units + 2 + (k x).depth < cLine)
    (turn : ∀ (v : Value) (x : β), R v x → x ∈ bs → ∀ (h : Heap) (tk : Nat), (∀ c o, s.heap.get? c = some o → h.get? c = some o) →
      wpAny (model prog w) A.in1.in1 (call (.ref f) [v]) (KeyPure (k x) { s with heap := h, toks := tk }) (fun _ _ => False) { s with heap := h, toks := tk })
    (q : ∀ out c h' tk, (∀ b o, s.heap.get? b = some o → h'.get? b = some o) → h'.get? (s.heap.objs.size + 1) = some (seqObj "list" (List.toArray out) c) → out.length = bs.length → EachIs R out (bs.mergeSort (dataLe false k)) →
      (Q (.ref (s.heap.objs.size + 1)) { s with heap := h', toks := tk })) :
    wpAny (model prog w) A (call (.builtin "sorted") [.ref a] [(Str.ofString "key", .ref f)]) Q E s := by
  have up : ∀ {g : Heap}, KeepsBut (s.heap.objs.size + 1) (copyHeap s.heap vs) g → ∀ b o, s.heap.get? b = some o → g.get? b = some o := fun {g} kp b o x => kp b o (Nat.ne_of_lt (Nat.lt_succ_of_lt (Heap.lt_size x))) (copyHeap_old x)
  have zl : (bs.map k).length = vs.length := by
    rw [List.length_map]
    exact e.length.symm
  refine tup_sorted ht (by rw [e.length]; exact hL) (ksk_s1 _ _) (fun _ => ksk_l1 _ _) fun F => ?_
  rw [ksk_t1]
  refine keyH_tree (kz := bs.map k) (s := { s with heap := copyHeap s.heap vs }) (copyHeap_at s.heap vs) zl (by rw [e.length]; exact hL) hal hk (bound_map (A := A.in1.in1) hu)
    (keyH_turns (s := { s with heap := copyHeap s.heap vs }) e fun v x r m h tk kp => turn v x r m h tk (up kp)) fun h' tk out c kp hD ko => ⟨rfl, ?_⟩
  exact q out c h' tk (up kp) hD ((ko.length zl).trans e.length) (keyedOut_each k ko e)
end
end
end Pl

namespace Pl
open PySem PySem.Spec PyProof.Rows L2 PySem.W
def encP (p : Str × Int) : PyData := .tuple [.str p.1, .int p.2]
/-- a pair: where it stands, its name and value -/
abbrev PB := V × (Str × Int)
def leP : PB → PB → Bool := dataLe false fun b => encP b.2
def leN : PB → PB → Bool := dataLe false fun b => .str b.2.1
def Prs (m : Bool) (z : Addr) (H : Hp) (bs : List PB) : Prop := ∀ b ∈ bs, Dv m z H true b.1 (encP b.2)
theorem each_of : ∀ {bs : List PB} {us : List Value}, Vals (bs.map (·.1)) us → EachIs (fun (u : Value) (b : PB) => RelV b.1 u) us bs
  | [], _, .nil => .nil
  | _ :: _, _, .cons r t => .cons r (each_of t)
theorem vals_of : ∀ {bs : List PB} {us : List Value}, EachIs (fun (u : Value) (b : PB) => RelV b.1 u) us bs → Vals (bs.map (·.1)) us
  | _, _, .nil => .nil
  | _, _, .cons r t => .cons r (vals_of t)
theorem each_in {α β : Type} {R S : α → β → Prop} : ∀ {as : List α} {bs : List β}, EachIs R as bs → (∀ a b, b ∈ bs → R a b → S a b) → EachIs S as bs
  | _, _, .nil, _ => .nil
  | _, _, .cons r t, h => .cons (h _ _ (List.mem_cons_self) r) (each_in t fun a b m => h a b (List.mem_cons_of_mem _ m))
theorem alike_P (bs : List PB) : AllAlike (bs.map fun b => encP b.2) := AllAlike.of fun _ _ => by simp [encP, alike, alikeAll]
theorem alike_N (bs : List PB) : AllAlike (bs.map fun b => PyData.str b.2.1) := AllAlike.of fun _ _ => by simp [alike]
section
variable {X : Cx} {pins : List (Addr × Obj)} {σ : L2.St} {H : Hp} {s : Shared} {m : Bool} {z : Addr}
def rSortP : List V → Hp → VK → Prop := fun xs H Q => ∃ (m : Bool) (z a : Addr) (bs : List PB), xs = [.ref a] ∧ TupAt H true a (bs.map (·.1)) ∧ Prs m z H bs ∧ ∀ p, H p = none → Q (.ref p) (upd H p (.lst ((bs.mergeSort leP).map (·.1))))
theorem cr_sortP (hu : X.A.units + 64 < cLine) : CallR X (.builtin "sorted") rSortP := by
  intro pins s σ H xs us Q I r h; skip
  obtain ⟨m, z, a, bs, rfl, ha, hp, q⟩ := h
  obtain rfl := Vals.ref1 r
  obtain ⟨its, rv, ht, hz⟩ := I.tuple ha.sq
  have e := each_of rv
  have er : EachIs (fun (v : Value) (b : PB) => ∃ as, Reads s.heap v (encP b.2) as) its bs := each_in e fun u b mb r => by
    obtain ⟨as, rd, _⟩ := Dv.rd I _ _ _ u (hp b mb) r
    exact ⟨as, rd⟩
  have hz' : bs.length ≤ sizeLine := by
    rw [List.length_map] at hz
    exact hz
  refine tup_sorted_data (enc := fun b : PB => encP b.2) ht e er (alike_P bs) (Sortable.tuples fun _ => ⟨_, _, rfl⟩) hz' (fun b _ => ?_) fun out lo eo => ?_
  · have hd : (encP b.2).depth = 1 := by simp [encP, PyData.depth, PyData.depthAll]
    omega
  · obtain ⟨ep, he⟩ := PyProof.Rows.sortedAll_at s.heap its (List.toArray out)
    have rv2 := vals_of eo
    have hlen : ((bs.mergeSort leP).map (·.1)).length ≤ sizeLine := by
      rw [List.length_map, (List.mergeSort_perm _ _).length_eq]
      exact hz'
    exact ⟨.ref _, upd H (s.heap.objs.size + 1) (.lst ((bs.mergeSort leP).map (·.1))), I.laid (t' := s.toks) (fun _ _ => PyProof.Rows.sortedAll_old) (Nat.le_succ _) ⟨hlen, out, ep, rv2, he⟩, rfl, q _ (I.hok.fresh (Nat.le_succ _))⟩
end
end Pl

namespace Pl
open PySem PySem.Spec PyProof.Rows L2 PySem.W
/-- the lambda's text: x: x[0] -/
structure LamT (x : Str) (params : Arguments) (body : Expr) (scope : Scope) : Prop where
  co : (scope.isCoroutine = false)
  gen : (scope.isGenerator = false)
  kind : scope.kind = .function
  names : scope.names = [(x, .local)]
  bind : ∀ (q : Str) (cl : List (Str × Addr)) (pm cv ctv v : Value), bindArgs (kla_fn "<lambda>" q params body scope cl pm cv ctv) ⟨[v], []⟩ = pure [(x, v)]
  body : ∃ p1 p2 p3 j, body = .Subscript (.Name x p1) (.Constant (.int 0) j p2) p3
  db : (x == ("__debug__" : Str)) = false
section
variable {X : Cx} {s : Shared} {pins : List (Addr × Obj)} {H : Hp} {σ : L2.St}
theorem lam_turn {prog : Program} {w : World} {A : Around} {x q : Str} {params : Arguments} {body : Expr} {scope : Scope} (L : LamT x params body scope) (hd : A.depth < recursionLimit) {s : Shared} {f c' t : Addr} {cl : List (Str × Addr)} {pm ctv : Value} {nm : Str} {n : Int} {as : List Addr}
    (hlim : s.heap.NoLimit) (hf : s.heap.get? f = some (kla_obj "<lambda>" q params body scope cl pm c' ctv)) (hc : ∃ (oc : Obj) (vs : Array Value) (t : Tok), s.heap.get? c' = some oc ∧ oc.data = .fields vs ∧ vs[1]? = some (.str q t))
    (hr : Reads s.heap (.ref t) (encP (nm, n)) as) : wpAny (model prog w) A (call (.ref f) [.ref t]) (KeyPure (.str nm) s) (fun _ _ => False) s := by
  obtain ⟨oc, vs, tk, hoc, hdc, hvc⟩ := hc
  refine wpAny_call (kla_callFunE hd hf rfl L.co L.gen rfl ⟨c', oc, vs, tk, rfl, hoc, hdc, hvc⟩ ?_)
  rw [L.bind]
  refine wpAny_pure (wpAny_newFunctionEnv (fun y hy => ?_) (fun y hy => ?_) (fun h1 hns hsb => ?_) L.kind)
  · rw [L.names, List.mem_singleton] at hy
    rw [hy]
    exact fun z => by cases z
  · rw [List.mem_singleton] at hy
    rw [hy]
    show scope.names.lookup x = some .local
    rw [L.names]
    simp [List.lookup]
  · have kp : ∀ b o, s.heap.get? b = some o → h1.get? b = some o := fun b o e => hsb.extBut b o (Nat.ne_of_lt (Heap.lt_size e)) (Heap.get?_push_of_some _ e)
    refine ⟨hlim.keeps kp, kla_codeExpr ?_⟩
    obtain ⟨p1, p2, p3, j, rfl⟩ := L.body
    refine Subscript_ (wpAny_Name (wpAny_loadName_local L.kind (by show scope.names.lookup x = some .local; rw [L.names]; simp [List.lookup]) hns (v := .ref t) (by simp [List.lookup]) ?_) L.db)
    refine wpAny_Constant_int ?_
    cases hr with
    | @tuple a o its k xs as h1' h2 h3 h4 =>
      obtain ⟨l⟩ := its
      have h5 : ReadsAll s.heap l [.str nm, .int n] as := h4
      cases h5 with
      | @cons v vs' d ds as1 bs1 r1 r2 =>
        cases r1 with
        | str y tk2 =>
          cases r2 with
          | cons r3 r4 =>
            cases r4
            refine item_tuple (j := 0) (x := .str nm tk2) ⟨o, kp _ _ h1', h2, k, h3⟩ (by decide) (by decide) (by rfl) (by rfl) ?_
            exact ⟨h1, _, rfl, kp, .str nm tk2⟩
/-- sorted(e, key=lambda x: x[0]) -/
def tSortLam (P : Addr) (q : Str) (te : TE) : TE := fun σ H Q => te σ H fun v H1 => LamX.Tabs [(P, q)] H1 ∧ ∃ (m : Bool) (z a : Addr) (bs : List PB), v = .ref a ∧ TupAt H1 true a (bs.map (·.1)) ∧ Prs m z H1 bs ∧
  ∀ H2 p, LamX.ExtN H1 H2 → LamX.Tabs [(P, q)] H2 → H2 p = none → Q (.ref p) (upd H2 p (.lst ((bs.mergeSort leN).map (·.1))))
section
variable {m : Bool} {z : Addr} {H G : Hp}
theorem TupAt.ext {k : Bool} {a : Addr} {xs : List V} (e : LamX.ExtN H G) (h : TupAt H k a xs) : TupAt G k a xs := by
  cases h with
  | frz h d => exact .frz (e _ _ h fun _ z => by cases z) d
  | big h l => exact .big (e _ _ h fun _ z => by cases z) l
  | any h => exact .any (e _ _ h fun _ z => by cases z)
mutual
theorem Dv.ext (e : LamX.ExtN H G) : ∀ (k : Bool) (d : PyData) (v : V), Dv m z H k v d → Dv m z G k v d
  | _, .none, _, h => by cases h; exact .non
  | _, .bool _, _, h => by cases h; exact .bl _
  | _, .int _, _, h => by cases h; exact .int _
  | _, .str _, _, h => by cases h; exact .str _
  | _, .list ds, _, h => by
    cases h with
    | lst hm ne h t => exact .lst hm ne (e _ _ h fun _ z => by cases z) (DvL.ext e _ ds _ t)
  | _, .tuple ds, _, h => by
    cases h with
    | tup ne h t => exact .tup ne (h.ext e) (DvL.ext e _ ds _ t)
  | _, .dict _, _, h => by
    cases h with
    | dct hm ne h => exact .dct hm ne (e _ _ h fun _ z => by cases z)
theorem DvL.ext (e : LamX.ExtN H G) : ∀ (k : Bool) (ds : List PyData) (vs : List V), DvL m z H k vs ds → DvL m z G k vs ds
  | _, [], _, h => by cases h; exact .nil
  | _, d :: ds, _, h => by
    cases h with
    | cons a t => exact .cons (Dv.ext e _ d _ a) (DvL.ext e _ ds _ t)
end
end
theorem pe_sortLam {e : Expr} {te : TE} {x : Str} {params : Arguments} {body : Expr} {scope : Scope} {c P : Addr} {p lpos kpos pos : Pos} (L : LamT x params body scope) (hg : Gl X "sorted") (hm : X.mg "sorted" = none) (he : PE X e te) (TB : LamX.TabB X.base X.mg c P)
    (hcode : X.env.code = .ref c) (hr : Room 2 X.A) (hdef : defaultsOf params X.env = ([], []) := by rfl)
    (hst : backTo pos (starEach [e] X.env) = (false, eval e X.env) :: backTo pos (starEach [] X.env) := by rfl) (hpl : (backTo pos (starEach [e] X.env)).any (·.1) = false := by rfl) :
    PE X (.Call (.Name "sorted" p) [e] [⟨some "key", .Lambda params body scope lpos, kpos⟩] pos) (tSortLam P (X.env.qual ++ "<lambda>") te) := by
  refine ⟨fun pins s σ H Q I h => ?_⟩; skip
  refine wpAny_Call_Name_kw (ld_blt I hg hm boot_sorted ?_)
  refine PyProof.Rows.callWith_kw ?_ hst hpl (by rfl) (by rfl)
  rw [hst]
  refine Calls.spliced_cons (thn (he.run pins s σ H _ I h) fun v s1 ⟨w, H1, I1, r1, hT, m, z, a, bs, e1, ha, hp, q⟩ => Calls.spliced_nil ?_)
  subst e1
  obtain rfl : v = Value.ref a := r1; skip
  show wpAny _ _ (evalAll [do let v ← eval (.Lambda params body scope lpos) X.env; standAt pos; pure v]) _ _ s1
  refine wpAny_evalAll_cons (wpAny_bind (LamX.lam_make2 (T := [(P, X.env.qual ++ "<lambda>")]) (c := c) (P := P) I1 TB hcode (List.mem_singleton.mpr rfl) (fun pp hpp _ => by
    rw [List.mem_singleton] at hpp
    rw [hpp]) hT hdef (fun y hy hfr => ?_) fun f c' pm ctv H2 s2 I2 eN T2 hf hfn _ hco => ?_))
  · rw [L.names, List.mem_singleton] at hy
    rw [hy] at hfr
    cases hfr
  refine wpAny_bind (wpAny_standAt (wpAny_pure (wpAny_evalAll_nil ?_)))
  show wpAny _ _ (call (.builtin "sorted") [.ref a] [(Str.ofString "key", .ref f)]) _ _ s2
  obtain ⟨⟨oc, vs, t, hoc, hdc, hvc⟩, _, _⟩ := I2.hok c' _ hco
  have ha2 : TupAt H2 true a (bs.map (·.1)) := ha.ext eN
  have hp2 : Prs m z H2 bs := fun b mb => Dv.ext eN _ _ _ (hp b mb)
  obtain ⟨its, rv, ht, hz⟩ := I2.tuple ha2.sq
  have ee := each_of rv
  have hz' : bs.length ≤ sizeLine := by
    rw [List.length_map] at hz
    exact hz
  have lim2 := I2.nolimit
  have hdp := hr.dp
  have hun := hr.un
  refine tup_sorted_key (fun b : PB => .str b.2.1) ht ee (alike_N bs) (Sortable.others fun _ => ⟨(fun z => by cases z), fun _ z => by cases z⟩) hz' (fun b _ => ?_) (fun v b rb mb h tk kp => ?_) fun out k h' tk kp hl lo eo => ?_
  · show X.A.units + 2 + (PyData.str b.2.1).depth < cLine
    have hd : (PyData.str b.2.1).depth = 0 := by simp [PyData.depth]
    rw [hd]
    omega
  · obtain ⟨as, rd, _⟩ := Dv.rd I2 _ _ _ v (hp2 b mb) rb
    have hb := hp2 b mb
    have e3 : ∃ t, v = .ref t := by
      obtain ⟨bv, bp⟩ := b
      have hb' : Dv m z H2 true bv (.tuple [.str bp.1, .int bp.2]) := hb
      cases hb' with
      | tup ne hh tt => exact ⟨_, rb⟩
    obtain ⟨tt, rfl⟩ := e3
    exact lam_turn (s := { s2 with heap := h, toks := tk }) (A := X.A.in1.in1) L (by show X.A.depth < recursionLimit; omega) (lim2.keeps kp) (kp _ _ hf) ⟨oc, vs, t, kp _ _ hoc, hdc, hvc⟩ (PyProof.Rows.Reads.keeps kp rd)
  · have rv2 := vals_of eo
    have hlen : ((bs.mergeSort leN).map (·.1)).length ≤ sizeLine := by
      rw [List.length_map, (List.mergeSort_perm _ _).length_eq]
      exact hz'
    have new : H2 (s2.heap.objs.size + 1) = none := I2.hok.fresh (Nat.le_succ _)
    exact ⟨.ref _, upd H2 (s2.heap.objs.size + 1) (.lst ((bs.mergeSort leN).map (·.1))), I2.laid (t' := tk) kp (Nat.le_succ _) ⟨hlen, out, k, rv2, hl⟩, rfl, q H2 _ eN T2 new⟩
end
end Pl

namespace Pl
open PySem PySem.Spec PyProof.Rows L2 PySem.W
/-! ### set(a list of ints and texts) -/
def hasK (x : Key) (l : List Key) : Bool := l.any fun y => decide (y = x)
theorem hasK_iff {x : Key} {l : List Key} : hasK x l = true ↔ x ∈ l := by
  unfold hasK
  rw [List.any_eq_true]
  constructor
  · rintro ⟨y, h, e⟩
    rw [← of_decide_eq_true e]
    exact h
  · exact fun h => ⟨x, h, decide_eq_true rfl⟩
def dst (l : List Key) : List Key := l.foldl (fun acc x => if hasK x acc = true then acc else acc ++ [x]) []
theorem dst_snoc (l : List Key) (x : Key) : dst (l ++ [x]) = if hasK x (dst l) = true then dst l else dst l ++ [x] := by
  unfold dst
  rw [List.foldl_append]
  rfl
theorem snoc_ind {α : Type} {p : List α → Prop} (h0 : p []) (h1 : ∀ l x, p l → p (l ++ [x])) : ∀ l, p l := fun l => by
  have : ∀ r : List α, p r.reverse := fun r => by
    induction r with
    | nil => exact h0
    | cons a r ih => rw [List.reverse_cons]; exact h1 _ _ ih
  have q := this l.reverse
  rwa [List.reverse_reverse] at q
theorem mem_dst (x : Key) : ∀ l : List Key, x ∈ dst l ↔ x ∈ l := by
  refine snoc_ind (by simp [dst]) fun l y ih => ?_
  rw [dst_snoc]
  split
  · rename_i h
    rw [List.mem_append, List.mem_singleton, ih]
    constructor
    · exact .inl
    · rintro (h1 | h1)
      · exact h1
      · subst h1
        exact ih.mp (hasK_iff.mp h)
  · rw [List.mem_append, List.mem_append, ih]
theorem dst_le : ∀ l : List Key, (dst l).length ≤ l.length := by
  refine snoc_ind (by simp [dst]) fun l y ih => ?_
  rw [dst_snoc, List.length_append]
  split
  · simp; omega
  · rw [List.length_append]; simp; omega; skip
theorem dst_nodup : ∀ l : List Key, (dst l).length = l.length ↔ l.Nodup := by
  refine snoc_ind (by simp [dst]) fun l y ih => ?_
  rw [dst_snoc, List.length_append, List.nodup_append]
  have le := dst_le l
  split
  · rename_i h
    constructor
    · intro e
      simp at e
      omega
    · rintro ⟨_, _, e⟩
      exact absurd rfl (e y ((mem_dst y l).mp (hasK_iff.mp h)) y (List.mem_singleton.mpr rfl))
  · rename_i h
    rw [List.length_append, List.length_singleton]; skip
    constructor
    · intro e
      refine ⟨ih.mp (by omega), by simp, fun a ha b hb q => ?_⟩
      rw [List.mem_singleton] at hb
      subst hb
      subst q
      exact h (hasK_iff.mpr ((mem_dst _ l).mpr ha))
    · rintro ⟨e, _⟩
      have := ih.mpr e
      omega
section
variable {prog : Program} {w : World} {I : Addr} {fp wr : List Addr} {G : Array GenState → Array GenState → Prop} {n : Nat} {P : Nat → Value → Prop} {St : Nat → Shared → Prop}
/-- the keys at i and on are put in -/
theorem fill_set (S : Addr) (ks : List Key) (hn : ks.length = n) (hb : n + 1 < scanBound) (hP : ∀ i v, P i v → ∃ k, ks[i]? = some k ∧ RelV (kV k) v) :
    ∀ (j i : Nat) (A : Around) (R : Result → Shared → Prop) (s : Shared) (W : WalksS prog w A.in1 I fp wr G n P St), S ∉ fp → n - i = j → i ≤ n → St i s →
      s.heap.SetOf (mixKind prog w) S (fun k => hasK k (ks.take i)) (dst (ks.take i)).length →
      (∀ s', Moved (S :: wr) G s s' → s'.heap.SetOf (mixKind prog w) S (fun k => hasK k ks) (dst ks).length → R (.ok (.ret .none)) s') →
      (codeAny (model prog w) A (.builtin "set.update.loop" ⟨[.ref S, .ref I], []⟩) R s) := by
  intro j
  induction j with
  | zero =>
    intro i A R s W hS hj hi st so hR
    obtain rfl : i = n := by omega
    rw [← hn, List.take_length] at so
    have nw : S ∉ wr := fun h => hS (W.sub _ h)
    refine codeAny_builtin F.entry_set_update_loop ?_; skip
    rw [Around.under_plainId F.plain_set_update_loop _]; skip
    show wpAny _ A.in1 (pyNext (.ref I) >>= _) _ _ s; skip
    refine wpAny_bind (W.done s _ _ st fun s' mv => wpAny_pure (hR s' (mv.mono fun b hb => List.mem_cons_of_mem _ hb) ?_))
    obtain ⟨o, es, ep, t, ho, r⟩ := so
    exact ⟨o, es, ep, t, mv.heap S _ nw ho, r⟩
  | succ j ih =>
    intro i A R s W hS hj hi st so hR
    have nw : S ∉ wr := fun h => hS (W.sub _ h)
    have lt : i < n := by omega
    refine codeAny_builtin F.entry_set_update_loop ?_; skip
    rw [Around.under_plainId F.plain_set_update_loop _]; skip
    show wpAny _ A.in1 (pyNext (.ref I) >>= _) _ _ s; skip
    refine wpAny_bind (W.item i s _ _ lt st fun v s' pv st' mv => ?_)
    obtain ⟨k, ek, rk⟩ := hP i v pv
    have so' : s'.heap.SetOf (mixKind prog w) S (fun k => hasK k (ks.take i)) (dst (ks.take i)).length := by
      obtain ⟨o, es, ep, t, ho, r⟩ := so
      exact ⟨o, es, ep, t, mv.heap S _ nw ho, r⟩
    show wpAny _ A.in1 (holding [v] (setAdd S v) >>= _) _ _ s'
    refine wpAny_bind (wpAny_holding ?_); skip
    unfold setAdd
    refine wpAny_holding (wpAny_bind ((mixKind prog w).pyHash (k := k) (kV_is rk) ?_))
    have room : (dst (ks.take i)).length + 1 < scanBound := by
      have h1 := dst_le (ks.take i)
      rw [List.length_take] at h1
      omega
    refine wpAny_setAddHashed_of (knd := mixKind prog w) (s := { s' with toks := s'.toks + 1 }) (kV_is rk) (key_scan rk) so' room fun h' sb so2 => ?_
    have e1 : ks.take (i + 1) = ks.take i ++ [k] := by
      rw [List.take_add_one, ek]
      rfl
    have eS : (fun k' => hasK k' (ks.take i) || decide (k' = k)) = fun k' => hasK k' (ks.take (i + 1)) := funext fun k' => by
      rw [e1]
      unfold hasK
      rw [List.any_append]
      have e2 : (decide (k = k')) = decide (k' = k) := by
        by_cases q : k = k'
        · rw [decide_eq_true q, decide_eq_true q.symm]
        · rw [decide_eq_false q, decide_eq_false fun z => q z.symm]
      simp only [List.any_cons, List.any_nil, Bool.or_false]
      rw [e2]
    have eN : (if hasK k (ks.take i) = true then (dst (ks.take i)).length else (dst (ks.take i)).length + 1) = (dst (ks.take (i + 1))).length := by
      rw [e1, dst_snoc]
      have e2 : hasK k (dst (ks.take i)) = hasK k (ks.take i) := by
        rw [Bool.eq_iff_iff, hasK_iff, hasK_iff]
        exact mem_dst k _
      rw [e2]
      split
      · rfl
      · rw [List.length_append, List.length_singleton]; skip
    have so3 : h'.SetOf (mixKind prog w) S (fun k' => hasK k' (ks.take (i + 1))) (dst (ks.take (i + 1))).length := by
      rw [← eS, ← eN]
      exact so2
    have sub' : ∀ b, b ∉ S :: wr → b ≠ S := fun b h q => h (by rw [q]; exact List.mem_cons_self)
    refine wpAny_pure ⟨plainId_quiet F.plain_set_update_loop _, ih (i + 1) A R _ W hS (by omega) lt (W.frame _ s' _ _ st' (Nat.le_succ _) fun b hb o e => ?_) so3 fun s2 mv2 so4 => ?_⟩
    · rw [sb.2 b (fun q => hS (by rw [← q]; exact hb))]
      exact e
    · refine hR s2 (Moved.trans W.gtrans ((mv.mono fun b hb => List.mem_cons_of_mem _ hb).then_heap (Nat.le_succ _) fun b o hb e => ?_) mv2) so4
      rw [sb.2 b (sub' b hb)]
      exact e
end
end Pl

namespace Pl
open PySem PySem.Spec PyProof.Rows L2 PySem.W
section
variable {prog : Program} {w : World} {s : Shared} {E : Value → Shared → Prop} {A : Around}
theorem set_list {l : Addr} {items : Array Value} {ks : List Key} {Q : Value → Shared → Prop} (hh : A.handled = none) (hl : s.heap.IsList l items) (rv : Vals (ks.map kV) items.toList) (hb : items.size + 1 < scanBound)
    (q : ∀ (g : Heap) (tk : Nat), g.SetOf (mixKind prog w) s.heap.objs.size (fun k => hasK k ks) (dst ks).length → (∀ b o, b < s.heap.objs.size → s.heap.get? b = some o → g.get? b = some o) → Q (.ref s.heap.objs.size) { s with heap := g, toks := tk }) :
    (wpAny (model prog w) A (call (.type "set") [.ref l]) Q E s) := by
  have hsz : ks.length = items.size := by
    have e := rv.length
    rw [List.length_map, Array.length_toList] at e
    exact e
  obtain ⟨c, tl, hmro⟩ := PySem.F.called_set.mro; skip
  have a1 := PySem.F.called_set.made
  have a2 := PySem.F.called_set.sub
  have a3 := PySem.F.called_set.notType
  have a4 := PySem.F.called_set.canCreate
  have a5 := PySem.F.typeCall_set_1 (.ref l)
  refine wpAny_call (codeAny_of_tree ?_); skip
  show wpAny _ _ (callAny (.type "set") _) _ _ _; skip
  refine wpAny_pure ⟨Code.quiet_builtin _ (by decide +kernel), codeAny_builtin PySem.F.entry_type_call ?_⟩; skip
  rw [Around.under_plain (weight_type_call_type "set" [.ref l] []) rfl]; skip
  repeat (any_goals (first | assumption | wp_step)); skip
  refine codeAny_mono (code_set_new_1 (.ref l) (E := E) (Q₁ := fun ob t => ∃ led : Bool, ob = .ref s.heap.objs.size ∧ t = { s with heap := s.heap.push { cls := .type "set", dict := none, data := .set #[] 0 (.fresh 0 0 led) } }) fun led => ⟨led, rfl, rfl⟩) fun r t hr => ?_
  match r, hr with
  | .error e, hr => exact hr
  | .ok (.ret ob), ⟨led, e1, e2⟩ =>
    subst e1
    subst e2
    have new : (s.heap.push { cls := .type "set", dict := none, data := .set #[] 0 (.fresh 0 0 led) }).get? s.heap.objs.size = some { cls := .type "set", dict := none, data := .set #[] 0 (.fresh 0 0 led) } := Heap.get?_push_size _ rfl
    have ty : Shared.TypeIs { s with heap := s.heap.push { cls := .type "set", dict := none, data := .set #[] 0 (.fresh 0 0 led) } } (.ref s.heap.objs.size) "set" := ⟨_, new, rfl⟩
    have b1 := PySem.F.called_set.init.lookup
    have b2 := PySem.F.called_set.init.bind (.ref s.heap.objs.size)
    repeat (any_goals (first | assumption | wp_step)); skip
    refine codeAny_mono (codeAny_call_builtin (R := wants (fun r t => r = .none ∧ ∃ g tk, t = { s with heap := g, toks := tk } ∧ g.SetOf (mixKind prog w) s.heap.objs.size (fun k => hasK k ks) (dst ks).length ∧
      (∀ b o, b < s.heap.objs.size → s.heap.get? b = some o → g.get? b = some o)) E) PySem.F.called_set.init.plain PySem.F.entry_set_init (check_set_init_1 ty ?_)) fun r2 t2 hr2 => ?_
    · obtain ⟨o, ho, hc, k, hd⟩ := hl
      obtain ⟨oc, od, odt, osl⟩ := o; skip
      simp only at hc hd
      subst hc
      subst hd
      have ho' : (s.heap.push { cls := .type "set", dict := none, data := .set #[] 0 (.fresh 0 0 led) }).get? l = some { cls := .type "list", dict := od, data := .seq items k, slots := osl } := Heap.get?_push_of_some _ ho
      have c1 := PySem.F.sub_list_set
      have c2 := PySem.F.sub_list_frozenset
      have c3 : (Value.type "list" == Value.type "dict") = false := by decide
      have il : (s.heap.push { cls := .type "set", dict := none, data := .set #[] 0 (.fresh 0 0 led) }).IsList l items := ⟨_, ho', rfl, k, rfl⟩
      unfold Builtin.«set.__init__» noKeywords Builtin.Frozenset.updateFrom; skip
      generalize hPI : pyIter = PI
      wp_walk
      subst hPI
      refine wpAny_pyIter_list il (wpAny_bind (wpAny_runValue ?_))
      have lt : l < s.heap.objs.size := Heap.lt_size ho
      have nI : l ≠ (s.heap.push { cls := .type "set", dict := none, data := .set #[] 0 (.fresh 0 0 led) }).objs.size := by
        rw [Heap.size_push]
        exact Nat.ne_of_lt (Nat.lt_succ_of_lt lt)
      have nS : s.heap.objs.size ∉ [(s.heap.push { cls := .type "set", dict := none, data := .set #[] 0 (.fresh 0 0 led) }).objs.size, l] := by
        rw [Heap.size_push, List.mem_cons, List.mem_singleton]
        rintro (z | z)
        · exact absurd z (Nat.ne_of_lt (Nat.lt_succ_self _))
        · exact absurd z (Nat.ne_of_gt lt)
      refine fill_set (n := items.size) s.heap.objs.size ks hsz hb (fun i v hv => ?_) (items.size - 0) 0 _ _ _ ((Walks.list (by simpa using hh) _ l nI items).toS) nS (by omega) (Nat.zero_le _) ⟨⟨_, Heap.get?_push_size _ rfl, rfl, rfl⟩, il.push _⟩ ?_ fun t mv so => ?_
      · have hv' : items.toList[i]? = some v := by
          rw [Array.getElem?_toList]
          exact hv
        cases e : (ks.map kV)[i]? with
        | none =>
          have := rv.none_of e
          rw [hv'] at this
          cases this
        | some y =>
          obtain ⟨u, h1, h2⟩ := rv.get e
          rw [hv'] at h1
          cases h1
          rw [List.getElem?_map] at e
          cases e3 : ks[i]? with
          | none =>
            rw [e3] at e
            cases e
          | some kk =>
            rw [e3] at e
            cases e
            exact ⟨kk, rfl, h2⟩
      · have g0 : ((s.heap.push { cls := .type "set", dict := none, data := .set #[] 0 (.fresh 0 0 led) }).push { cls := .type "list_iterator", data := .fields #[.ref l, .int 0 0] }).get? s.heap.objs.size = some { cls := .type "set", dict := none, data := .set #[] 0 (.fresh 0 0 led) } := Heap.get?_push_of_some _ new
        exact ⟨_, #[], 0, _, g0, ⟨rfl, rfl, rfl⟩, rfl, (fun e he => by simp at he), (fun k => by simp [hasK]), (by decide), (by rfl), rfl⟩
      · obtain ⟨g, gs, d, tk, os⟩ := t
        obtain rfl : gs = s.gens := mv.gens
        obtain rfl : d = s.drawn := mv.drawn
        obtain rfl : os = s.os := mv.os
        show wpAny _ _ _ _ _ _
        refine wpAny_pure ?_
        show wpAny _ _ (ret Value.none) _ _ _; skip
        refine wpAny_pure ⟨rfl, g, tk, rfl, so, fun b o hb e => mv.heap b o (fun hm => ?_) (Heap.get?_push_of_some _ (Heap.get?_push_of_some _ e))⟩
        rw [Heap.size_push, List.mem_cons, List.mem_cons, List.mem_nil_iff] at hm
        rcases hm with z | z | z
        · exact absurd z (Nat.ne_of_lt hb)
        · exact absurd z (Nat.ne_of_lt (Nat.lt_succ_of_lt hb))
        · exact z
    · match r2, hr2 with
      | .error e, hr2 => exact hr2
      | .ok (.ret v), ⟨e1, g, tk, e2, so, kp⟩ =>
        subst e1
        subst e2
        repeat (any_goals (first | assumption | wp_step)); skip
        exact q _ _ so kp
end
end Pl

namespace Pl
open L2 PySem PySem.Spec PyProof.Rows
/-! ### tuples that are known to their object -/
section
variable {X : Cx} {es : List Expr} {pos : Pos} {t : TA}
def tTupF (t : TA) : TE := fun σ H Q => t σ H fun xs H1 => xs.length ≤ sizeLine ∧ ∀ p o, H1 p = none → o.dict = none → Q (.ref p) (upd H1 p (.frz o (.tup xs)))
theorem pe_tupF {x1} (h : PA X es t) : PE X (.Tuple es x1 pos) (tTupF t) := by
  refine ⟨fun pins s σ H Q I hq => wpAny_Tuple_spliced (thn (h.run pos pins s σ H _ I hq) fun us s1 ⟨xs, H1, I1, r, z, q⟩ => ⟨by rw [← r.length]; exact z, ?_⟩)⟩
  have at_ : (s1.heap.push { cls := .type "tuple", data := .seq us.toArray }).get? s1.heap.objs.size = some { cls := .type "tuple", data := .seq us.toArray } := Heap.get?_push_size _ rfl
  exact ⟨.ref s1.heap.objs.size, upd H1 s1.heap.objs.size (.frz { cls := .type "tuple", data := .seq us.toArray } (.tup xs)), I1.laid (t' := s1.toks) (fun b u e => Heap.get?_push_of_some _ e) (Nat.le_refl _) ⟨at_, z, us, r, ⟨_, at_, rfl, _, rfl⟩⟩, rfl, q _ _ (I1.hok.fresh (Nat.le_refl _)) rfl⟩
/-- tuple(a list) -/
def rTupF : List V → Hp → VK → Prop := fun xs H Q => ∃ p ys, xs = [.ref p] ∧ H p = some (.lst ys) ∧ ∀ l o, H l = none → o.dict = none → Q (.ref l) (upd H l (.frz o (.tup ys)))
theorem call_tupF : CallR X (.type "tuple") rTupF := by
  intro pins s σ H xs us Q I r h; skip
  obtain ⟨p, ys, rfl, hp, q⟩ := h
  obtain ⟨u, rfl, rx⟩ := vals1 r; skip
  cases rx
  obtain ⟨its, rv, pl, hz⟩ := I.list (SqL.of hp)
  have hlen := rv.length
  refine call_tuple_list pl.isList (fun g kp => ?_) (by simp only [List.size_toArray]; omega)
  have at_ : (g.push { cls := .type "tuple", data := .seq its.toArray }).get? g.objs.size = some { cls := .type "tuple", data := .seq its.toArray } := Heap.get?_push_size _ rfl
  have I1 : Inv X pins σ H { s with heap := g } := I.kept (t' := s.toks) kp
  exact ⟨.ref g.objs.size, upd H g.objs.size (.frz { cls := .type "tuple", data := .seq its.toArray } (.tup ys)), I1.laid (t' := s.toks) (fun b o e => Heap.get?_push_of_some _ e) (Nat.le_refl _) ⟨at_, hz, its, rv, ⟨_, at_, rfl, _, rfl⟩⟩, rfl, q _ _ (I1.hok.fresh (Nat.le_refl _)) rfl⟩
end
/-! ### len(set(a list of texts)) -/
def sK (ss : List Str) : List Key := ss.map Sum.inr
section
variable {X : Cx}
def tLenSetK (te : TE) : TE := fun σ H Q => te σ H fun v H1 => ∃ (l : Addr) (ss : List Str), v = .ref l ∧ H1 l = some (.lst (ss.map V.str)) ∧ ss.length ≤ 1000 ∧ Q (.int (dst (sK ss)).length) H1
theorem vals_sK {ss : List Str} {its : List Value} (r : Vals (ss.map V.str) its) : Vals ((sK ss).map kV) its := by
  have e : (sK ss).map kV = ss.map V.str := by
    unfold sK
    rw [List.map_map]
    rfl
  rw [e]
  exact r
theorem pe_lenSetK {a : Expr} {te : TE} {p p2 q pos : Pos} (hc : X.calm = true) (hg : Gl X "len") (hm : X.mg "len" = none) (hg2 : Gl X "set") (hm2 : X.mg "set" = none) (ha : PE X a te)
    (na : starEach [a] X.env = (false, eval a X.env) :: starEach [] X.env := by rfl) : PE X (.Call (.Name "len" p) [.Call (.Name "set" p2) [a] [] q] [] pos) (tLenSetK te) := by
  refine ⟨fun pins s σ H Q I h => Call_ (ld_blt I hg hm boot_len (PyProof.Rows.callWith_builtin1 (PyProof.Rows.args_cons ?_ rfl) rfl rfl))⟩
  refine Call_ (ld_blt I hg2 hm2 boot_set (PyProof.Rows.callWith_type1 (PyProof.Rows.args_cons (thn (ha.run pins s σ H _ I h) fun v s1 ⟨x, H1, I1, r1, q1⟩ => PyProof.Rows.args_nil ?_) na) na rfl))
  obtain ⟨l, ss, e1, hl, sm, q1⟩ := q1
  subst e1
  obtain rfl : v = Value.ref l := r1
  obtain ⟨its, rv, pl, hz⟩ := I1.list (SqL.of hl)
  have hlen := rv.length
  rw [List.length_map] at hlen
  refine set_list (I1.ok.hd hc) pl.isList (by simpa using vals_sK rv) (by rw [List.size_toArray, ← hlen]; unfold scanBound; omega) fun g tk so kp => PyProof.Rows.args_nil ?_
  obtain ⟨o, es, ep, t, ho, hex, hd, _, _, _, hf, hn⟩ := so
  have I2 : Inv X pins σ H1 { s1 with heap := g, toks := tk } := I1.kept fun b o e => kp b o (Heap.lt_size e) e
  have hle := dst_le (sK ss)
  have hk : (sK ss).length = ss.length := by
    unfold sK
    exact List.length_map ..
  refine call_len_set ho hex hd hf (by rw [hn]; omega) ⟨.int (dst (sK ss)).length, H1, I2.tok _, ⟨_, by rw [hn]⟩, q1⟩
/-! ### len(dict(a tuple of pairs)) -/
def kvsP (bs : List PB) : List (Key × V) := bs.map fun b => (Sum.inr b.2.1, .int b.2.2)
theorem putK_keys (acc : List (Key × V)) (k : Key) (v : V) : (putK acc k v).map (·.1) = if hasK k (acc.map (·.1)) = true then acc.map (·.1) else acc.map (·.1) ++ [k] := by
  unfold putK hasK
  rw [List.any_map]
  show ((if (acc.any fun kv => decide (kv.1 = k)) = true then _ else _) : List (Key × V)).map (·.1) = if (acc.any fun kv => decide (kv.1 = k)) = true then _ else _
  split
  · rw [List.map_map]
    refine List.map_congr_left fun p _ => ?_; skip
    show (if p.1 = k then (p.1, v) else p).1 = p.1
    split <;> rfl
  · rw [List.map_append]
    rfl
theorem merge_keys : ∀ (more acc : List (Key × V)), (mergeK acc more).map (·.1) = (more.map (·.1)).foldl (fun acc x => if hasK x acc = true then acc else acc ++ [x]) (acc.map (·.1))
  | [], _ => rfl
  | p :: r, acc => by
    show (mergeK (putK acc p.1 p.2) r).map (·.1) = _
    rw [merge_keys r, putK_keys]
    rfl
theorem merge_len (bs : List PB) : (mergeK [] (kvsP bs)).length = (dst (sK (bs.map (·.2.1)))).length := by
  rw [← List.length_map (f := (·.1)), merge_keys]
  have e : (kvsP bs).map (·.1) = sK (bs.map (·.2.1)) := by
    unfold kvsP sK
    rw [List.map_map, List.map_map]; skip
    rfl
  rw [e]
  rfl
theorem prs_at {pins : List (Addr × Obj)} {σ : L2.St} {H : Hp} {s : Shared} {m : Bool} {z : Addr} (I : Inv X pins σ H s) : ∀ {bs : List PB} {us : List Value}, Prs m z H bs → Vals (bs.map (·.1)) us →
    ∃ (Ts : List Addr) (ps : List (Value × Value)), us = Ts.map Value.ref ∧ ps.length = Ts.length ∧ KV (kvsP bs) ((ps.zip bs).map fun q => ((Sum.inr q.2.2.1 : Key), q.1.2)) ∧ bs.length = Ts.length ∧
      ∀ (j : Nat) (k v : Value), ps[j]? = some (k, v) → ∃ (t : Addr) (b : PB), Ts[j]? = some t ∧ bs[j]? = some b ∧ IsTup s.heap t #[k, v] ∧ RelV (.str b.2.1) k ∧ RelV (.int b.2.2) v
  | [], us, _, r => by
    cases r
    exact ⟨[], [], rfl, rfl, .nil, rfl, fun j k v e => by simp at e⟩
  | b :: bs, us, hp, r => by
    cases r with
    | cons r0 rr =>
      rename_i u us
      obtain ⟨Ts, ps, e1, e2, e3, e4, e5⟩ := prs_at I (fun c hc => hp c (List.mem_cons_of_mem _ hc)) rr
      have hb := hp b List.mem_cons_self
      obtain ⟨bv, nm, n⟩ := b
      have hb' : Dv m z H true bv (.tuple [.str nm, .int n]) := hb
      cases hb' with
      | @tup _ a xs _ ne ht tt =>
        cases tt with
        | cons d1 t2 =>
          cases t2 with
          | cons d2 t3 =>
            cases t3
            cases d1
            cases d2
            obtain rfl : u = Value.ref a := r0
            obtain ⟨_, its, rv, it⟩ := ht.obj I
            obtain ⟨k, v, ei, rk, rv2⟩ := vals2 rv
            subst ei
            refine ⟨a :: Ts, (k, v) :: ps, by rw [e1]; rfl, by rw [List.length_cons, List.length_cons, e2], .cons ⟨rfl, rv2⟩ e3, by rw [List.length_cons, List.length_cons, e4], fun j k' v' e => ?_⟩
            cases j with
            | zero =>
              simp at e
              obtain ⟨rfl, rfl⟩ := e
              exact ⟨a, (.ref a, nm, n), rfl, rfl, it, rk, rv2⟩
            | succ j =>
              obtain ⟨t, b, h1, h2, h3⟩ := e5 j k' v' (by simpa using e)
              exact ⟨t, b, by simpa using h1, by simpa using h2, h3⟩
def tLenDict (te : TE) : TE := fun σ H Q => te σ H fun v H1 => ∃ (m : Bool) (z a : Addr) (bs : List PB) (o : Obj), v = .ref a ∧ H1 a = some (.frz o (.tup (bs.map (·.1)))) ∧ o.dict = none ∧ Prs m z H1 bs ∧ ∀ p u, H1 p = none → Q (.int (dst (sK (bs.map (·.2.1)))).length) (upd H1 p u)
theorem zip_at {α β : Type} : ∀ {l : List α} {r : List β} {j : Nat} {x : α} {y : β}, l[j]? = some x → r[j]? = some y → (l.zip r)[j]? = some (x, y)
  | [], _, _, _, _, h, _ => absurd h (by simp)
  | _ :: _, [], _, _, _, _, h => absurd h (by simp)
  | a :: l, b :: r, 0, x, y, h1, h2 => by
    simp at h1 h2
    rw [h1, h2]
    rfl
  | a :: l, b :: r, j + 1, x, y, h1, h2 => by
    have h := zip_at (l := l) (r := r) (j := j) (x := x) (y := y) (by simpa using h1) (by simpa using h2)
    simpa using h
theorem pe_lenDict {a : Expr} {te : TE} {p p2 q pos : Pos} (hc : X.calm = true) (hg : Gl X "len") (hm : X.mg "len" = none) (hg2 : Gl X "dict") (hm2 : X.mg "dict" = none) (ha : PE X a te)
    (na : starEach [a] X.env = (false, eval a X.env) :: starEach [] X.env := by rfl) : PE X (.Call (.Name "len" p) [.Call (.Name "dict" p2) [a] [] q] [] pos) (tLenDict te) := by
  refine ⟨fun pins s σ H Q I h => Call_ (ld_blt I hg hm boot_len (PyProof.Rows.callWith_builtin1 (PyProof.Rows.args_cons ?_ rfl) rfl rfl))⟩
  refine Call_ (ld_blt I hg2 hm2 (show bootBuiltins "dict" = some (.type "dict") by decide +kernel) (PyProof.Rows.callWith_type1 (PyProof.Rows.args_cons (thn (ha.run pins s σ H _ I h) fun v s1 ⟨x, H1, I1, r1, q1⟩ => PyProof.Rows.args_nil ?_) na) na rfl))
  obtain ⟨m, z, a, bs, o, e1, ht, hd, hp, q1⟩ := q1
  subst e1
  obtain rfl : v = Value.ref a := r1; skip
  obtain ⟨e0, hz, its, rv, o', eo, hcl, n, hdat⟩ := I1.hok a _ ht
  rw [e0] at eo
  cases eo
  obtain ⟨Ts, ps, eu, l1, rel, l2, hps⟩ := prs_at I1 hp rv
  subst eu
  have lps : ps.length = bs.length := by omega
  rw [List.length_map] at hz
  refine PySem.call_dict_pairs (knd := mixKind X.prog X.w) (kvs := (ps.zip bs).map fun q => ((Sum.inr q.2.2.1 : Key), q.1.2)) (PairArg.tuple (prog := X.prog) (w := X.w) a (Ts.map Value.ref).toArray (fun j => Ts.getD j 0) ps) (I1.ok.hd hc) ⟨⟨o, n, e0, hcl, hd, hdat⟩, ?_, fun j k v e => ?_⟩ ⟨?_, fun j k v e => ?_⟩ (by omega) fun g tk hD kp => PyProof.Rows.args_nil ?_
  · rw [List.size_toArray, List.length_map]
    exact l1.symm
  · obtain ⟨t, b, h1, h2, h3, _, _⟩ := hps j k v e
    refine ⟨by simp [h1], .inl ?_⟩
    have et : Ts.getD j 0 = t := by
      rw [List.getD_eq_getElem?_getD, h1]
      rfl
    show s1.heap.IsTuple (Ts.getD j 0) #[k, v]
    rw [et]
    exact h3
  · rw [List.length_map, List.length_zip]
    omega
  · obtain ⟨t, b, h1, h2, h3, rk, rv2⟩ := hps j k v e
    obtain ⟨tk, ek⟩ := rk
    subst ek
    refine ⟨Sum.inr b.2.1, ?_, keyIs_str b.2.1 tk⟩
    rw [List.getElem?_map, zip_at (show ps[j]? = some (_, v) from e) h2]
    rfl
  · have hm : (s1.heap.objs.size == sysModules) = false := beq_eq_false_iff_ne.mpr (Nat.ne_of_gt I1.big)
    have hk : (kvsP bs).length = bs.length := by
      unfold kvsP
      exact List.length_map ..
    have hlen : (mergeK [] (kvsP bs)).length ≤ sizeLine := by
      refine Nat.le_trans (length_mergeK _ _) ?_
      rw [List.length_nil, hk]
      omega
    have new : H1 s1.heap.objs.size = none := I1.hok.fresh (Nat.le_refl _)
    have I2 : Inv X pins σ (upd H1 s1.heap.objs.size (.dK (mergeK [] (kvsP bs)))) { s1 with heap := g, toks := tk } :=
      I1.laid (t' := tk) (fun b o e => kp b o (by simp) e) (Nat.le_refl _) (show ObjOk X.prog X.w _ _ _ (.dK (mergeK [] (kvsP bs))) from ⟨hlen, hm, _, KV.merge rel .nil, hD⟩)
    refine d_len I2 (.inl upd_same) fun t s' I3 => ⟨.int (dst (sK (bs.map (·.2.1)))).length, _, I3, ⟨t, by rw [merge_len]⟩, q1 _ _ new⟩
end
end Pl

namespace Pl
open L2 PySem PySem.Spec PyProof.Rows
/-! ### the mathematics: what is a deed -/
def LET : Str := "abcdefghijklmnopqrstuvwxyz"
def isNum : PyData → Bool
  | .int _ => true
  | _ => false
def within (d : PyData) (lo hi : Int) : Bool := match d with
  | .int i => decide (lo ≤ i) && decide (i ≤ hi)
  | _ => false
def isName : PyData → Bool
  | .str x => decide (1 ≤ (x.length : Int)) && decide ((x.length : Int) ≤ 4) && x.cps.toList.all fun c => decide (c ∈ LET.cps.toList)
  | _ => false
def isPair : PyData → Bool
  | .tuple [a, b] => isName a && within b 0 99
  | _ => false
/-- the text of a name, of a pair -/
def txt : PyData → Str
  | .str x => x
  | _ => LET
def nmOf : PyData → Str
  | .tuple (a :: _) => txt a
  | _ => LET
def arePairs : PyData → Bool
  | .tuple ps => decide (ps.length ≤ 4) && ps.all isPair && decide ((dst (sK (ps.map nmOf))).length = ps.length)
  | _ => false
def f2 (g h : PyData → Bool) : List PyData → Bool
  | [a, b] => g a && h b
  | _ => false
def f1 (g : PyData → Bool) : List PyData → Bool
  | [a] => g a
  | _ => false
abbrev pKey : PyData → Bool := fun d => within d 0 9
abbrev pVal : PyData → Bool := fun d => within d 0 99
abbrev pMom : PyData → Bool := fun d => within d 1 999
/-- of these words the rest of a deed is asked so -/
def formP (x : Str) : Option (List PyData → Bool) :=
  if x = "put" then some (f2 pKey arePairs) else if x = "strike" then some (f1 pKey) else if x = "add" then some (f2 isName pVal) else if x = "drop" then some (f1 isName) else if x = "rename" then some (f2 isName isName) else none
def isParts (w : PyData) (ps : List PyData) : Bool := match w with
  | .str x => (match formP x with
    | some f => f ps
    | none => false)
  | _ => false
def isDeed : PyData → Bool
  | .tuple (m :: w :: p :: r) => within m 1 999 && isParts w (p :: r)
  | _ => false
/-! ### the text by places -/
def top (i : Nat) : Stmt := PySem.Challenge.pw_plainstore_k01_deeds_and_names.main.body.getD i (.Pass ⟨0, 0, 0, 0⟩)
abbrev sIsNumber : Stmt := top 8
abbrev sIsWithin : Stmt := top 9
abbrev sIsMoment : Stmt := top 10
abbrev sIsKey : Stmt := top 11
abbrev sIsValue : Stmt := top 12
abbrev sIsName : Stmt := top 18
abbrev sIsDeed : Stmt := top 19
abbrev sIsAlter : Stmt := top 20
abbrev sKeyOf : Stmt := top 21
abbrev sInOrder : Stmt := top 22
abbrev sCheck : Stmt := top 23
abbrev sIsPut : Stmt := top 24
abbrev sIsStrike : Stmt := top 25
abbrev sIsAdd : Stmt := top 26
abbrev sIsDrop : Stmt := top 27
abbrev sIsRename : Stmt := top 28
abbrev sArePairs : Stmt := top 29
abbrev sIsPair : Stmt := top 30
/-- what the top has left of constants and built-ins -/
structure Cst (K : PySem.W.Frag) (mg : Str → Option Value) : Prop where
  isi : mg "isinstance" = none
  len : mg "len" = none
  all : mg "all" = none
  set : mg "set" = none
  tint : mg "int" = none
  tbool : mg "bool" = none
  tstr : mg "str" = none
  ttup : mg "tuple" = none
  srt : mg "sorted" = none
  first : ∃ t, mg "FIRST_MOMENT" = some (.int 1 t)
  last : ∃ t, mg "LAST_MOMENT" = some (.int 999 t)
  lastv : ∃ t, mg "LAST_VALUE" = some (.int 99 t)
  longest : ∃ t, mg "LONGEST_NAME" = some (.int 4 t)
  most : ∃ t, mg "MOST_PAIRS" = some (.int 4 t)
  letters : ∃ t, mg "LETTERS" = some (.str LET t)
/-- a value's kind -/
def kindOf : PyData → String
  | .none => "NoneType"
  | .bool _ => "bool"
  | .int _ => "int"
  | .str _ => "str"
  | .list _ => "list"
  | .tuple _ => "tuple"
  | .dict _ => "dict"
theorem TupAt.ty {K : PySem.W.Frag} {H : Hp} {k : Bool} {a : Addr} {xs : List V} (h : TupAt H k a xs) : TyX K H (.ref a) (.type "tuple") := by
  cases h with
  | frz h d => exact .fTuple h
  | big h l => exact .base (.tup h)
  | any h => exact .base (.tup h)
theorem Dv.ty {K : PySem.W.Frag} {m : Bool} {z : Addr} {H : Hp} {k : Bool} {v : V} {d : PyData} (h : Dv m z H k v d) : TyX K H v (.type (kindOf d)) := by
  cases h with
  | non => exact .base .non
  | bl b => exact .base (.bl b)
  | int i => exact .base (.int i)
  | str x => exact .base (.str x)
  | lst hm ne h t => exact .base (.lst h)
  | tup ne h t => exact h.ty
  | dct hm ne h => exact .base (.dK h)
/-- a predicate of any data -/
def spP (f : PyData → Bool) : Sp := fun vs H Q _ => ∃ (m : Bool) (z : Addr) (k : Bool) (v : V) (d : PyData), vs = [v] ∧ Dv m z H k v d ∧ d.weight ≤ 1000 ∧ ∀ H', Same H H' → Q (.bl (f d)) H'
section
variable {P : Program} {K : PySem.W.Frag} {w : World} {base : Heap} {mg : Str → Option Value}
theorem scIsNumber : FnScope ["value"] ["value"] (defScope sIsNumber) := ⟨rfl, rfl, rfl, by decide +kernel, rfl, by decide +kernel, by decide +kernel⟩
def isIB : PyData → Bool
  | .int _ => true
  | .bool _ => true
  | _ => false
theorem kit_int : ∀ d : PyData, PySem.W.kitOne K (.type (kindOf d)) (.type "int") = some (isIB d)
  | .none  => kit_ty (show kitB "NoneType" "int" = some false from by decide +kernel)
  | .bool _ => kit_ty (show kitB "bool" "int" = some true from by decide +kernel)
  | .int _ => kit_ty (show kitB "int" "int" = some true from by decide +kernel)
  | .str _ => kit_ty (show kitB "str" "int" = some false from by decide +kernel)
  | .list _ => kit_ty (show kitB "list" "int" = some false from by decide +kernel)
  | .tuple _ => kit_ty (show kitB "tuple" "int" = some false from by decide +kernel)
  | .dict _ => kit_ty (show kitB "dict" "int" = some false from by decide +kernel)
def isB : PyData → Bool
  | .bool _ => true
  | _ => false
theorem kit_bool : ∀ d : PyData, PySem.W.kitOne K (.type (kindOf d)) (.type "bool") = some (isB d)
  | .none  => kit_ty (show kitB "NoneType" "bool" = some false from by decide +kernel)
  | .bool _ => kit_ty (show kitB "bool" "bool" = some true from by decide +kernel)
  | .int _ => kit_ty (show kitB "int" "bool" = some false from by decide +kernel)
  | .str _ => kit_ty (show kitB "str" "bool" = some false from by decide +kernel)
  | .list _ => kit_ty (show kitB "list" "bool" = some false from by decide +kernel)
  | .tuple _ => kit_ty (show kitB "tuple" "bool" = some false from by decide +kernel)
  | .dict _ => kit_ty (show kitB "dict" "bool" = some false from by decide +kernel)
def isS : PyData → Bool
  | .str _ => true
  | _ => false
theorem kit_str : ∀ d : PyData, PySem.W.kitOne K (.type (kindOf d)) (.type "str") = some (isS d)
  | .none  => kit_ty (show kitB "NoneType" "str" = some false from by decide +kernel)
  | .bool _ => kit_ty (show kitB "bool" "str" = some false from by decide +kernel)
  | .int _ => kit_ty (show kitB "int" "str" = some false from by decide +kernel)
  | .str _ => kit_ty (show kitB "str" "str" = some true from by decide +kernel)
  | .list _ => kit_ty (show kitB "list" "str" = some false from by decide +kernel)
  | .tuple _ => kit_ty (show kitB "tuple" "str" = some false from by decide +kernel)
  | .dict _ => kit_ty (show kitB "dict" "str" = some false from by decide +kernel)
def isT : PyData → Bool
  | .tuple _ => true
  | _ => false
theorem kit_tup : ∀ d : PyData, PySem.W.kitOne K (.type (kindOf d)) (.type "tuple") = some (isT d)
  | .none  => kit_ty (show kitB "NoneType" "tuple" = some false from by decide +kernel)
  | .bool _ => kit_ty (show kitB "bool" "tuple" = some false from by decide +kernel)
  | .int _ => kit_ty (show kitB "int" "tuple" = some false from by decide +kernel)
  | .str _ => kit_ty (show kitB "str" "tuple" = some false from by decide +kernel)
  | .list _ => kit_ty (show kitB "list" "tuple" = some false from by decide +kernel)
  | .tuple _ => kit_ty (show kitB "tuple" "tuple" = some true from by decide +kernel)
  | .dict _ => kit_ty (show kitB "dict" "tuple" = some false from by decide +kernel)
theorem ok_number {f : Addr} {fd : FuncData} (F : Fun K "is_number" "is_number" sIsNumber f fd) (T : Cst K mg) : FnOk P w K mg base CX0 1 f fd ["value"] (spP isNum) := by
  refine F.ok scIsNumber (fun vs H Q E h => ?_) (fun cdv A outer s H vs Q E hr h => ?_)
  · obtain ⟨m, z, k, v, d, rfl, _⟩ := h
    rfl
  · obtain ⟨m, z, k, v, d, rfl, hd, hw, q⟩ := h
    refine ⟨_, pss_one (ps_ret (pe_and (pe_callB call_isi (by rfl) T.isi (by decide +kernel) (pa_cons (pv 0) (pa_cons (pe_bltn (v := .ty "int") (by rfl) T.tint (by decide +kernel) rfl) pa_nil)))
      (pe_one (pe_not (pe_callB call_isi (by rfl) T.isi (by decide +kernel) (pa_cons (pv 0) (pa_cons (pe_bltn (v := .ty "bool") (by rfl) T.tbool (by decide +kernel) rfl) pa_nil))))))), ?_⟩
    refine ⟨_, rfl, v, _, _, _, _, rfl, .ty _, hd.ty, kit_int d, _, rfl, ?_⟩
    have key : ∀ b, isNum d = b → Q (.bl b) H := fun b e => by
      rw [← e]
      exact q _ (Same.refl _)
    refine ite2 (fun e => ?_) fun e => key _ ?_
    · refine ⟨_, rfl, v, _, _, _, _, rfl, .ty _, hd.ty, kit_bool d, _, rfl, key _ ?_⟩
      cases d <;> first | rfl | cases e
    · cases d <;> first | rfl | exact absurd rfl e
theorem scIsWithin : FnScope ["value", "least", "most"] ["value", "least", "most"] (defScope sIsWithin) := ⟨rfl, rfl, rfl, by decide +kernel, rfl, by decide +kernel, by decide +kernel⟩
def spW : Sp := fun vs H Q _ => ∃ (m : Bool) (z : Addr) (k : Bool) (v : V) (d : PyData) (lo hi : Int), vs = [v, .int lo, .int hi] ∧ Dv m z H k v d ∧ d.weight ≤ 1000 ∧ ∀ H', Same H H' → Q (.bl (within d lo hi)) H'
/-- a def of the text as its callers see it -/
structure Df (P : Program) (w : World) (K : PySem.W.Frag) (mg : Str → Option Value) (base : Heap) (k : Nat) (x : Str) (ps : List Str) (sp : Sp) : Prop where
  ex : ∃ (f : Addr) (fd : FuncData), FnOk P w K mg base CX0 k f fd ps sp ∧ mg x = some (.ref f) ∧ PySem.W.keepIn K (.ref f) = true ∧ Binds K fd ps []
theorem isNum_inv {d : PyData} (h : isNum d = true) : ∃ i, d = .int i := by
  cases d <;> first | exact ⟨_, rfl⟩ | cases h
theorem within_no {d : PyData} {lo hi : Int} (h : isNum d = false) : within d lo hi = false := by
  cases d <;> first | rfl | cases h
theorem ok_within {f : Addr} {fd : FuncData} (F : Fun K "is_within" "is_within" sIsWithin f fd) (D : Df P w K mg base 1 "is_number" ["value"] (spP isNum)) : FnOk P w K mg base CX0 2 f fd ["value", "least", "most"] spW := by
  obtain ⟨fN, fdN, GN, mN, kN, bN⟩ := D.ex
  refine F.ok scIsWithin (fun vs H Q E h => ?_) (fun cdv A outer s H vs Q E hr h => ?_)
  · obtain ⟨m, z, k, v, d, lo, hi, rfl, _⟩ := h
    rfl
  · obtain ⟨m, z, k, v, d, lo, hi, rfl, hd, hw, q⟩ := h
    refine ⟨_, pss_one (ps_ret (pe_and (pe_call GN hr (by rfl) mN kN bN .nil pass0 (pa_cons (pv 0) pa_nil)) (pe_one (pe_chain op_le op_le (pv 1) (pv 0) (pv 2))))), ?_⟩
    refine ⟨v, rfl, m, z, k, v, d, rfl, hd, hw, fun H' s1 => ⟨_, rfl, ?_⟩⟩
    refine ite2 (fun e => ?_) fun e => ?_
    · obtain ⟨i, rfl⟩ := isNum_inv e
      cases hd
      refine ⟨_, rfl, _, rfl, _, _, rfl, rfl, _, rfl, ?_⟩; skip
      refine ite2 (fun e => ?_) fun e => ?_
      · refine ⟨_, rfl, _, _, rfl, rfl, ?_⟩
        have q2 : Q (.bl (decide (lo ≤ i) && decide (i ≤ hi))) H' := q _ s1
        rw [show decide (lo ≤ i) = true from e, Bool.true_and] at q2
        exact q2
      · have q2 : Q (.bl (decide (lo ≤ i) && decide (i ≤ hi))) H' := q _ s1
        rw [show decide (lo ≤ i) = false from Bool.eq_false_iff.mpr e, Bool.false_and] at q2
        exact q2
    · have q2 := q _ s1
      rw [within_no (Bool.eq_false_iff.mpr e)] at q2
      exact q2
end
end Pl

namespace Pl
open L2 PySem PySem.Spec PyProof.Rows
section
variable {P : Program} {K : PySem.W.Frag} {w : World} {base : Heap} {mg : Str → Option Value}
theorem sc1 {st : Stmt} (h : FnScope ["value"] ["value"] (defScope st)) : FnScope ["value"] ["value"] (defScope st) := h
theorem scIsMoment : FnScope ["value"] ["value"] (defScope sIsMoment) := ⟨rfl, rfl, rfl, by decide +kernel, rfl, by decide +kernel, by decide +kernel⟩
theorem ok_moment {f : Addr} {fd : FuncData} (F : Fun K "is_moment" "is_moment" sIsMoment f fd) (T : Cst K mg) (D : Df P w K mg base 2 "is_within" ["value", "least", "most"] spW) : FnOk P w K mg base CX0 3 f fd ["value"] (spP fun d => within d 1 999) := by
  obtain ⟨fN, fdN, GN, mN, kN, bN⟩ := D.ex
  obtain ⟨t1, m1⟩ := T.first
  obtain ⟨t2, m2⟩ := T.last
  refine F.ok scIsMoment (fun vs H Q E h => ?_) (fun cdv A outer s H vs Q E hr h => ?_)
  · obtain ⟨m, z, k, v, d, rfl, _⟩ := h
    rfl
  · obtain ⟨m, z, k, v, d, rfl, hd, hw, q⟩ := h
    exact ⟨_, pss_one (ps_ret (pe_call GN hr (by rfl) mN kN bN .nil pass0 (pa_cons (pv 0) (pa_cons (pe_glob (v := .int 1) (by rfl) m1 ⟨_, rfl⟩) (pa_cons (pe_glob (v := .int 999) (by rfl) m2 ⟨_, rfl⟩) pa_nil))))),
      v, rfl, m, z, k, v, d, 1, 999, rfl, hd, hw, q⟩
theorem scIsValue : FnScope ["value"] ["value"] (defScope sIsValue) := ⟨rfl, rfl, rfl, by decide +kernel, rfl, by decide +kernel, by decide +kernel⟩
theorem ok_value {f : Addr} {fd : FuncData} (F : Fun K "is_value" "is_value" sIsValue f fd) (T : Cst K mg) (D : Df P w K mg base 2 "is_within" ["value", "least", "most"] spW) : FnOk P w K mg base CX0 3 f fd ["value"] (spP fun d => within d 0 99) := by
  obtain ⟨fN, fdN, GN, mN, kN, bN⟩ := D.ex
  obtain ⟨t2, m2⟩ := T.lastv
  refine F.ok scIsValue (fun vs H Q E h => ?_) (fun cdv A outer s H vs Q E hr h => ?_)
  · obtain ⟨m, z, k, v, d, rfl, _⟩ := h
    rfl
  · obtain ⟨m, z, k, v, d, rfl, hd, hw, q⟩ := h
    exact ⟨_, pss_one (ps_ret (pe_call GN hr (by rfl) mN kN bN .nil pass0 (pa_cons (pv 0) (pa_cons pe_int (pa_cons (pe_glob (v := .int 99) (by rfl) m2 ⟨_, rfl⟩) pa_nil))))),
      v, rfl, m, z, k, v, d, 0, 99, rfl, hd, hw, q⟩
theorem scIsKey : FnScope ["value"] ["value"] (defScope sIsKey) := ⟨rfl, rfl, rfl, by decide +kernel, rfl, by decide +kernel, by decide +kernel⟩
def keysV : List V := [.int 0, .int 1, .int 2, .int 3, .int 4, .int 5, .int 6, .int 7, .int 8, .int 9]
theorem key_in (i : Int) : inV (.int i) keysV = (decide (0 ≤ i) && decide (i ≤ 9)) := by
  unfold inV keysV
  simp only [List.any_cons, List.any_nil, Bool.or_false, eqV]
  rw [Bool.eq_iff_iff]
  simp only [Bool.or_eq_true, beq_iff_eq, Bool.and_eq_true, decide_eq_true_eq]
  omega
theorem ok_key {f aK : Addr} {fd : FuncData} (F : Fun K "is_key" "is_key" sIsKey f fd) (hK : mg "KEYS" = some (.ref aK)) (sK : ∀ H : Hp, SqT K H aK keysV) (D : Df P w K mg base 1 "is_number" ["value"] (spP isNum)) : FnOk P w K mg base CX0 2 f fd ["value"] (spP fun d => within d 0 9) := by
  obtain ⟨fN, fdN, GN, mN, kN, bN⟩ := D.ex
  refine F.ok scIsKey (fun vs H Q E h => ?_) (fun cdv A outer s H vs Q E hr h => ?_)
  · obtain ⟨m, z, k, v, d, rfl, _⟩ := h
    rfl
  · obtain ⟨m, z, k, v, d, rfl, hd, hw, q⟩ := h
    refine ⟨_, pss_one (ps_ret (pe_and (pe_call GN hr (by rfl) mN kN bN .nil pass0 (pa_cons (pv 0) pa_nil)) (pe_one (pe_cmpR op_in_seq (pv 0) (pe_glob (v := .ref aK) (by rfl) hK rfl) (by rfl))))), ?_⟩
    refine ⟨v, rfl, m, z, k, v, d, rfl, hd, hw, fun H' s1 => ⟨_, rfl, ?_⟩⟩
    refine ite2 (fun e => ?_) fun e => ?_
    · obtain ⟨i, rfl⟩ := isNum_inv e
      cases hd
      have q2 : Q (.bl (decide (0 ≤ i) && decide (i ≤ 9))) H' := q _ s1
      rw [← key_in] at q2
      exact ⟨_, rfl, aK, keysV, rfl, .inr (sK H'), rfl, by decide, q2⟩
    · have q2 : Q (.bl (within d 0 9)) H' := q _ s1
      rw [within_no (Bool.eq_false_iff.mpr e)] at q2
      exact q2
end
end Pl

namespace Pl
open L2 PySem PySem.Spec PyProof.Rows
section
variable {P : Program} {K : PySem.W.Frag} {w : World} {base : Heap} {mg : Str → Option Value}
theorem scIsName : FnScope ["value", "letter"] ["value"] (defScope sIsName) := ⟨rfl, rfl, rfl, by decide +kernel, rfl, by decide +kernel, by decide +kernel⟩
def inL (c : Nat) : Bool := decide (c ∈ LET.cps.toList)
theorem take_snoc {α : Type} {l : List α} {i : Nat} {x : α} (h : l[i]? = some x) : l.take (i + 1) = l.take i ++ [x] := by
  rw [List.take_add_one, h]
  rfl
theorem str_len {x : Str} (h : (PyData.str x).weight ≤ 1000) : x.length ≤ 1000 := by
  simp only [PyData.weight] at h
  exact h
theorem sz1000 {n : Nat} (h : n ≤ 1000) : n ≤ sizeLine := Nat.le_of_lt (small1000 h)
theorem ok_name {f : Addr} {fd : FuncData} (F : Fun K "is_name" "is_name" sIsName f fd) (T : Cst K mg) : FnOk P w K mg base CX0 1 f fd ["value"] (spP isName) := by
  obtain ⟨t1, m1⟩ := T.longest
  obtain ⟨t2, m2⟩ := T.letters
  refine F.ok scIsName (fun vs H Q E h => ?_) (fun cdv A outer s H vs Q E hr h => ?_)
  · obtain ⟨m, z, k, v, d, rfl, _⟩ := h
    rfl
  · obtain ⟨m, z, k, v, d, rfl, hd, hw, q⟩ := h
    refine ⟨_, pss_cons (ps_if (PW.pt (pw_or (pt_not (pt_val (pe_callB call_isi (by rfl) T.isi (by decide +kernel) (pa_cons (pv 0) (pa_cons (pe_bltn (v := .ty "str") (by rfl) T.tstr (by decide +kernel) rfl) pa_nil)))))
        (pw_or1 (pt_not (pt_chain op_le op_le pe_int (pe_callB call_len_str (by rfl) T.len PySem.boot_len (pa_cons (pv 0) pa_nil)) (pe_glob (v := .int 4) (by rfl) m1 ⟨_, rfl⟩))))))
        (pss_one (ps_ret pe_bl)) pss_nil)
      (pss_one (ps_ret (pe_callB (cr_all rfl) (by rfl) T.all (by decide +kernel) (pa_cons (pe_lc (own := [("letter", 1)]) (g := gName 1) (tt := tYes) rfl scIsName.nd (pi_str (pv 0)) (blkOk_by (own := [("letter", 1)]) (N := ["value", "letter"]) (sc := defScope sIsName) (by decide +kernel))
        (fun _ _ _ _ _ => pg_name (i := 1) scIsName.nd rfl (Or.inl rfl)) (fun _ _ _ _ _ => pts_nil)
        (fun _ _ _ _ _ => pe_cmpR op_in_sign (pv 1) (pe_glob (v := .str LET) (by rfl) m2 ⟨_, rfl⟩) (by rfl))) pa_nil)))), ?_⟩
    have no : isName d = false → Q (.bl false) H := fun e => by
      rw [← e]
      exact q _ (Same.refl _)
    refine ⟨_, rfl, v, _, _, _, _, rfl, .ty _, hd.ty, kit_str d, _, rfl, ?_⟩
    cases d with
    | str x =>
      cases hd
      have hx := str_len hw
      refine iteF ?_
      refine ⟨_, rfl, _, rfl, sz1000 hx, _, _, rfl, rfl, _, rfl, ?_⟩
      refine ite2 (fun e1 => ?_) fun e1 => ⟨_, rfl, iteT (no ?_)⟩
      · refine ⟨_, _, rfl, rfl, _, rfl, ?_⟩
        refine ite2 (fun e2 => no ?_) fun e2 => ?_
        · show (decide (1 ≤ (x.length : Int)) && decide ((x.length : Int) ≤ 4) && _) = false
          have e3 : decide ((x.length : Int) ≤ 4) = false := by simpa using e2
          rw [e3, Bool.and_false, Bool.false_and]
        · have e3 : decide ((x.length : Int) ≤ 4) = true := by simpa using e2
          have key : ∀ G, Same H G → Q (.bl (x.cps.toList.all inL)) G := fun G s => by
            have q2 : Q (.bl (decide (1 ≤ (x.length : Int)) && decide ((x.length : Int) ≤ 4) && x.cps.toList.all inL)) G := q G s
            rw [show decide (1 ≤ (x.length : Int)) = true from e1, e3, Bool.true_and, Bool.true_and] at q2
            exact q2
          refine ⟨_, rfl, x, rfl, fun D hD => lc_it walk_str (fun i G => Same H G ∧ G D = some (.lst ((x.cps.toList.take i).map fun c => V.bl (inL c)))) ⟨same_new hD, upd_same⟩ (fun _ _ _ _ => True.intro) ?_ ?_⟩
          · rintro i y G G' hi ⟨s1, s2⟩ ⟨rfl, c, hc, rfl⟩
            have hc' : (x.cps.toList[i]? = some c) := by
              rw [Array.getElem?_toList]
              exact hc
            refine ⟨rfl, ?_⟩
            refine iteT (B := (Same H G' ∧ G' D = some (HO.lst (List.map (fun c => V.bl (inL c)) (List.take (i + 1) x.cps.toList))))) ⟨_, rfl, c, LET, rfl, rfl, _, s2, ?_, fun b o e => ?_, ?_⟩
            · rw [List.length_map, List.length_take]; skip
              exact Nat.lt_of_le_of_lt (Nat.min_le_right _ _) (small1000 hx)
            · rw [upd_ne (ne_of_none e hD)]
              exact s1 b o e
            · rw [upd_same, take_snoc hc', List.map_append]
              rfl
          · rintro G ⟨s1, s2⟩
            have e4 : x.cps.toList.take x.cps.size = x.cps.toList := by
              rw [← Array.length_toList]
              exact List.take_length
            rw [e4] at s2
            refine ⟨D, x.cps.toList.map inL, rfl, SqL.of ?_, ?_⟩
            · rw [s2, List.map_map]
              rfl
            · have q3 := key G s1
              have e5 : (x.cps.toList.map inL).all id = x.cps.toList.all inL := by
                rw [List.all_map]
                rfl
              rw [e5]
              exact q3
      · show (decide (1 ≤ (x.length : Int)) && _ && _) = false
        rw [show decide (1 ≤ (x.length : Int)) = false from Bool.eq_false_iff.mpr e1, Bool.false_and, Bool.false_and]
    | _ =>
      refine iteT ?_
      exact no rfl
end
end Pl

namespace Pl
open L2 PySem PySem.Spec PyProof.Rows
theorem w_mem : ∀ {ds : List PyData} {d : PyData}, d ∈ ds → d.weight ≤ PyData.weightAll ds
  | [], _, h => by cases h
  | e :: ds, d, h => by
    simp only [PyData.weightAll]
    rcases List.mem_cons.mp h with rfl | h; skip
    · omega
    · have := w_mem h
      omega
theorem w_len : ∀ ds : List PyData, ds.length ≤ PyData.weightAll ds
  | [] => Nat.zero_le _
  | d :: ds => by
    have := w_len ds
    simp only [PyData.weightAll, List.length_cons]
    omega
theorem w_tup (ds : List PyData) : (PyData.tuple ds).weight = PyData.weightAll ds := by simp only [PyData.weight]
theorem w_lst (ds : List PyData) : (PyData.list ds).weight = PyData.weightAll ds := by simp only [PyData.weight]
section
variable {m : Bool} {z : Addr} {H : Hp} {k : Bool} {v : V}
theorem Dv.tupD {ds : List PyData} (h : Dv m z H k v (.tuple ds)) : ∃ a xs, v = .ref a ∧ a ≠ z ∧ TupAt H k a xs ∧ DvL m z H true xs ds := by
  cases h with
  | tup ne h t => exact ⟨_, _, rfl, ne, h, t⟩
theorem isPair_len {ds : List PyData} (h : ds.length ≠ 2) : isPair (.tuple ds) = false := by
  match ds, h with
  | [], _ => rfl
  | [_], _ => rfl
  | [_, _], h => exact absurd rfl h
  | _ :: _ :: _ :: _, _ => rfl
theorem isPair_inv {d : PyData} (h : isPair d = true) : ∃ a b, d = .tuple [.str a, .int b] := by
  match d, h with
  | .tuple [a, b], h =>
    have h' : (isName a && within b 0 99) = true := h
    rw [Bool.and_eq_true] at h'
    obtain ⟨h1, h2⟩ := h'
    cases a with
    | str x =>
      cases b with
      | int i => exact ⟨_, _, rfl⟩
      | _ => exact absurd (show false = true from h2) Bool.false_ne_true
    | _ => exact absurd (show false = true from h1) Bool.false_ne_true
end
section
variable {P : Program} {K : PySem.W.Frag} {w : World} {base : Heap} {mg : Str → Option Value}
theorem scIsPair : FnScope ["value"] ["value"] (defScope sIsPair) := ⟨rfl, rfl, rfl, by decide +kernel, rfl, by decide +kernel, by decide +kernel⟩
theorem len2_true {n : Nat} (h : n = 2) : decide (V.int (n : Nat) = V.int 2) = true := by
  subst h
  exact decide_eq_true rfl
theorem intV_eq (a b : Int) : decide (V.int a = V.int b) = decide (a = b) := by
  by_cases h : a = b
  · subst h
    rw [decide_eq_true rfl, decide_eq_true rfl]
  · rw [decide_eq_false h, decide_eq_false fun e => h (V.int.inj e)]
theorem ok_pair {f : Addr} {fd : FuncData} (F : Fun K "_is_pair" "_is_pair" sIsPair f fd) (T : Cst K mg) (DN : Df P w K mg base 1 "is_name" ["value"] (spP isName)) (DV : Df P w K mg base 3 "is_value" ["value"] (spP fun d => within d 0 99)) :
    FnOk P w K mg base CX0 4 f fd ["value"] (spP isPair) := by
  obtain ⟨f1, fd1, G1, m1, k1, b1⟩ := DN.ex
  obtain ⟨f2, fd2, G2, m2, k2, b2⟩ := DV.ex
  refine F.ok scIsPair (fun vs H Q E h => ?_) (fun cdv A outer s H vs Q E hr h => ?_)
  · obtain ⟨m, z, k, v, d, rfl, _⟩ := h
    rfl
  · obtain ⟨m, z, k, v, d, rfl, hd, hw, q⟩ := h
    refine ⟨_, pss_one (ps_ret (pe_and (pe_callB call_isi (by rfl) T.isi (by decide +kernel) (pa_cons (pv 0) (pa_cons (pe_bltn (v := .ty "tuple") (by rfl) T.ttup (by decide +kernel) rfl) pa_nil)))
      (pe_and (pe_cmpR op_eq (pe_callB call_len_seq (by rfl) T.len PySem.boot_len (pa_cons (pv 0) pa_nil)) pe_int (nomark _))
      (pe_and (pe_call G1 (hr.mono (by decide)) (by rfl) m1 k1 b1 .nil pass0 (pa_cons (pe_ix ix_tup (pv 0) pe_int (fun _ _ => rfl)) pa_nil))
      (pe_one (pe_call G2 (hr.mono (by decide)) (by rfl) m2 k2 b2 .nil pass0 (pa_cons (pe_ix ix_tup (pv 0) pe_int (fun _ _ => rfl)) pa_nil))))))), ?_⟩
    have no : ∀ G, Same H G → isPair d = false → Q (.bl false) G := fun G s e => by
      rw [← e]
      exact q _ s
    refine ⟨_, rfl, v, _, _, _, _, rfl, .ty _, hd.ty, kit_tup d, _, rfl, ?_⟩
    cases d with
    | tuple ds =>
      refine iteT ?_
      obtain ⟨a, xs, rfl, ne, ht, hl⟩ := hd.tupD
      rw [w_tup] at hw
      refine ⟨_, rfl, a, xs, rfl, .inr ht.sq, rfl, _, rfl, ?_⟩
      rw [intV_eq]
      refine ite2 (fun e => ?_) fun e => no _ (Same.refl _) (isPair_len fun e2 => e ?_)
      · have e2 : xs.length = 2 := by
          have := of_decide_eq_true e
          omega
        obtain ⟨d1, d2, v1, v2, rfl, rfl, h1, h2⟩ : ∃ d1 d2 v1 v2, ds = [d1, d2] ∧ xs = [v1, v2] ∧ Dv m z H true v1 d1 ∧ Dv m z H true v2 d2 := by
          cases hl with
          | nil => simp at e2
          | cons h1 t1 =>
            cases t1 with
            | nil => simp at e2
            | cons h2 t2 =>
              cases t2 with
              | nil => exact ⟨_, _, _, _, rfl, rfl, h1, h2⟩
              | cons h3 t3 => simp at e2
        refine ⟨_, rfl, a, _, _, v1, rfl, rfl, ht.sq, atI_nat rfl, m, z, true, v1, d1, rfl, h1, Nat.le_trans (w_mem (by simp)) hw, fun G s1 => ⟨_, rfl, ?_⟩⟩
        refine ite2 (fun e3 => ?_) fun e3 => no _ s1 ?_
        · refine ⟨_, rfl, a, _, _, v2, rfl, rfl, (ht.to (But.of (z := z) s1) ne).sq, atI_nat rfl, m, z, true, v2, d2, rfl, Dv.to (But.of s1) _ _ _ h2, Nat.le_trans (w_mem (by simp)) hw, fun G2 s2 => ?_⟩
          have q2 : Q (.bl (isName d1 && within d2 0 99)) G2 := q _ (s1.trans s2)
          rw [show isName d1 = true from e3, Bool.true_and] at q2
          exact q2
        · show (isName d1 && within d2 0 99) = false
          rw [show isName d1 = false from Bool.eq_false_iff.mpr e3, Bool.false_and]
      · have := hl.len
        exact decide_eq_true (by omega); skip
    | _ => exact iteF (no _ (Same.refl _) rfl)
theorem scArePairs : FnScope ["value", "pair"] ["value"] (defScope sArePairs) := ⟨rfl, rfl, rfl, by decide +kernel, rfl, by decide +kernel, by decide +kernel⟩
theorem ok_are {f : Addr} {fd : FuncData} (F : Fun K "_are_pairs" "_are_pairs" sArePairs f fd) (T : Cst K mg) (DN : Df P w K mg base 4 "_is_pair" ["value"] (spP isPair)) :
    FnOk P w K mg base CX0 5 f fd ["value"] (spP arePairs) := by
  obtain ⟨f1, fd1, G1, m1, k1, b1⟩ := DN.ex
  obtain ⟨t2, m2⟩ := T.most
  refine F.ok scArePairs (fun vs H Q E h => ?_) (fun cdv A outer s H vs Q E hr h => ?_)
  · obtain ⟨m, z, k, v, d, rfl, _⟩ := h
    rfl
  · obtain ⟨m, z, k, v, d, rfl, hd, hw, q⟩ := h
    refine ⟨_, pss_cons (ps_if (PW.pt (pw_or (pt_not (pt_val (pe_callB call_isi (by rfl) T.isi (by decide +kernel) (pa_cons (pv 0) (pa_cons (pe_bltn (v := .ty "tuple") (by rfl) T.ttup (by decide +kernel) rfl) pa_nil)))))
        (pw_or1 (pt_cmpR op_gt (pe_callB call_len_seq (by rfl) T.len PySem.boot_len (pa_cons (pv 0) pa_nil)) (pe_glob (v := .int 4) (by rfl) m2 ⟨_, rfl⟩) (nomark _)))))
        (pss_one (ps_ret pe_bl)) pss_nil)
      (pss_cons (ps_if (pt_not (pt_val (pe_callB (cr_all rfl) (by rfl) T.all (by decide +kernel) (pa_cons (pe_lc (own := [("pair", 1)]) (g := gName 1) (tt := tYes) rfl scArePairs.nd (pi_tup (pv 0)) (blkOk_by (own := [("pair", 1)]) (N := ["value", "pair"]) (sc := defScope sArePairs) (by decide +kernel))
          (fun _ _ _ _ _ => pg_name (i := 1) scArePairs.nd rfl (Or.inl rfl)) (fun _ _ _ _ _ => pts_nil)
          (fun _ _ _ _ _ => pe_call G1 hr (by rfl) m1 k1 b1 .nil pass0 (pa_cons (pv 1) pa_nil))) pa_nil))))
        (pss_one (ps_ret pe_bl)) pss_nil)
      (pss_one (ps_ret (pe_cmpR op_eq (pe_lenSetK rfl (by rfl) T.len (by rfl) T.set (pe_lc (own := [("pair", 1)]) (g := gName 1) (tt := tYes) rfl scArePairs.nd (pi_tup (pv 0)) (blkOk_by (own := [("pair", 1)]) (N := ["value", "pair"]) (sc := defScope sArePairs) (by decide +kernel))
          (fun _ _ _ _ _ => pg_name (i := 1) scArePairs.nd rfl (Or.inl rfl)) (fun _ _ _ _ _ => pts_nil)
          (fun _ _ _ _ _ => pe_ix (r := rIxT K) ix_tup (pv 1) pe_int (fun _ _ => rfl))))
        (pe_callB call_len_seq (by rfl) T.len PySem.boot_len (pa_cons (pv 0) pa_nil)) (nomark _))))), ?_⟩
    have no : ∀ G, Same H G → arePairs d = false → Q (.bl false) G := fun G s e => by
      rw [← e]
      exact q _ s
    refine ⟨_, rfl, v, _, _, _, _, rfl, .ty _, hd.ty, kit_tup d, _, rfl, ?_⟩
    cases d with
    | tuple ds =>
      refine iteF ?_
      obtain ⟨a, xs, rfl, ne, ht, hl⟩ := hd.tupD
      rw [w_tup] at hw
      refine ⟨_, rfl, a, xs, rfl, .inr ht.sq, _, _, rfl, rfl, _, rfl, ?_⟩
      have hlen := hl.len
      refine ite2 (fun e1 => no _ (Same.refl _) ?_) fun e1 => ?_
      · have e2 := of_decide_eq_true e1
        show (decide (ds.length ≤ 4) && _ && _) = false
        rw [decide_eq_false (by omega), Bool.false_and, Bool.false_and]
      have e2 : ds.length ≤ 4 := by
        have : ¬ ((4 : Int) < (xs.length : Int)) := fun z => e1 (decide_eq_true z)
        omega
      have sm : ∀ i, i ≤ ds.length → i < sizeLine := fun i hi => small1000 (by omega)
      refine ⟨_, rfl, a, rfl, ⟨_, ht.sq⟩, fun D hD => lc_tup (K := K) (a := a) (xs := xs) (fun i G => Same H G ∧ G D = some (.lst ((ds.take i).map fun d => V.bl (isPair d)))) ⟨same_new hD, upd_same⟩ (fun i G _ ⟨s1, _⟩ => (ht.to (But.of (z := z) s1) ne).sq) ?_ ?_⟩
      · rintro i y G hy ⟨s1, s2⟩
        obtain ⟨d, hd1, hd2⟩ := hl.at' hy
        refine ⟨rfl, ?_⟩
        have hi : i < ds.length := (List.getElem?_eq_some_iff.mp hd1).1
        refine iteT (B := Same H G ∧ G D = some (.lst ((ds.take (i + 1)).map fun d => V.bl (isPair d)))) ⟨_, rfl, m, z, true, y, d, rfl, Dv.to (But.of s1) _ _ _ hd2, Nat.le_trans (w_mem (List.mem_of_getElem? hd1)) hw, fun G2 s3 => ⟨_, s3 _ _ s2, ?_, fun b o e => ?_, ?_⟩⟩
        · rw [List.length_map, List.length_take]; skip
          exact sm _ (Nat.min_le_right _ _)
        · rw [upd_ne (ne_of_none e hD)]
          exact s3 _ _ (s1 b o e)
        · rw [upd_same, take_snoc hd1, List.map_append]
          rfl
      · rintro G ⟨s1, s2⟩
        rw [hlen, List.take_length] at s2
        refine ⟨D, ds.map isPair, rfl, SqL.of (by rw [s2, List.map_map]; rfl), _, rfl, ?_⟩
        refine ite2 (fun e3 => no _ s1 ?_) fun e3 => ?_
        · have e4 : ds.all isPair = false := by
            rw [List.all_map] at e3
            simpa using e3
          show (decide (ds.length ≤ 4) && ds.all isPair && _) = false
          rw [e4, Bool.and_false, Bool.false_and]
        have e4 : ds.all isPair = true := by
          rw [List.all_map] at e3
          simpa using e3
        have hl1 : DvL m z G true xs ds := DvL.to (But.of s1) _ _ _ hl
        have ht1 := ht.to (But.of (z := z) s1) ne
        refine ⟨_, rfl, a, rfl, ⟨_, ht1.sq⟩, fun D2 hD2 => lc_tup (K := K) (a := a) (xs := xs) (fun i F => Same G F ∧ F D2 = some (.lst ((ds.take i).map fun d => V.str (nmOf d)))) ⟨same_new hD2, upd_same⟩ (fun i F _ ⟨s3, _⟩ => (ht1.to (But.of (z := z) s3) ne).sq) ?_ ?_⟩
        · rintro i y F hy ⟨s3, s4⟩
          obtain ⟨d, hd1, hd2⟩ := hl1.at' hy
          refine ⟨rfl, ?_⟩
          obtain ⟨nm, n, rfl⟩ := isPair_inv (List.all_eq_true.mp e4 d (List.mem_of_getElem? hd1))
          obtain ⟨a2, xs2, rfl, ne2, ht2, hl2⟩ := hd2.tupD
          have ht3 := ht2.to (But.of (z := z) s3) ne2
          cases hl2 with
          | cons q1 q2 =>
            cases q1
            refine iteT (B := Same G F ∧ F D2 = some (.lst ((ds.take (i + 1)).map fun d => V.str (nmOf d)))) ⟨_, rfl, a2, _, _, _, rfl, rfl, ht3.sq, atI_nat rfl, _, s4, ?_, fun b o e => ?_, ?_⟩
            · rw [List.length_map, List.length_take]; skip
              exact sm _ (Nat.min_le_right _ _)
            · rw [upd_ne (ne_of_none e hD2)]
              exact s3 b o e
            · rw [upd_same, take_snoc hd1, List.map_append]
              rfl
        · rintro F ⟨s3, s4⟩
          rw [hlen, List.take_length] at s4
          have ht3 := ht1.to (But.of (z := z) s3) ne
          refine ⟨D2, ds.map nmOf, rfl, by rw [s4, List.map_map]; rfl, by rw [List.length_map]; omega, _, rfl, a, xs, rfl, .inr ht3.sq, rfl, ?_⟩
          have q2 : Q (.bl (decide (ds.length ≤ 4) && ds.all isPair && decide ((dst (sK (ds.map nmOf))).length = ds.length))) F := q _ (s1.trans s3)
          rw [decide_eq_true e2, e4, Bool.true_and, Bool.true_and] at q2
          have e5 : decide (V.int ((dst (sK (ds.map nmOf))).length : Nat) = V.int (xs.length : Nat)) = decide ((dst (sK (ds.map nmOf))).length = ds.length) := by
            rw [intV_eq, hlen]
            by_cases h : (dst (sK (ds.map nmOf))).length = ds.length
            · rw [decide_eq_true h, decide_eq_true (by rw [h])]
            · rw [decide_eq_false h, decide_eq_false (by omega)]
          show Q (V.bl (decide (V.int ((dst (sK (ds.map nmOf))).length : Nat) = V.int (xs.length : Nat)))) F
          rw [e5]
          exact q2
    | _ => exact iteT (no _ (Same.refl _) rfl)
end
end Pl

namespace Pl
open L2 PySem PySem.Spec PyProof.Rows
theorem f2_len {g h : PyData → Bool} {ds : List PyData} (e : ds.length ≠ 2) : f2 g h ds = false := by
  match ds, e with
  | [], _ => rfl
  | [_], _ => rfl
  | [_, _], e => exact absurd rfl e
  | _ :: _ :: _ :: _, _ => rfl
theorem f1_len {g : PyData → Bool} {ds : List PyData} (e : ds.length ≠ 1) : f1 g ds = false := by
  match ds, e with
  | [], _ => rfl
  | [_], e => exact absurd rfl e
  | _ :: _ :: _, _ => rfl
/-- a predicate of the rest of a deed -/
def spF (f : List PyData → Bool) : Sp := fun vs H Q _ => ∃ (m : Bool) (z p : Addr) (ys : List V) (ds : List PyData), vs = [.ref p] ∧ H p = some (.lst ys) ∧ DvL m z H true ys ds ∧ PyData.weightAll ds ≤ 1000 ∧ ∀ H', Same H H' → Q (.bl (f ds)) H'
theorem two_of {m : Bool} {z : Addr} {H : Hp} {xs : List V} {ds : List PyData} (hl : DvL m z H true xs ds) (e2 : xs.length = 2) : ∃ d1 d2 v1 v2, ds = [d1, d2] ∧ xs = [v1, v2] ∧ Dv m z H true v1 d1 ∧ Dv m z H true v2 d2 := by
  cases hl with
  | nil => simp at e2
  | cons h1 t1 =>
    cases t1 with
    | nil => simp at e2
    | cons h2 t2 =>
      cases t2 with
      | nil => exact ⟨_, _, _, _, rfl, rfl, h1, h2⟩
      | cons h3 t3 => simp at e2
theorem one_of {m : Bool} {z : Addr} {H : Hp} {xs : List V} {ds : List PyData} (hl : DvL m z H true xs ds) (e2 : xs.length = 1) : ∃ d1 v1, ds = [d1] ∧ xs = [v1] ∧ Dv m z H true v1 d1 := by
  cases hl with
  | nil => simp at e2
  | cons h1 t1 =>
    cases t1 with
    | nil => exact ⟨_, _, rfl, rfl, h1⟩
    | cons h2 t2 => simp at e2
section
variable {P : Program} {K : PySem.W.Frag} {w : World} {base : Heap} {mg : Str → Option Value}

theorem sc_ok_put : FnScope ["parts"] ["parts"] (defScope sIsPut) := ⟨rfl, rfl, rfl, by decide +kernel, rfl, by decide +kernel, by decide +kernel⟩
theorem ok_put {f : Addr} {fd : FuncData} (F : Fun K "_is_put" "_is_put" sIsPut f fd) (T : Cst K mg) (D1 : Df P w K mg base 2 "is_key" ["value"] (spP pKey)) (D2 : Df P w K mg base 5 "_are_pairs" ["value"] (spP arePairs)) :
    FnOk P w K mg base CX0 6 f fd ["parts"] (spF (f2 pKey arePairs)) := by
  obtain ⟨g1, fd1, G1, m1, k1, b1⟩ := D1.ex
  obtain ⟨g2, fd2, G2, m2, k2, b2⟩ := D2.ex
  refine F.ok sc_ok_put (fun vs H Q E h => ?_) (fun cdv A outer s H vs Q E hr h => ?_)
  · obtain ⟨m, z, p, ys, ds, rfl, _⟩ := h
    rfl
  · obtain ⟨m, z, p, ys, ds, rfl, hp, hl, hw, q⟩ := h
    refine ⟨_, pss_one (ps_ret (pe_and (pe_cmpR op_eq (pe_callB call_len_seq (by rfl) T.len PySem.boot_len (pa_cons (pv 0) pa_nil)) pe_int (nomark _))
      (pe_and (pe_call G1 (hr.mono (by decide)) (by rfl) m1 k1 b1 .nil pass0 (pa_cons (pe_ix ix_list (pv 0) pe_int (fun _ _ => rfl)) pa_nil))
      (pe_one (pe_call G2 (hr.mono (by decide)) (by rfl) m2 k2 b2 .nil pass0 (pa_cons (pe_ix ix_list (pv 0) pe_int (fun _ _ => rfl)) pa_nil)))))), ?_⟩
    have no : ∀ G, Same H G → f2 pKey arePairs ds = false → Q (.bl false) G := fun G s e => by
      rw [← e]
      exact q _ s
    refine ⟨_, rfl, p, ys, rfl, .inl (SqL.of hp), rfl, _, rfl, ?_⟩
    rw [intV_eq]
    refine ite2 (fun e => ?_) fun e => no _ (Same.refl _) (f2_len fun e2 => e ?_)
    · have e2 : ys.length = 2 := by
        have := of_decide_eq_true e
        omega
      obtain ⟨d1, d2, v1, v2, rfl, rfl, h1, h2⟩ := two_of hl e2
      refine ⟨_, rfl, p, _, _, v1, rfl, rfl, SqL.of hp, atI_nat rfl, m, z, true, v1, d1, rfl, h1, Nat.le_trans (w_mem (by simp)) hw, fun G s1 => ⟨_, rfl, ?_⟩⟩
      refine ite2 (fun e3 => ?_) fun e3 => no _ s1 ?_
      · refine ⟨_, rfl, p, _, _, v2, rfl, rfl, SqL.of (s1 _ _ hp), atI_nat rfl, m, z, true, v2, d2, rfl, Dv.to (But.of s1) _ _ _ h2, Nat.le_trans (w_mem (by simp)) hw, fun G2 s2 => ?_⟩
        have q2 : Q (.bl (pKey d1 && arePairs d2)) G2 := q _ (s1.trans s2)
        rw [show pKey d1 = true from e3, Bool.true_and] at q2
        exact q2
      · show (pKey d1 && arePairs d2) = false
        rw [show pKey d1 = false from Bool.eq_false_iff.mpr e3, Bool.false_and]
    · have := hl.len
      exact decide_eq_true (by omega); skip

theorem sc_ok_strike : FnScope ["parts"] ["parts"] (defScope sIsStrike) := ⟨rfl, rfl, rfl, by decide +kernel, rfl, by decide +kernel, by decide +kernel⟩
theorem ok_strike {f : Addr} {fd : FuncData} (F : Fun K "_is_strike" "_is_strike" sIsStrike f fd) (T : Cst K mg) (D1 : Df P w K mg base 2 "is_key" ["value"] (spP pKey)) :
    FnOk P w K mg base CX0 3 f fd ["parts"] (spF (f1 pKey)) := by
  obtain ⟨g1, fd1, G1, m1, k1, b1⟩ := D1.ex
  refine F.ok sc_ok_strike (fun vs H Q E h => ?_) (fun cdv A outer s H vs Q E hr h => ?_)
  · obtain ⟨m, z, p, ys, ds, rfl, _⟩ := h
    rfl
  · obtain ⟨m, z, p, ys, ds, rfl, hp, hl, hw, q⟩ := h
    refine ⟨_, pss_one (ps_ret (pe_and (pe_cmpR op_eq (pe_callB call_len_seq (by rfl) T.len PySem.boot_len (pa_cons (pv 0) pa_nil)) pe_int (nomark _))
      (pe_one (pe_call G1 (hr.mono (by decide)) (by rfl) m1 k1 b1 .nil pass0 (pa_cons (pe_ix ix_list (pv 0) pe_int (fun _ _ => rfl)) pa_nil))))), ?_⟩
    have no : ∀ G, Same H G → f1 pKey ds = false → Q (.bl false) G := fun G s e => by
      rw [← e]
      exact q _ s
    refine ⟨_, rfl, p, ys, rfl, .inl (SqL.of hp), rfl, _, rfl, ?_⟩
    rw [intV_eq]
    refine ite2 (fun e => ?_) fun e => no _ (Same.refl _) (f1_len fun e2 => e ?_)
    · have e2 : ys.length = 1 := by
        have := of_decide_eq_true e
        omega
      obtain ⟨d1, v1, rfl, rfl, h1⟩ := one_of hl e2
      exact ⟨_, rfl, p, _, _, v1, rfl, rfl, SqL.of hp, atI_nat rfl, m, z, true, v1, d1, rfl, h1, Nat.le_trans (w_mem (by simp)) hw, fun G s1 => q G s1⟩
    · have := hl.len
      exact decide_eq_true (by omega); skip

theorem sc_ok_add : FnScope ["parts"] ["parts"] (defScope sIsAdd) := ⟨rfl, rfl, rfl, by decide +kernel, rfl, by decide +kernel, by decide +kernel⟩
theorem ok_add {f : Addr} {fd : FuncData} (F : Fun K "_is_add" "_is_add" sIsAdd f fd) (T : Cst K mg) (D1 : Df P w K mg base 1 "is_name" ["value"] (spP isName)) (D2 : Df P w K mg base 3 "is_value" ["value"] (spP pVal)) :
    FnOk P w K mg base CX0 4 f fd ["parts"] (spF (f2 isName pVal)) := by
  obtain ⟨g1, fd1, G1, m1, k1, b1⟩ := D1.ex
  obtain ⟨g2, fd2, G2, m2, k2, b2⟩ := D2.ex
  refine F.ok sc_ok_add (fun vs H Q E h => ?_) (fun cdv A outer s H vs Q E hr h => ?_)
  · obtain ⟨m, z, p, ys, ds, rfl, _⟩ := h
    rfl
  · obtain ⟨m, z, p, ys, ds, rfl, hp, hl, hw, q⟩ := h
    refine ⟨_, pss_one (ps_ret (pe_and (pe_cmpR op_eq (pe_callB call_len_seq (by rfl) T.len PySem.boot_len (pa_cons (pv 0) pa_nil)) pe_int (nomark _))
      (pe_and (pe_call G1 (hr.mono (by decide)) (by rfl) m1 k1 b1 .nil pass0 (pa_cons (pe_ix ix_list (pv 0) pe_int (fun _ _ => rfl)) pa_nil))
      (pe_one (pe_call G2 (hr.mono (by decide)) (by rfl) m2 k2 b2 .nil pass0 (pa_cons (pe_ix ix_list (pv 0) pe_int (fun _ _ => rfl)) pa_nil)))))), ?_⟩
    have no : ∀ G, Same H G → f2 isName pVal ds = false → Q (.bl false) G := fun G s e => by
      rw [← e]
      exact q _ s
    refine ⟨_, rfl, p, ys, rfl, .inl (SqL.of hp), rfl, _, rfl, ?_⟩
    rw [intV_eq]
    refine ite2 (fun e => ?_) fun e => no _ (Same.refl _) (f2_len fun e2 => e ?_)
    · have e2 : ys.length = 2 := by
        have := of_decide_eq_true e
        omega
      obtain ⟨d1, d2, v1, v2, rfl, rfl, h1, h2⟩ := two_of hl e2
      refine ⟨_, rfl, p, _, _, v1, rfl, rfl, SqL.of hp, atI_nat rfl, m, z, true, v1, d1, rfl, h1, Nat.le_trans (w_mem (by simp)) hw, fun G s1 => ⟨_, rfl, ?_⟩⟩
      refine ite2 (fun e3 => ?_) fun e3 => no _ s1 ?_
      · refine ⟨_, rfl, p, _, _, v2, rfl, rfl, SqL.of (s1 _ _ hp), atI_nat rfl, m, z, true, v2, d2, rfl, Dv.to (But.of s1) _ _ _ h2, Nat.le_trans (w_mem (by simp)) hw, fun G2 s2 => ?_⟩
        have q2 : Q (.bl (isName d1 && pVal d2)) G2 := q _ (s1.trans s2)
        rw [show isName d1 = true from e3, Bool.true_and] at q2
        exact q2
      · show (isName d1 && pVal d2) = false
        rw [show isName d1 = false from Bool.eq_false_iff.mpr e3, Bool.false_and]
    · have := hl.len
      exact decide_eq_true (by omega); skip

theorem sc_ok_drop : FnScope ["parts"] ["parts"] (defScope sIsDrop) := ⟨rfl, rfl, rfl, by decide +kernel, rfl, by decide +kernel, by decide +kernel⟩
theorem ok_drop {f : Addr} {fd : FuncData} (F : Fun K "_is_drop" "_is_drop" sIsDrop f fd) (T : Cst K mg) (D1 : Df P w K mg base 1 "is_name" ["value"] (spP isName)) :
    FnOk P w K mg base CX0 2 f fd ["parts"] (spF (f1 isName)) := by
  obtain ⟨g1, fd1, G1, m1, k1, b1⟩ := D1.ex
  refine F.ok sc_ok_drop (fun vs H Q E h => ?_) (fun cdv A outer s H vs Q E hr h => ?_)
  · obtain ⟨m, z, p, ys, ds, rfl, _⟩ := h
    rfl
  · obtain ⟨m, z, p, ys, ds, rfl, hp, hl, hw, q⟩ := h
    refine ⟨_, pss_one (ps_ret (pe_and (pe_cmpR op_eq (pe_callB call_len_seq (by rfl) T.len PySem.boot_len (pa_cons (pv 0) pa_nil)) pe_int (nomark _))
      (pe_one (pe_call G1 (hr.mono (by decide)) (by rfl) m1 k1 b1 .nil pass0 (pa_cons (pe_ix ix_list (pv 0) pe_int (fun _ _ => rfl)) pa_nil))))), ?_⟩
    have no : ∀ G, Same H G → f1 isName ds = false → Q (.bl false) G := fun G s e => by
      rw [← e]
      exact q _ s
    refine ⟨_, rfl, p, ys, rfl, .inl (SqL.of hp), rfl, _, rfl, ?_⟩
    rw [intV_eq]
    refine ite2 (fun e => ?_) fun e => no _ (Same.refl _) (f1_len fun e2 => e ?_)
    · have e2 : ys.length = 1 := by
        have := of_decide_eq_true e
        omega
      obtain ⟨d1, v1, rfl, rfl, h1⟩ := one_of hl e2
      exact ⟨_, rfl, p, _, _, v1, rfl, rfl, SqL.of hp, atI_nat rfl, m, z, true, v1, d1, rfl, h1, Nat.le_trans (w_mem (by simp)) hw, fun G s1 => q G s1⟩
    · have := hl.len
      exact decide_eq_true (by omega); skip

theorem sc_ok_rename : FnScope ["parts"] ["parts"] (defScope sIsRename) := ⟨rfl, rfl, rfl, by decide +kernel, rfl, by decide +kernel, by decide +kernel⟩
theorem ok_rename {f : Addr} {fd : FuncData} (F : Fun K "_is_rename" "_is_rename" sIsRename f fd) (T : Cst K mg) (D1 : Df P w K mg base 1 "is_name" ["value"] (spP isName)) (D2 : Df P w K mg base 1 "is_name" ["value"] (spP isName)) :
    FnOk P w K mg base CX0 2 f fd ["parts"] (spF (f2 isName isName)) := by
  obtain ⟨g1, fd1, G1, m1, k1, b1⟩ := D1.ex
  obtain ⟨g2, fd2, G2, m2, k2, b2⟩ := D2.ex
  refine F.ok sc_ok_rename (fun vs H Q E h => ?_) (fun cdv A outer s H vs Q E hr h => ?_)
  · obtain ⟨m, z, p, ys, ds, rfl, _⟩ := h
    rfl
  · obtain ⟨m, z, p, ys, ds, rfl, hp, hl, hw, q⟩ := h
    refine ⟨_, pss_one (ps_ret (pe_and (pe_cmpR op_eq (pe_callB call_len_seq (by rfl) T.len PySem.boot_len (pa_cons (pv 0) pa_nil)) pe_int (nomark _))
      (pe_and (pe_call G1 (hr.mono (by decide)) (by rfl) m1 k1 b1 .nil pass0 (pa_cons (pe_ix ix_list (pv 0) pe_int (fun _ _ => rfl)) pa_nil))
      (pe_one (pe_call G2 (hr.mono (by decide)) (by rfl) m2 k2 b2 .nil pass0 (pa_cons (pe_ix ix_list (pv 0) pe_int (fun _ _ => rfl)) pa_nil)))))), ?_⟩
    have no : ∀ G, Same H G → f2 isName isName ds = false → Q (.bl false) G := fun G s e => by
      rw [← e]
      exact q _ s
    refine ⟨_, rfl, p, ys, rfl, .inl (SqL.of hp), rfl, _, rfl, ?_⟩
    rw [intV_eq]
    refine ite2 (fun e => ?_) fun e => no _ (Same.refl _) (f2_len fun e2 => e ?_)
    · have e2 : ys.length = 2 := by
        have := of_decide_eq_true e
        omega
      obtain ⟨d1, d2, v1, v2, rfl, rfl, h1, h2⟩ := two_of hl e2
      refine ⟨_, rfl, p, _, _, v1, rfl, rfl, SqL.of hp, atI_nat rfl, m, z, true, v1, d1, rfl, h1, Nat.le_trans (w_mem (by simp)) hw, fun G s1 => ⟨_, rfl, ?_⟩⟩
      refine ite2 (fun e3 => ?_) fun e3 => no _ s1 ?_
      · refine ⟨_, rfl, p, _, _, v2, rfl, rfl, SqL.of (s1 _ _ hp), atI_nat rfl, m, z, true, v2, d2, rfl, Dv.to (But.of s1) _ _ _ h2, Nat.le_trans (w_mem (by simp)) hw, fun G2 s2 => ?_⟩
        have q2 : Q (.bl (isName d1 && isName d2)) G2 := q _ (s1.trans s2)
        rw [show isName d1 = true from e3, Bool.true_and] at q2
        exact q2
      · show (isName d1 && isName d2) = false
        rw [show isName d1 = false from Bool.eq_false_iff.mpr e3, Bool.false_and]
    · have := hl.len
      exact decide_eq_true (by omega); skip
end
end Pl

namespace Pl
open L2 PySem PySem.Spec PyProof.Rows
/-! ### a call of a local name that holds a def -/
def tCallH (Hd : Addr → Sp → Prop) (i : Nat) (t : TA) : TE := fun σ H Q => ∃ f sp, σ[i]? = some (some (.ref f)) ∧ Hd f sp ∧ t σ H fun vs H1 => sp vs H1 Q (fun _ _ _ => False)
section
variable {X : Cx} {k i : Nat} {x : Str} {p pos : Pos} {e : Expr} {es : List Expr} {t : TA}
theorem pe_callH (hr : Room k X.A) (hN : X.N[i]? = some x) (hv : Vis X.env.scope x) (ha : PA X (e :: es) t) (hdb : (x == ("__debug__" : Str)) = false := by decide) (hcd : (x == ("__classdict__" : Str)) = false := by decide)
    (he : starEach (e :: es) X.env = (false, eval e X.env) :: starEach es X.env := by rfl) (hpl : (backTo pos (starEach es X.env)).any (·.1) = false := by rfl) : PE X (.Call (.Name x p) (e :: es) [] pos) (tCallH (Held X.prog X.w X.K X.mg X.base k) i t) := by
  refine ⟨fun pins s σ H Q I h => ?_⟩; skip
  obtain ⟨f, sp, hs, hH, ht⟩ := h
  refine (pe_callA (S := fun g => if g = f then some sp else none) (fun g sq hg => ?_) hr hN hv ha hdb hcd he hpl).run pins s σ H Q I ⟨f, sp, hs, if_pos rfl, ht⟩
  by_cases h : g = f
  · subst h
    rw [if_pos rfl] at hg
    cases hg
    exact hH
  · rw [if_neg h] at hg
    cases hg
end
/-- the table of the forms: where it stands and what it has -/
structure FormsT (K : PySem.W.Frag) (w : World) (mg : Str → Option Value) (d f1 f2 f3 f4 f5 : Addr) : Prop where
  mg_ : mg "FORMS" = some (.ref d)
  kd : ∃ es n, KDict K w d es n
  get : ∀ z : Str, PySem.W.nsIn K d z = some (if z = "put" then some (.ref f1) else if z = "strike" then some (.ref f2) else if z = "add" then some (.ref f3) else if z = "drop" then some (.ref f4) else if z = "rename" then some (.ref f5) else none)
section
variable {P : Program} {w : World} {K : PySem.W.Frag} {mg : Str → Option Value} {base : Heap} {dF g1 g2 g3 g4 g5 : Addr}
theorem form_of (T : FormsT K w mg dF g1 g2 g3 g4 g5) (h1 : Held P w K mg base 6 g1 (spF (f2 pKey arePairs))) (h2 : Held P w K mg base 6 g2 (spF (Pl.f1 pKey))) (h3 : Held P w K mg base 6 g3 (spF (f2 isName pVal))) (h4 : Held P w K mg base 6 g4 (spF (Pl.f1 isName))) (h5 : Held P w K mg base 6 g5 (spF (f2 isName isName))) (x : Str) :
    (formP x = none ∧ PySem.W.nsIn K dF x = some none) ∨ ∃ f g, formP x = some f ∧ PySem.W.nsIn K dF x = some (some (.ref g)) ∧ Held P w K mg base 6 g (spF f) := by
  rw [T.get x]
  unfold formP
  by_cases e1 : x = "put"
  · rw [if_pos e1, if_pos e1]
    exact .inr ⟨_, _, rfl, rfl, h1⟩
  rw [if_neg e1, if_neg e1]
  by_cases e2 : x = "strike"
  · rw [if_pos e2, if_pos e2]
    exact .inr ⟨_, _, rfl, rfl, h2⟩
  rw [if_neg e2, if_neg e2]
  by_cases e3 : x = "add"
  · rw [if_pos e3, if_pos e3]
    exact .inr ⟨_, _, rfl, rfl, h3⟩
  rw [if_neg e3, if_neg e3]
  by_cases e4 : x = "drop"
  · rw [if_pos e4, if_pos e4]
    exact .inr ⟨_, _, rfl, rfl, h4⟩
  rw [if_neg e4, if_neg e4]
  by_cases e5 : x = "rename"
  · rw [if_pos e5, if_pos e5]
    exact .inr ⟨_, _, rfl, rfl, h5⟩
  rw [if_neg e5, if_neg e5]
  exact .inl ⟨rfl, rfl⟩
theorem scIsDeed : FnScope ["value", "moment", "word", "parts", "form"] ["value"] (defScope sIsDeed) := ⟨rfl, rfl, rfl, by decide +kernel, rfl, by decide +kernel, by decide +kernel⟩
theorem isDeed_len {ds : List PyData} (h : ds.length < 3) : isDeed (.tuple ds) = false := by
  match ds, h with
  | [], _ => rfl
  | [_], _ => rfl
  | [_, _], _ => rfl
  | _ :: _ :: _ :: _, h => simp at h; omega
theorem ok_deed {f : Addr} {fd : FuncData} (F : Fun K "is_deed" "is_deed" sIsDeed f fd) (T : Cst K mg) (D1 : Df P w K mg base 3 "is_moment" ["value"] (spP pMom)) (TF : FormsT K w mg dF g1 g2 g3 g4 g5)
    (forms : ∀ x : Str, (formP x = none ∧ PySem.W.nsIn K dF x = some none) ∨ ∃ f g, formP x = some f ∧ PySem.W.nsIn K dF x = some (some (.ref g)) ∧ Held P w K mg base 6 g (spF f)) :
    FnOk P w K mg base CX0 7 f fd ["value"] (spP isDeed) := by
  obtain ⟨e1, fd1, G1, m1, k1, b1⟩ := D1.ex
  obtain ⟨es, n, KD⟩ := TF.kd
  refine F.ok scIsDeed (fun vs H Q E h => ?_) (fun cdv A outer s H vs Q E hr h => ?_)
  · obtain ⟨m, z, k, v, d, rfl, _⟩ := h
    rfl
  · obtain ⟨m, z, k, v, d, rfl, hd, hw, q⟩ := h
    refine ⟨_, pss_cons (ps_if (PW.pt (pw_or (pt_not (pt_val (pe_callB call_isi (by rfl) T.isi (by decide +kernel) (pa_cons (pv 0) (pa_cons (pe_bltn (v := .ty "tuple") (by rfl) T.ttup (by decide +kernel) rfl) pa_nil)))))
        (pw_or1 (pt_cmpR op_lt (pe_callB call_len_seq (by rfl) T.len PySem.boot_len (pa_cons (pv 0) pa_nil)) pe_int (nomark _)))))
        (pss_one (ps_ret pe_bl)) pss_nil)
      (pss_cons (ps_asg (pv 0) (pg_star (k := 2) rfl (pgs_cons (pg_name (i := 1) scIsDeed.nd rfl (.inl rfl)) (pgs_cons (pg_name (i := 2) scIsDeed.nd rfl (.inl rfl)) (pgs_star (pg_name (i := 3) scIsDeed.nd rfl (.inl rfl)) pgs_nil)))))
      (pss_cons (ps_if (PW.pt (pw_or (pt_not (pt_val (pe_call G1 (hr.mono (by decide)) (by rfl) m1 k1 b1 .nil pass0 (pa_cons (pv 1) pa_nil))))
        (pw_or (pt_not (pt_val (pe_callB call_isi (by rfl) T.isi (by decide +kernel) (pa_cons (pv 2) (pa_cons (pe_bltn (v := .ty "str") (by rfl) T.tstr (by decide +kernel) rfl) pa_nil)))))
        (pw_or1 (pt_cmpR (op_notIn_kd KD) (pv 2) (pe_glob (v := .ref dF) (by rfl) TF.mg_ rfl) (by rfl))))))
        (pss_one (ps_ret pe_bl)) pss_nil)
      (pss_cons (ps_set (i := 4) scIsDeed.nd rfl (Or.inl rfl) (pe_ix ix_kdict (pe_glob (v := .ref dF) (by rfl) TF.mg_ rfl) (pv 2) (fun _ _ => rfl)))
      (pss_one (ps_ret (pe_callH (i := 4) hr rfl (Or.inl rfl) (pa_cons (pv 3) pa_nil))))))), ?_⟩
    have no : ∀ G, Same H G → isDeed d = false → Q (.bl false) G := fun G s e => by
      rw [← e]
      exact q _ s
    refine ⟨_, rfl, v, _, _, _, _, rfl, .ty _, hd.ty, kit_tup d, _, rfl, ?_⟩
    cases d with
    | tuple ds =>
      refine iteF ?_
      obtain ⟨a, xs, rfl, ne, ht, hl⟩ := hd.tupD
      rw [w_tup] at hw
      have hlen := hl.len
      refine ⟨_, rfl, a, xs, rfl, .inr ht.sq, _, _, rfl, rfl, _, rfl, ?_⟩
      refine ite2 (fun e1 => no _ (Same.refl _) (isDeed_len ?_)) fun e1 => ?_
      · have e2 := of_decide_eq_true e1
        omega
      have e2 : 3 ≤ ds.length := by
        have : ¬ ((xs.length : Int) < 3) := fun z => e1 (decide_eq_true z)
        omega
      cases hl with
      | nil => simp at e2
      | @cons _ v1 _ d1 _ h1 t1 =>
      cases t1 with
      | nil => simp at e2
      | @cons _ v2 _ d2 _ h2 t2 =>
      cases t2 with
      | nil => simp at e2
      | @cons _ v3 vr d3 dr h3 t3 =>
      refine ⟨_, rfl, a, _, rfl, ht.sq, by simp, fun p hp => ?_⟩
      have s1 : Same H (upd H p (.lst (v3 :: vr))) := same_new hp
      have hw1 : PyData.weightAll (d3 :: dr) ≤ 1000 := by
        simp only [PyData.weightAll] at hw ⊢
        omega
      have hd1 : isDeed (.tuple (d1 :: d2 :: d3 :: dr)) = (pMom d1 && isParts d2 (d3 :: dr)) := rfl
      refine ⟨v1, _, rfl, v2, _, rfl, .ref p, _, rfl, rfl, ?_⟩
      refine ⟨_, rfl, m, z, true, v1, d1, rfl, Dv.to (But.of s1) _ _ _ h1, Nat.le_trans (w_mem (by simp)) hw, fun G s2 => ⟨_, rfl, ?_⟩⟩
      have s3 := s1.trans s2
      refine ite2 (fun e3 => no _ s3 ?_) fun e3 => ?_
      · have e4 : pMom d1 = false := by simpa using e3
        rw [hd1, e4, Bool.false_and]
      have e4 : pMom d1 = true := by simpa using e3
      have h2' : Dv m z G true v2 d2 := Dv.to (But.of s3) _ _ _ h2
      refine ⟨_, rfl, v2, _, _, _, _, rfl, .ty _, h2'.ty, kit_str d2, _, rfl, ?_⟩
      cases d2 with
      | str x =>
        refine iteF ?_
        cases h2
        rcases forms x with ⟨f1, f2⟩ | ⟨f, g, f1, f2, f3⟩
        · refine ⟨_, rfl, x, _, rfl, rfl, f2, _, rfl, iteT (no _ s3 ?_)⟩
          rw [hd1]
          show (pMom d1 && (match formP x with
            | some f => f (d3 :: dr)
            | none => false)) = false
          rw [f1, Bool.and_false]
        · refine ⟨_, rfl, x, _, rfl, rfl, f2, _, rfl, iteF ?_⟩
          refine ⟨_, rfl, dF, x, .ref g, rfl, rfl, ⟨es, n, .ref g, KD.at_, KD.lit, f2, rfl⟩, ?_⟩
          refine ⟨g, _, rfl, f3, _, rfl, m, z, p, _, _, rfl, s2 _ _ upd_same, DvL.to (But.of s3) _ _ _ (.cons h3 t3), hw1, fun G2 s4 => ?_⟩
          have q2 := q G2 (s3.trans s4)
          rw [hd1, e4, Bool.true_and] at q2
          have e5 : isParts (.str x) (d3 :: dr) = f (d3 :: dr) := by
            show (match formP x with
              | some f => f (d3 :: dr)
              | none => false) = _
            rw [f1]
          rw [e5] at q2
          exact q2
      | _ =>
        refine iteT (no _ s3 ?_)
        rw [hd1]
        exact Bool.and_false _
    | _ => exact iteT (no _ (Same.refl _) rfl)
end
end Pl

namespace Pl
open L2 PySem PySem.Spec PyProof.Rows
abbrev sInit : Stmt := inClass (top 2) 0
/-- what the written part says of the error's class: C, made by the def at fI -/
structure ErrT (K : PySem.W.Frag) (mg : Str → Option Value) (C fI : Addr) : Prop where
  ox : OexC K C
  gC : mg "NoDeed" = some (.ref C)
  iC : PySem.W.findIn K (.ref C) "__init__" = some (some (.ref fI))
  tI : PySem.W.typeIn K (.ref fI) = some (.type "function")
  no : PySem.W.findIn K (.ref C) "told" = some none
def spInit (K : PySem.W.Frag) : Sp := fun vs H Q _ => ∃ (a C : Addr) (y : V), vs = [.ref a, y] ∧ OexC K C ∧ PySem.W.findIn K (.ref C) "told" = some none ∧ H a = some (exo a C none) ∧ ∀ dx, H dx = none → dx ≠ a → Q .non (upd (upd H dx (exd dx [("told", y)])) a (exo a C (some dx)))
/-- a def of the text that may raise, as its callers see it -/
structure DfX (P : Program) (w : World) (K : PySem.W.Frag) (mg : Str → Option Value) (base : Heap) (k : Nat) (x : Str) (ps : List Str) (sp : Sp) : Prop where
  ex : ∃ (f : Addr) (fd : FuncData), FnOk P w K mg base (L2.CX P w) k f fd ps sp ∧ mg x = some (.ref f) ∧ PySem.W.keepIn K (.ref f) = true ∧ Binds K fd ps []
/-- NoDeed(v) leaves -/
def Rais (C : Addr) (v : V) (H : Hp) (E : XK) : Prop := ∀ (d : Addr) (H' : Hp), Same H H' → H' d = some (.xd [("told", v)]) → E (.ref C) (some d) H'
/-- any data: right deeds go on, others are refused -/
def spD (C : Addr) (r : PyData → V → Hp → VK → Prop) : Sp := fun vs H Q E => ∃ (m : Bool) (z : Addr) (k : Bool) (v : V) (d : PyData), vs = [v] ∧ (∃ o, H z = some o) ∧ Dv m z H k v d ∧ d.weight ≤ 1000 ∧ (isDeed d = true → r d v H Q) ∧ (isDeed d = false → Rais C v H E)
section
variable {P : Program} {w : World} {K : PySem.W.Frag} {mg : Str → Option Value} {base : Heap} {C fI : Addr}
theorem scInit : FnScope ["self", "told"] ["self", "told"] (defScope sInit) := ⟨rfl, rfl, rfl, by decide +kernel, rfl, by decide +kernel, by decide +kernel⟩
theorem ok_init {f : Addr} {fd : FuncData} (F : Fun K "__init__" "NoDeed.__init__" sInit f fd) : FnOk P w K mg base CX0 1 f fd ["self", "told"] (spInit K) := by
  refine F.ok scInit (fun vs H Q E h => ?_) (fun cdv A outer s H vs Q E hr h => ?_)
  · obtain ⟨a, C, y, rfl, _⟩ := h
    rfl
  · obtain ⟨a, C, y, rfl, T, no, ha, q⟩ := h
    exact ⟨_, pss_one (ps_ost (pv 0) (pv 1)), y, rfl, .ref a, rfl, a, C, rfl, T, no, .inl ⟨ha, q⟩⟩
theorem scCheck : FnScope ["value"] ["value"] (defScope sCheck) := ⟨rfl, rfl, rfl, by decide +kernel, rfl, by decide +kernel, by decide +kernel⟩
theorem exo_not_none {H : Hp} {a : Addr} {o : HO} (h : H a = some o) (n : H a = none) : False := by
  rw [h] at n
  cases n
theorem ok_check {f : Addr} {fd fdI : FuncData} (F : Fun K "_check_deed" "_check_deed" sCheck f fd) (T : ErrT K mg C fI) (GI : FnOk P w K mg base CX0 1 fI fdI ["self", "told"] (spInit K)) (bI : Binds K fdI ["self", "told"] [])
    (D1 : Df P w K mg base 7 "is_deed" ["value"] (spP isDeed)) : FnOk P w K mg base (L2.CX P w) 8 f fd ["value"] (spD C fun _ _ H Q => ∀ H', Same H H' → Q .non H') := by
  obtain ⟨e1, fd1, G1, m1, k1, b1⟩ := D1.ex
  refine F.okX scCheck (fun vs H Q E h => ?_) (fun cdv A outer s H vs Q E hr h => ?_)
  · obtain ⟨m, z, k, v, d, rfl, _⟩ := h
    rfl
  · obtain ⟨m, z, k, v, d, rfl, hz, hd, hw, q1, q2⟩ := h
    refine ⟨_, pss_one (ps_if (pt_not (pt_val (pe_call G1 hr (by rfl) m1 k1 b1 .nil pass0 (pa_cons (pv 0) pa_nil))))
      (pss_one (ps_raise rfl (takes_of rfl rfl rfl rfl) (pmk_oex T.ox T.iC T.tI GI (hr.mono (by decide)) bI .nil pass0 (by rfl) T.gC (pa_cons (pv 0) pa_nil)))) pss_nil), ?_⟩
    refine ⟨v, rfl, m, z, k, v, d, rfl, hd, hw, fun G s1 => ⟨_, rfl, ?_⟩⟩
    refine ite2 (fun e => ?_) fun e => ?_
    · have e2 : isDeed d = false := by simpa using e
      refine ⟨v, rfl, by simp, fun a ha => ?_⟩
      refine ⟨a, C, v, rfl, T.ox, T.no, upd_same, fun dx hdx ne => ⟨rfl, dx, [(("told" : Str), v)], upd_same, ?_, ?_, ?_⟩⟩
      · rw [upd_ne ne, upd_same]
      · rw [upd_ne ne] at hdx
        exact hdx
      · have hdG : G dx = none := by
          rw [upd_ne ne] at hdx
          exact hdx
        refine q2 e2 dx _ (s1.trans fun b o hb => ?_) upd_same
        have n1 : b ≠ dx := ne_of_none hb hdG
        have n2 : b ≠ a := ne_of_none hb ha
        rw [upd_ne n1, del_ne n2, upd_ne n2, upd_ne n1, upd_ne n2]
        exact hb
    · have e2 : isDeed d = true := by simpa using e
      exact q1 e2 G s1
def altV : List V := [.str "add", .str "drop", .str "rename"]
/-- the word of a deed -/
def word : PyData → Str
  | .tuple (_ :: w :: _) => txt w
  | _ => LET
def isAlt (d : PyData) : Bool := inV (.str (word d)) altV
def third : PyData → PyData
  | .tuple (_ :: _ :: p :: _) => p
  | _ => .none
def keyD (d : PyData) : PyData := if isAlt d = true then .none else third d
theorem isDeed_inv {d : PyData} (h : isDeed d = true) : ∃ m x p r f, d = .tuple (m :: .str x :: p :: r) ∧ within m 1 999 = true ∧ formP x = some f ∧ f (p :: r) = true := by
  match d, h with
  | .tuple (m :: w :: p :: r), h =>
    have h' : (within m 1 999 && isParts w (p :: r)) = true := h
    rw [Bool.and_eq_true] at h'
    obtain ⟨h1, h2⟩ := h'
    cases w with
    | str x =>
      have h3 : (match formP x with
        | some f => f (p :: r)
        | none => false) = true := h2
      cases e : formP x with
      | none =>
        rw [e] at h3
        cases h3
      | some f =>
        rw [e] at h3
        exact ⟨m, x, p, r, f, rfl, h1, e, h3⟩
    | _ => exact absurd (show false = true from h2) Bool.false_ne_true
theorem scIsAlter : FnScope ["deed"] ["deed"] (defScope sIsAlter) := ⟨rfl, rfl, rfl, by decide +kernel, rfl, by decide +kernel, by decide +kernel⟩
theorem ok_alter {f aA : Addr} {fd : FuncData} (F : Fun K "is_alter" "is_alter" sIsAlter f fd) (hA : mg "ALTERS" = some (.ref aA)) (sA : ∀ H : Hp, SqT K H aA altV)
    (D1 : DfX P w K mg base 8 "_check_deed" ["value"] (spD C fun _ _ H Q => ∀ H', Same H H' → Q .non H')) : FnOk P w K mg base (L2.CX P w) 9 f fd ["deed"] (spD C fun d _ H Q => ∀ H', Same H H' → Q (.bl (isAlt d)) H') := by
  obtain ⟨e1, fd1, G1, m1, k1, b1⟩ := D1.ex
  refine F.okX scIsAlter (fun vs H Q E h => ?_) (fun cdv A outer s H vs Q E hr h => ?_)
  · obtain ⟨m, z, k, v, d, rfl, _⟩ := h
    rfl
  · obtain ⟨m, z, k, v, d, rfl, hz, hd, hw, q1, q2⟩ := h
    refine ⟨_, pss_cons (ps_expr (pe_call (E := E) G1 hr (by rfl) m1 k1 b1 .nil (passes_call (takes_of rfl rfl rfl rfl) fun _ _ _ _ h => h) (pa_cons (pv 0) pa_nil)))
      (pss_one (ps_ret (pe_cmpR op_in_seq (pe_ix (r := rIxT K) ix_tup (pv 0) pe_int (fun _ _ => rfl)) (pe_glob (v := .ref aA) (by rfl) hA rfl) (by rfl)))), ?_⟩
    refine ⟨v, rfl, m, z, k, v, d, rfl, hz, hd, hw, fun e G s1 => ?_, q2⟩
    obtain ⟨md, x, p, r, f, rfl, _, _, _⟩ := isDeed_inv e
    obtain ⟨a, xs, rfl, ne, ht, hl⟩ := hd.tupD
    cases hl with
    | cons h1 t1 =>
    cases t1 with
    | cons h2 t2 =>
    cases h2
    exact ⟨_, rfl, a, _, _, .str x, rfl, rfl, (ht.to (But.of (z := z) s1) ne).sq, atI_nat rfl, aA, altV, rfl, .inr (sA G), rfl, by decide, q1 e G s1⟩
theorem scKeyOf : FnScope ["deed"] ["deed"] (defScope sKeyOf) := ⟨rfl, rfl, rfl, by decide +kernel, rfl, by decide +kernel, by decide +kernel⟩
theorem ok_keyof {f : Addr} {fd : FuncData} (F : Fun K "key_of" "key_of" sKeyOf f fd)
    (D1 : DfX P w K mg base 9 "is_alter" ["deed"] (spD C fun d _ H Q => ∀ H', Same H H' → Q (.bl (isAlt d)) H')) : FnOk P w K mg base (L2.CX P w) 10 f fd ["deed"] (spD C fun d _ H Q => ∀ m z v' H', Same H H' → Dv m z H' true v' (keyD d) → Q v' H') := by
  obtain ⟨e1, fd1, G1, m1, k1, b1⟩ := D1.ex
  refine F.okX scKeyOf (fun vs H Q E h => ?_) (fun cdv A outer s H vs Q E hr h => ?_)
  · obtain ⟨m, z, k, v, d, rfl, _⟩ := h
    rfl
  · obtain ⟨m, z, k, v, d, rfl, hz, hd, hw, q1, q2⟩ := h
    refine ⟨_, pss_one (ps_ret (pe_ifExp (pt_val (pe_call (E := E) G1 hr (by rfl) m1 k1 b1 .nil (passes_call (takes_of rfl rfl rfl rfl) fun _ _ _ _ h => h) (pa_cons (pv 0) pa_nil))) pe_non (pe_ix (r := rIxT K) ix_tup (pv 0) pe_int (fun _ _ => rfl)))), ?_⟩
    refine ⟨v, rfl, m, z, k, v, d, rfl, hz, hd, hw, fun e G s1 => ⟨_, rfl, ?_⟩, q2⟩
    refine ite2 (fun e3 => ?_) fun e3 => ?_
    · refine q1 e m z .non G s1 ?_
      unfold keyD
      rw [if_pos e3]
      exact .non
    · have q3 := q1 e m z
      unfold keyD at q3
      rw [if_neg e3] at q3
      obtain ⟨md, x, p, r, f, rfl, _, _, _⟩ := isDeed_inv e
      obtain ⟨a, xs, rfl, ne, ht, hl⟩ := hd.tupD
      cases hl with
      | cons h1 t1 =>
      cases t1 with
      | cons h2 t2 =>
      cases t2 with
      | @cons _ v3 _ _ _ h3 t3 =>
      exact ⟨_, rfl, a, _, _, v3, rfl, rfl, (ht.to (But.of (z := z) s1) ne).sq, atI_nat rfl, q3 v3 G s1 (Dv.to (But.of s1) _ _ _ h3)⟩
end
end Pl

namespace Pl
open PySem PySem.Spec PyProof.Rows L2 PySem.W
def valOf : PyData → Int
  | .tuple [_, .int n] => n
  | _ => 0
def prOf (d : PyData) : Str × Int := (nmOf d, valOf d)
def ordP : Str × Int → Str × Int → Bool := dataLe false encP
def itemsOf : PyData → List PyData
  | .tuple ps => ps
  | _ => []
def inOrd4 : PyData → PyData
  | .tuple [m, w, k, p] => .tuple [m, w, k, .tuple ((((itemsOf p).map prOf).mergeSort ordP).map encP)]
  | d => d
def inOrd (d : PyData) : PyData := if word d = "put" then inOrd4 d else d
theorem prs_of {m : Bool} {z : Addr} {H : Hp} : ∀ {ps : List PyData} {xs : List V}, DvL m z H true xs ps → ps.all isPair = true → ∃ bs : List PB, bs.map (·.1) = xs ∧ bs.map (fun b => encP b.2) = ps ∧ Prs m z H bs
  | [], _, h, _ => by
    cases h
    exact ⟨[], rfl, rfl, fun b hb => by cases hb⟩
  | d :: ps, _, h, e => by
    cases h with
    | @cons _ v vs _ _ h1 t1 =>
      rw [List.all_cons, Bool.and_eq_true] at e
      obtain ⟨bs, e1, e2, e3⟩ := prs_of t1 e.2
      obtain ⟨nm, n, rfl⟩ := isPair_inv e.1
      refine ⟨(v, nm, n) :: bs, by rw [List.map_cons, e1], by rw [List.map_cons, e2]; rfl, fun b hb => ?_⟩
      rcases List.mem_cons.mp hb with rfl | hb; skip
      · exact h1
      · exact e3 b hb
theorem dvl_prs {m : Bool} {z : Addr} {H : Hp} : ∀ {bs : List PB}, Prs m z H bs → DvL m z H true (bs.map (·.1)) (bs.map fun b => encP b.2)
  | [], _ => .nil
  | b :: bs, h => .cons (h b List.mem_cons_self) (dvl_prs fun c hc => h c (List.mem_cons_of_mem _ hc))
theorem Prs.sorted {m : Bool} {z : Addr} {H : Hp} {bs : List PB} (h : Prs m z H bs) (r : PB → PB → Bool) : Prs m z H (bs.mergeSort r) := fun b hb => h b (List.mem_mergeSort.mp hb)
theorem Prs.to {m : Bool} {z : Addr} {H G : Hp} {bs : List PB} (h : Prs m z H bs) (k : But z H G) : Prs m z G bs := fun b hb => Dv.to k _ _ _ (h b hb)
theorem prOf_enc (p : Str × Int) : prOf (encP p) = p := rfl
theorem sorted_snd (bs : List PB) : (bs.mergeSort leP).map (·.2) = (bs.map (·.2)).mergeSort ordP := sort_maps (f := Prod.snd) fun a _ b _ => rfl
theorem sorted_enc {bs : List PB} {ps : List PyData} (e : bs.map (fun b => encP b.2) = ps) : (bs.mergeSort leP).map (fun b => encP b.2) = ((ps.map prOf).mergeSort ordP).map encP := by
  have e1 : ps.map prOf = bs.map (·.2) := by
    rw [← e, List.map_map]
    rfl
  rw [e1, ← sorted_snd, List.map_map]
  rfl
section
variable {P : Program} {w : World} {K : PySem.W.Frag} {mg : Str → Option Value} {base : Heap} {C : Addr}
theorem scInOrder : FnScope ["deed", "moment", "word", "key", "pairs"] ["deed"] (defScope sInOrder) := ⟨rfl, rfl, rfl, by decide +kernel, rfl, by decide +kernel, by decide +kernel⟩
theorem form_put : formP "put" = some (f2 pKey arePairs) := by
  unfold formP
  rw [if_pos rfl]
theorem put_inv {p : PyData} {r : List PyData} (h : f2 pKey arePairs (p :: r) = true) : ∃ ps, r = [.tuple ps] ∧ ps.all isPair = true ∧ ps.length ≤ 4 := by
  match r, h with
  | [d], h =>
    have h' : (pKey p && arePairs d) = true := h
    rw [Bool.and_eq_true] at h'
    cases d with
    | tuple ps =>
      have h3 : (decide (ps.length ≤ 4) && ps.all isPair && decide ((dst (sK (ps.map nmOf))).length = ps.length)) = true := h'.2
      rw [Bool.and_eq_true, Bool.and_eq_true] at h3
      exact ⟨ps, rfl, h3.1.2, of_decide_eq_true h3.1.1⟩
    | _ => exact absurd (show false = true from h'.2) Bool.false_ne_true
theorem strV_eq (a b : Str) : decide (V.str a = V.str b) = decide (a = b) := by
  by_cases h : a = b
  · subst h
    rw [decide_eq_true rfl, decide_eq_true rfl]
  · rw [decide_eq_false h, decide_eq_false fun e => h (V.str.inj e)]
theorem ok_inorder {f : Addr} {fd : FuncData} (F : Fun K "in_order" "in_order" sInOrder f fd) (T : Cst K mg)
    (D1 : DfX P w K mg base 8 "_check_deed" ["value"] (spD C fun _ _ H Q => ∀ H', Same H H' → Q .non H')) : FnOk P w K mg base (L2.CX P w) 9 f fd ["deed"] (spD C fun d _ H Q => ∀ m z v' H', Same H H' → Dv m z H' false v' (inOrd d) → Q v' H') := by
  obtain ⟨e1, fd1, G1, m1, k1, b1⟩ := D1.ex
  refine F.okX scInOrder (fun vs H Q E h => ?_) (fun cdv A outer s H vs Q E hr h => ?_)
  · obtain ⟨m, z, k, v, d, rfl, _⟩ := h
    rfl
  · obtain ⟨m, z, k, v, d, rfl, hz, hd, hw, q1, q2⟩ := h
    refine ⟨_, pss_cons (ps_expr (pe_call (E := E) G1 hr (by rfl) m1 k1 b1 .nil (passes_call (takes_of rfl rfl rfl rfl) fun _ _ _ _ h => h) (pa_cons (pv 0) pa_nil)))
      (pss_cons (ps_if (pt_cmpR op_eq (pe_ix (r := rIxT K) ix_tup (pv 0) pe_int (fun _ _ => rfl)) pe_str (nomark _))
        (pss_cons (ps_asg (pv 0) (pg_tup (n := 4) rfl (pgs_cons (pg_name (i := 1) scInOrder.nd rfl (.inl rfl)) (pgs_cons (pg_name (i := 2) scInOrder.nd rfl (.inl rfl)) (pgs_cons (pg_name (i := 3) scInOrder.nd rfl (.inl rfl)) (pgs_cons (pg_name (i := 4) scInOrder.nd rfl (.inl rfl)) pgs_nil))))))
          (pss_one (ps_ret (pe_tup (pa_cons (pv 1) (pa_cons (pv 2) (pa_cons (pv 3) (pa_cons (pe_callTy call_tupF (by rfl) T.ttup (by decide +kernel)
            (pa_cons (pe_callB (cr_sortP (show (A.deeper _).units + 64 < cLine by have := hr.un; omega)) (by rfl) T.srt (by decide +kernel) (pa_cons (pv 4) pa_nil)) pa_nil)) pa_nil))))))))
        pss_nil) (pss_one (ps_ret (pv 0)))), ?_⟩
    refine ⟨v, rfl, m, z, k, v, d, rfl, hz, hd, hw, fun e G s1 => ?_, q2⟩
    have q3 := q1 e m z
    obtain ⟨md, x, p, r, f, rfl, hm, e3, e4⟩ := isDeed_inv e
    obtain ⟨a, xs, rfl, ne, ht, hl⟩ := hd.tupD
    have ht1 := ht.to (But.of (z := z) s1) ne
    have hl1 := DvL.to (But.of s1) _ _ _ hl
    cases hl1 with
    | @cons _ v1 _ _ _ h1 t1 =>
    cases t1 with
    | @cons _ v2 _ _ _ h2 t2 =>
    cases h2
    refine ⟨_, rfl, a, _, _, .str x, rfl, rfl, ht1.sq, atI_nat rfl, rfl, _, rfl, ?_⟩
    rw [strV_eq]
    refine ite2 (fun e5 => ?_) fun e5 => ?_
    · have e6 : x = "put" := of_decide_eq_true e5
      subst e6
      rw [form_put] at e3
      obtain rfl := Option.some.inj e3
      obtain ⟨ps, rfl, e7, e8⟩ := put_inv e4
      cases t2 with
      | @cons _ v3 _ _ _ h3 t3 =>
      cases t3 with
      | @cons _ v4 _ _ _ h4 t4 =>
      cases t4
      obtain ⟨a4, ys, rfl, ne4, ht4, hl4⟩ := h4.tupD
      obtain ⟨bs, eb, ed, hb⟩ := prs_of hl4 e7
      subst eb
      refine ⟨_, rfl, a, _, rfl, ht1.sq, rfl, v1, _, rfl, .str "put", _, rfl, v3, _, rfl, .ref a4, _, rfl, rfl, ?_⟩
      refine ⟨v1, rfl, .str "put", rfl, v3, rfl, .ref a4, rfl, m, z, a4, bs, rfl, ht4, hb, fun p1 hp1 => ?_⟩
      refine ⟨p1, _, rfl, upd_same, fun p2 o hp2 ho => ⟨by show 4 ≤ sizeLine; decide, fun p3 hp3 => ?_⟩⟩
      obtain ⟨oz, hz⟩ := hz
      have hL := dvl_prs (hb.sorted leP)
      generalize (bs.mergeSort leP).map (·.1) = L at hp2 hp3 hL ⊢
      have sA : Same G (upd G p1 (.lst L)) := same_new hp1
      have sB : Same (upd G p1 (.lst L)) (upd (upd G p1 (.lst L)) p2 (.frz o (.tup L))) := same_new hp2
      have sC : Same (upd (upd G p1 (.lst L)) p2 (.frz o (.tup L))) (upd (upd (upd G p1 (.lst L)) p2 (.frz o (.tup L))) p3 (.tup [v1, .str "put", v3, .ref p2])) := same_new hp3
      have hzG := s1 _ _ hz
      have n2 : z ≠ p2 := ne_of_none (sA _ _ hzG) hp2
      have n3 : z ≠ p3 := ne_of_none (sB _ _ (sA _ _ hzG)) hp3
      have sD := (sA.trans sB).trans sC
      refine q3 (.ref p3) _ (s1.trans sD) ?_
      have en : inOrd (.tuple [md, .str "put", p, .tuple ps]) = .tuple [md, .str "put", p, .tuple (((ps.map prOf).mergeSort ordP).map encP)] := by
        exact (if_pos (show word (.tuple [md, .str "put", p, .tuple ps]) = "put" from rfl)).trans rfl
      rw [en, ← sorted_enc ed]
      have kb : But z G (upd (upd (upd G p1 (.lst L)) p2 (.frz o (.tup L))) p3 (.tup [v1, .str "put", v3, .ref p2])) := But.of sD
      refine .tup n3.symm (.any upd_same) (.cons (Dv.to kb _ _ _ h1) (.cons (.str _) (.cons (Dv.to kb _ _ _ h3) (.cons (.tup n2.symm (.frz (o := o) (sC _ _ upd_same) ho) (DvL.to kb _ _ _ hL)) .nil))))
    · refine ⟨.ref a, rfl, q3 (.ref a) G s1 ?_⟩
      have en : inOrd (.tuple (md :: .str x :: p :: r)) = .tuple (md :: .str x :: p :: r) := by
        unfold inOrd
        exact if_neg fun h => e5 (decide_eq_true h)
      rw [en]
      exact (Dv.to (But.of s1) _ _ _ hd).weak
end
end Pl

namespace Pl
open L2 PySem PySem.Spec PyProof.Rows
abbrev sPool : Stmt := top 33
abbrev sTake : Stmt := top 34
abbrev sOne : Stmt := top 35
abbrev sTurned : Stmt := top 36
abbrev sRounds : Stmt := top 37
abbrev sCalled : Stmt := top 38
abbrev sNumber : Stmt := top 39
abbrev sPairs : Stmt := top 40
abbrev sDeed : Stmt := top 41
abbrev sDeeds : Stmt := top 42
abbrev sLIsNumber : Stmt := top 43
abbrev sLIsWord : Stmt := top 44
abbrev sLArePairs : Stmt := top 45
abbrev sLIsRight : Stmt := top 46
abbrev sOdd : Stmt := top 47
abbrev sBent : Stmt := top 48
abbrev sRefused : Stmt := top 49
abbrev sVRight : Stmt := top 50
abbrev sLaw : Stmt := top 51
/-- the source of draws stands at z -/
def Src (z : Addr) (H : Hp) : Prop := ∃ x y : Int, H z = some (.lst [.int x, .int y]) ∧ 0 ≤ x ∧ 0 ≤ y ∧ y < 2147483647
theorem Src.some {z : Addr} {H : Hp} (h : Src z H) : ∃ o, H z = some o := let ⟨x, y, e, _⟩ := h; ⟨_, e⟩
def spPool (K : PySem.W.Frag) : Sp := fun vs H Q _ => ∃ (a : Addr) (ns : List Int) (k : Int), vs = [.ref a, .int k] ∧ SqL K H a (ns.map V.int) ∧ 0 ≤ k ∧ k ≤ 10 ∧ ∀ p H', H p = none → Same H H' → Src p H' → Q (.ref p) H'
def spTake : Sp := fun vs H Q _ => ∃ (z : Addr) (t : Int), vs = [.ref z, .int t] ∧ Src z H ∧ 0 < t ∧ t ≤ 1000 ∧ ∀ (r : Int) (H' : Hp), 0 ≤ r → r < t → But z H H' → Src z H' → Q (.int r) H'
def spOne : Sp := fun vs H Q _ => ∃ (z l : Addr) (xs : List V), vs = [.ref z, .ref l] ∧ Src z H ∧ l ≠ z ∧ H l = some (.lst xs) ∧ xs ≠ [] ∧ xs.length ≤ 1000 ∧ ∀ (i : Nat) (v : V) (H' : Hp), xs[i]? = some v → But z H H' → Src z H' → Q v H'
structure Cs2 (mg : Str → Option Value) : Prop where
  max_ : mg "max" = none
  min_ : mg "min" = none
  lst : mg "list" = none
  rng : mg "range" = none
  rpr : mg "repr" = none
  dct : mg "dict" = none
section
variable {P : Program} {K : PySem.W.Frag} {w : World} {base : Heap} {mg : Str → Option Value}
theorem scPool : FnScope ["_law_script", "_law_k", "_law_cell", "_law_big", "_law_mixed"] ["_law_script", "_law_k"] (defScope sPool) := ⟨rfl, rfl, rfl, by decide +kernel, rfl, by decide +kernel, by decide +kernel⟩
theorem ok_pool {f : Addr} {fd : FuncData} (F : Fun K "_law_pool" "_law_pool" sPool f fd) (T : Cst K mg) (T2 : Cs2 mg) : FnOk P w K mg base CX0 1 f fd ["_law_script", "_law_k"] (spPool K) := by
  refine F.ok scPool (fun vs H Q E h => ?_) (fun cdv A outer s H vs Q E hr h => ?_)
  · obtain ⟨a, ns, k, rfl, _⟩ := h; skip
    rfl
  · obtain ⟨a, ns, k, rfl, hS, k0, k1, q⟩ := h
    refine ⟨_, pss_cons (ps_set (i := 2) scPool.nd rfl (Or.inl rfl) pe_int)
      (pss_cons (ps_if (pt_cmpR op_lt (pv 1) (pe_callB call_len_seq (by rfl) T.len PySem.boot_len (pa_cons (pv 0) pa_nil)) (nomark _))
        (pss_one (ps_set (i := 2) scPool.nd rfl (Or.inl rfl) (pe_ix ix_list (pv 0) (pv 1) (fun _ _ => rfl)))) pss_nil)
      (pss_cons (ps_set (i := 3) scPool.nd rfl (Or.inl rfl) (pe_callB (call_max2 rfl) (by rfl) T2.max_ (by decide +kernel) (pa_cons (pe_callTy call_int1 (by rfl) T.tint (by decide +kernel) (pa_cons (pv 2) pa_nil))
        (pa_cons (pe_callTy call_int1 (by rfl) T.tint (by decide +kernel) (pa_cons (pe_op op_sub (pe_un un_neg pe_int) (pv 2)) pa_nil)) pa_nil))))
      (pss_cons (ps_set (i := 4) scPool.nd rfl (Or.inl rfl) (pe_op op_mod (pe_callTy call_int1 (by rfl) T.tint (by decide +kernel) (pa_cons
          (pe_op op_mul (pe_op op_add (pe_op op_add (pe_op op_add (pe_op op_mod (pe_callTy call_int1 (by rfl) T.tint (by decide +kernel) (pa_cons (pv 3) pa_nil)) pe_int) (pe_op op_mul (pe_op op_mul pe_int (pv 1)) (pv 1))) (pe_op op_mul pe_int (pv 1))) pe_int) pe_int) pa_nil)) pe_int))
      (pss_one (ps_ret (pe_lst (pa_cons (pe_op op_mul (pv 3) (pe_callTy call_int1 (by rfl) T.tint (by decide +kernel) (pa_cons (pe_cmpR op_ge (pv 3) (pe_op op_pow pe_int pe_int) (nomark _)) pa_nil))) (pa_cons (pv 4) pa_nil)))))))), ?_⟩
    have hbig : ∀ c : Int, 0 ≤ (if (-1 - c) > c then (-1 - c) else c) := fun c => by
      split <;> omega
    have fin : ∀ (b : Int) (p : Addr) (G : Hp), 0 ≤ b → H p = none → Same H G → G p = some (.lst [.int (b * (if decide (b ≥ 10 ^ 18) = true then 1 else 0)), .int (((b % 2147483629 + 7919 * k * k + 31 * k + 17) * 48271) % 2147483647)]) → Q (.ref p) G := fun b p G hb hp sG hG => by
      refine q p G hp sG ⟨_, _, hG, ?_, Int.emod_nonneg _ (by decide), Int.emod_lt_of_pos _ (by decide)⟩
      refine Int.mul_nonneg hb ?_
      split <;> decide
    have bnd : ∀ b : Int, 0 ≤ b % 2147483629 ∧ b % 2147483629 < 2147483629 := fun b => ⟨Int.emod_nonneg _ (by decide), Int.emod_lt_of_pos _ (by decide)⟩
    have kk : 0 ≤ 7919 * k ∧ 7919 * k ≤ 79190 := ⟨by omega, by omega⟩
    have kk2 : 0 ≤ 7919 * k * k ∧ 7919 * k * k ≤ 791900 := ⟨Int.mul_nonneg kk.1 k0, by
      have := Int.mul_le_mul kk.2 k1 k0 (by omega)
      omega⟩
    refine ⟨_, rfl, _, rfl, a, _, rfl, .inl hS, _, _, rfl, rfl, _, rfl, ?_⟩; skip
    refine ite2 (fun e => ?_) fun e => ?_
    · obtain ⟨j, rfl⟩ : ∃ j : Nat, k = j := ⟨k.toNat, by omega⟩
      have hj : j < ns.length := by
        have := of_decide_eq_true e
        rw [List.length_map] at this
        omega
      refine ⟨_, rfl, _, rfl, a, _, _, .int ns[j], rfl, rfl, hS, atI_nat (by rw [List.getElem?_map, List.getElem?_eq_getElem hj]; rfl), ?_⟩
      refine ⟨_, rfl, .inl ⟨_, rfl, ?_⟩⟩
      refine ⟨_, rfl, _, rfl, _, _, rfl, rfl, .inl ⟨_, rfl, ?_⟩⟩
      refine ⟨_, _, rfl, ?_⟩
      have hb := hbig (ns[j])
      revert hb
      generalize (if (-1 - ns[j]) > ns[j] then (-1 - ns[j]) else ns[j]) = b
      intro hb
      have h1 := bnd b
      refine ⟨_, rfl, .inl ⟨_, rfl, _, _, rfl, rfl, (by show (0 : Int) < 2147483629; decide), ?_⟩⟩
      refine ⟨_, rfl, _, _, rfl, rfl, .inl ⟨by decide, by decide⟩, _, rfl, _, _, rfl, rfl, .inl ⟨by omega, by omega⟩, ?_⟩
      refine ⟨_, _, rfl, rfl, _, rfl, _, _, rfl, rfl, .inl ⟨by decide, by decide⟩, _, _, rfl, rfl, _, _, rfl, rfl, ?_⟩
      refine ⟨_, _, rfl, rfl, .inl ⟨by omega, by omega⟩, .inl ⟨_, rfl, _, _, rfl, rfl, (by show (0 : Int) < 2147483647; decide), ?_⟩⟩
      refine ⟨_, rfl, _, rfl, _, _, rfl, rfl, ⟨by decide, by decide, by decide⟩, _, _, rfl, rfl, .inr ⟨_, rfl, _, _, rfl, rfl, .inr ⟨?_, ?_⟩, _, rfl, (by show 2 ≤ sizeLine; decide), fun p hp => fin b p _ hb hp (same_new hp) upd_same⟩⟩
      · split <;> decide
      · split <;> decide
    · refine ⟨_, rfl, .inl ⟨_, rfl, ?_⟩⟩
      refine ⟨_, rfl, _, rfl, _, _, rfl, rfl, .inl ⟨_, rfl, ?_⟩⟩
      refine ⟨_, _, rfl, ?_⟩
      have hb := hbig (0)
      revert hb
      generalize (if (-1 - 0) > 0 then (-1 - 0) else 0) = b
      intro hb
      have h1 := bnd b
      refine ⟨_, rfl, .inl ⟨_, rfl, _, _, rfl, rfl, (by show (0 : Int) < 2147483629; decide), ?_⟩⟩
      refine ⟨_, rfl, _, _, rfl, rfl, .inl ⟨by decide, by decide⟩, _, rfl, _, _, rfl, rfl, .inl ⟨by omega, by omega⟩, ?_⟩
      refine ⟨_, _, rfl, rfl, _, rfl, _, _, rfl, rfl, .inl ⟨by decide, by decide⟩, _, _, rfl, rfl, _, _, rfl, rfl, ?_⟩
      refine ⟨_, _, rfl, rfl, .inl ⟨by omega, by omega⟩, .inl ⟨_, rfl, _, _, rfl, rfl, (by show (0 : Int) < 2147483647; decide), ?_⟩⟩
      refine ⟨_, rfl, _, rfl, _, _, rfl, rfl, ⟨by decide, by decide, by decide⟩, _, _, rfl, rfl, .inr ⟨_, rfl, _, _, rfl, rfl, .inr ⟨?_, ?_⟩, _, rfl, (by show 2 ≤ sizeLine; decide), fun p hp => fin b p _ hb hp (same_new hp) upd_same⟩⟩
      · split <;> decide
      · split <;> decide
end
end Pl

namespace Pl
open L2 PySem PySem.Spec PyProof.Rows
section
variable {P : Program} {K : PySem.W.Frag} {w : World} {base : Heap} {mg : Str → Option Value}
theorem scTake : FnScope ["_law_source", "_law_top", "_law_told"] ["_law_source", "_law_top"] (defScope sTake) := ⟨rfl, rfl, rfl, by decide +kernel, rfl, by decide +kernel, by decide +kernel⟩
theorem ok_take {f : Addr} {fd : FuncData} (F : Fun K "_law_take" "_law_take" sTake f fd) (T : Cst K mg) : FnOk P w K mg base CX0 1 f fd ["_law_source", "_law_top"] spTake := by
  refine F.ok scTake (fun vs H Q E h => ?_) (fun cdv A outer s H vs Q E hr h => ?_)
  · obtain ⟨z, t, rfl, _⟩ := h
    rfl
  · obtain ⟨z, t, rfl, ⟨x, y, hz, x0, y0, y1⟩, t0, t1, q⟩ := h
    refine ⟨_, pss_cons (ps_if (pt_cmpR op_gt (pe_ix ix_list (pv 0) pe_int (fun _ _ => rfl)) pe_int (nomark _))
        (pss_cons (ps_set (i := 2) scTake.nd rfl (Or.inl rfl) (pe_op op_mod (pe_callTy call_int1 (by rfl) T.tint (by decide +kernel) (pa_cons (pe_ix ix_list (pv 0) pe_int (fun _ _ => rfl)) pa_nil)) (pv 1)))
        (pss_cons (ps_asg (pe_op op_fdiv (pe_ix ix_list (pv 0) pe_int (fun _ _ => rfl)) (pv 1)) (pg_sub (pv 0) pe_int L2.set_list))
        (pss_one (ps_ret (pv 2))))) pss_nil)
      (pss_cons (ps_asg (pe_op op_mod (pe_callTy call_int1 (by rfl) T.tint (by decide +kernel) (pa_cons (pe_op op_add (pe_op op_mul (pe_ix ix_list (pv 0) pe_int (fun _ _ => rfl)) pe_int) pe_int) pa_nil)) pe_int) (pg_sub (pv 0) pe_int L2.set_list))
      (pss_one (ps_ret (pe_op op_mod (pe_callTy call_int1 (by rfl) T.tint (by decide +kernel) (pa_cons (pe_op op_fdiv (pe_op op_mod (pe_callTy call_int1 (by rfl) T.tint (by decide +kernel) (pa_cons (pe_op op_mul (pe_ix ix_list (pv 0) pe_int (fun _ _ => rfl)) (pe_ix ix_list (pv 0) pe_int (fun _ _ => rfl))) pa_nil)) pe_int) pe_int) pa_nil)) (pv 1))))), ?_⟩
    refine ⟨_, rfl, z, _, _, .int x, rfl, rfl, SqL.of hz, atI_nat (j := 0) rfl, _, _, rfl, rfl, _, rfl, ?_⟩
    refine ite2 (fun e => ?_) fun e => ?_
    · refine ⟨_, rfl, z, _, _, .int x, rfl, rfl, SqL.of hz, atI_nat (j := 0) rfl, .inl ⟨_, rfl, _, rfl, _, _, rfl, rfl, t0, ?_⟩⟩
      refine ⟨_, rfl, z, _, _, .int x, rfl, rfl, SqL.of hz, atI_nat (j := 0) rfl, _, rfl, _, _, rfl, rfl, ⟨t0, by omega⟩, ?_⟩
      refine ⟨_, rfl, z, _, _, 0, rfl, rfl, hz, rfl, _, rfl, ?_⟩
      exact q _ _ (Int.emod_nonneg _ (by omega)) (Int.emod_lt_of_pos _ t0) But.upd ⟨_, _, upd_same, Int.ediv_nonneg x0 (by omega), y0, y1⟩
    · refine ⟨_, rfl, z, _, _, .int y, rfl, rfl, SqL.of hz, atI_nat (j := 1) rfl, _, _, rfl, rfl, .inl ⟨by omega, by omega⟩, _, _, rfl, rfl, .inl ⟨_, rfl, _, _, rfl, rfl, (by show (0 : Int) < 2147483647; decide), ?_⟩⟩
      have h2 : 0 ≤ (y * 39373 + 7) % 2147483647 ∧ (y * 39373 + 7) % 2147483647 < 2147483647 := ⟨Int.emod_nonneg _ (by decide), Int.emod_lt_of_pos _ (by decide)⟩
      refine ⟨_, rfl, z, _, _, 1, rfl, rfl, hz, rfl, ?_⟩
      have hz2 : upd H z (.lst ([V.int x, V.int y].set 1 (V.int ((y * 39373 + 7) % 2147483647)))) z = some (.lst [.int x, .int ((y * 39373 + 7) % 2147483647)]) := upd_same
      refine ⟨_, rfl, z, _, _, .int ((y * 39373 + 7) % 2147483647), rfl, rfl, SqL.of hz2, atI_nat (j := 1) rfl, _, rfl, z, _, _, .int ((y * 39373 + 7) % 2147483647), rfl, rfl, SqL.of hz2, atI_nat (j := 1) rfl, _, _, rfl, rfl, .inl ⟨by omega, by omega⟩, .inl ⟨_, rfl, _, _, rfl, rfl, (by show (0 : Int) < 2147483629; decide), ?_⟩⟩
      refine ⟨_, _, rfl, rfl, ⟨by decide, by decide⟩, .inl ⟨_, rfl, _, rfl, _, _, rfl, rfl, t0, ?_⟩⟩
      exact q _ _ (Int.emod_nonneg _ (by omega)) (Int.emod_lt_of_pos _ t0) But.upd ⟨_, _, hz2, x0, h2.1, h2.2⟩
/-- a draw of this text, as its callers see it -/
abbrev DTake (P : Program) (w : World) (K : PySem.W.Frag) (mg : Str → Option Value) (base : Heap) := Df P w K mg base 1 "_law_take" ["_law_source", "_law_top"] spTake
theorem scOne : FnScope ["_law_source", "_law_things"] ["_law_source", "_law_things"] (defScope sOne) := ⟨rfl, rfl, rfl, by decide +kernel, rfl, by decide +kernel, by decide +kernel⟩
theorem ok_one {f : Addr} {fd : FuncData} (F : Fun K "_law_one" "_law_one" sOne f fd) (T : Cst K mg) (D : DTake P w K mg base) : FnOk P w K mg base CX0 2 f fd ["_law_source", "_law_things"] spOne := by
  obtain ⟨g, fdT, GT, mT, kT, bT⟩ := D.ex
  refine F.ok scOne (fun vs H Q E h => ?_) (fun cdv A outer s H vs Q E hr h => ?_)
  · obtain ⟨z, l, xs, rfl, _⟩ := h
    rfl
  · obtain ⟨z, l, xs, rfl, hz, ne, hl, hne, hlen, q⟩ := h
    refine ⟨_, pss_one (ps_ret (pe_ix ix_list (pv 1) (pe_call GT hr (by rfl) mT kT bT .nil pass0 (pa_cons (pv 0) (pa_cons (pe_callB call_len_seq (by rfl) T.len PySem.boot_len (pa_cons (pv 1) pa_nil)) pa_nil))) (fun _ _ => rfl))), ?_⟩
    have pos : 0 < xs.length := List.length_pos_iff.mpr hne
    refine ⟨_, rfl, _, rfl, _, rfl, l, _, rfl, .inl (SqL.of hl), z, _, rfl, hz, by omega, by omega, fun r G r0 r1 b1 s1 => ?_⟩
    obtain ⟨j, rfl⟩ : ∃ j : Nat, r = j := ⟨r.toNat, by omega⟩
    have hj : j < xs.length := by omega
    have e : xs[j]? = some xs[j] := List.getElem?_eq_getElem hj
    exact ⟨l, _, _, xs[j], rfl, rfl, SqL.of (b1 _ _ ne NoT.lst hl), atI_nat e, q j _ G e b1 s1⟩
end
end Pl

namespace Pl
open L2 PySem PySem.Spec PyProof.Rows
theorem erase_map {α β : Type} (f : α → β) : ∀ (l : List α) (j : Nat), (l.map f).eraseIdx j = (l.eraseIdx j).map f
  | [], _ => rfl
  | _ :: _, 0 => rfl
  | a :: l, j + 1 => congrArg (f a :: ·) (erase_map f l j)
theorem seq_nat {j n : Nat} (h : j < n) : seqIndex? (j : Int) n = some j := by
  have h0 : ¬ ((j : Int) < 0) := by omega
  unfold seqIndex?
  simp [h0, h]
theorem Src.new {z p : Addr} {H : Hp} {o : HO} (h : Src z H) (hp : H p = none) : Src z (upd H p o) := by
  obtain ⟨x, y, e, r⟩ := h
  exact ⟨x, y, (upd_ne (ne_of_none e hp)).trans e, r⟩
theorem Src.set {z p : Addr} {H : Hp} {o : HO} (h : Src z H) (hp : p ≠ z) : Src z (upd H p o) := by
  obtain ⟨x, y, e, r⟩ := h
  exact ⟨x, y, (upd_ne hp.symm).trans e, r⟩
/-- a list of texts; back comes a new list of some of them -/
def spTurned : Sp := fun vs H Q _ => ∃ (z l : Addr) (ss : List Str), vs = [.ref z, .ref l] ∧ Src z H ∧ l ≠ z ∧ H l = some (.lst (ss.map V.str)) ∧ ss.length ≤ 1000 ∧ (∀ s ∈ ss, PyData.strOk s = true) ∧
  ∀ (q : Addr) (ts : List Str) (G : Hp), But z H G → Src z G → q ≠ z → G q = some (.lst (ts.map V.str)) → (∀ t ∈ ts, t ∈ ss) → ts.length ≤ ss.length → Q (.ref q) G
theorem dps {K : PySem.W.Frag} {H : Hp} : ∀ ss : List Str, DpAll K H (ss.map V.str) (ss.map PyData.str)
  | [] => .nil
  | s :: ss => .cons (.str s) (dps ss)
theorem lay_strs : ∀ ss : List Str, (∀ s ∈ ss, PyData.strOk s = true) → PyData.canLayAll0 (ss.map PyData.str) = true ∧ PyData.depthAll (ss.map PyData.str) = 0
  | [], _ => ⟨by simp [PyData.canLayAll0], by simp [PyData.depthAll]⟩
  | s :: ss, h => by
    obtain ⟨h1, h2⟩ := lay_strs ss fun x hx => h x (List.mem_cons_of_mem _ hx)
    constructor
    · simp [PyData.canLayAll0, PyData.canLay0, h1, h s List.mem_cons_self]
    · simp [PyData.depthAll, PyData.depth, h2]
theorem shaped_strs (ss : List Str) (h : ∀ s ∈ ss, PyData.strOk s = true) : SeqAt.shaped (.list (ss.map PyData.str)) = true := by
  obtain ⟨h1, h2⟩ := lay_strs ss h
  show (PyData.canLay0 (.list _) && decide (PyData.depth (.list _) ≤ 64)) = true
  rw [Bool.and_eq_true]
  exact ⟨by simp only [PyData.canLay0]; exact h1, decide_eq_true (by simp only [PyData.depth, h2]; omega)⟩
theorem eqv_nil (ss : List Str) : PyData.eqv (.list (ss.map PyData.str)) (.list []) = decide (ss.length = 0) := by
  cases ss with
  | nil => simp [PyData.eqv, PyData.eqvAll]
  | cons s ss => simp [PyData.eqv, PyData.eqvAll]
section
variable {P : Program} {K : PySem.W.Frag} {w : World} {base : Heap} {mg : Str → Option Value}
theorem scTurned : FnScope ["_law_source", "_law_things", "_law_left", "_law_found"] ["_law_source", "_law_things"] (defScope sTurned) := ⟨rfl, rfl, rfl, by decide +kernel, rfl, by decide +kernel, by decide +kernel⟩
theorem ok_turned {f : Addr} {fd : FuncData} (F : Fun K "_law_turned" "_law_turned" sTurned f fd) (T : Cst K mg) (T2 : Cs2 mg) (D : DTake P w K mg base) : FnOk P w K mg base CX0 2 f fd ["_law_source", "_law_things"] spTurned := by
  obtain ⟨g, fdT, GT, mT, kT, bT⟩ := D.ex
  refine F.ok scTurned (fun vs H Q E h => ?_) (fun cdv A outer s H vs Q E hr h => ?_)
  · obtain ⟨z, l, xs, rfl, _⟩ := h
    rfl
  · obtain ⟨z, l, ss, rfl, hz, ne, hl, hlen, hok, q⟩ := h
    refine ⟨_, pss_cons (ps_par (i := 2) (j := 3) (by rfl) scTurned.nd rfl rfl (by decide) rfl rfl (pa_cons (pe_callTy call_list_of (by rfl) T2.lst (by decide +kernel) (pa_cons (pv 1) pa_nil)) (pa_cons (pe_lst pa_nil) pa_nil)) (by rfl))
      (pss_cons (ps_while PassesOwn.never (pt_cmpR (op_neD (show (A.deeper _).units + 64 < cLine by have := hr.un; omega)) (pv 2) (pe_lst pa_nil) (nomark _))
        (pss_one (ps_expr (pe_bm PySem.F.plainAttrs_list PySem.F.slot_list_append PySem.F.type_list_append mt_append (pv 3) (pa_cons
          (pe_bm PySem.F.plainAttrs_list PySem.F.slot_list_pop PySem.F.type_list_pop mt_popAt (pv 2) (pa_cons (pe_call GT hr (by rfl) mT kT bT .nil pass0 (pa_cons (pv 0) (pa_cons (pe_callB call_len_seq (by rfl) T.len PySem.boot_len (pa_cons (pv 2) pa_nil)) pa_nil))) pa_nil)) pa_nil)))))
      (pss_one (ps_ret (pv 3)))), ?_⟩
    refine ⟨_, rfl, l, _, rfl, .inl (SqL.of hl), fun p hp => ⟨by show 0 ≤ sizeLine; decide, fun p2 hp2 => ⟨_, _, rfl, ?_⟩⟩⟩
    obtain ⟨oz, hzo⟩ := hz.some
    have nz : p ≠ z := (ne_of_none hzo hp).symm
    have hzo1 : upd H p (.lst (ss.map V.str)) z = some oz := (upd_ne nz.symm).trans hzo
    have nz2 : p2 ≠ z := (ne_of_none hzo1 hp2).symm
    have npp : p ≠ p2 := ne_of_none (upd_same (H := H)) hp2
    have b1 : But z H (upd (upd H p (.lst (ss.map V.str))) p2 (.lst [])) := (But.new hp).trans (But.new hp2)
    have s1 : Src z (upd (upd H p (.lst (ss.map V.str))) p2 (.lst [])) := by
      obtain ⟨x, y, e, r⟩ := hz
      exact ⟨x, y, by rw [upd_ne nz2.symm, upd_ne nz.symm]; exact e, r⟩
    refine ⟨fun m σ G => σ = [some (.ref z), some (.ref l), some (.ref p), some (.ref p2)] ∧ ∃ ls ts : List Str, G p = some (.lst (ls.map V.str)) ∧ G p2 = some (.lst (ts.map V.str)) ∧ m = ls.length ∧ (∀ t ∈ ls, t ∈ ss) ∧ (∀ t ∈ ts, t ∈ ss) ∧ ls.length + ts.length = ss.length ∧ But z H G ∧ Src z G,
      ⟨_, rfl, ss, [], by rw [upd_ne npp, upd_same], by rw [upd_same]; rfl, rfl, fun _ h => h, (fun _ h => by cases h), rfl, b1, s1⟩, ?_⟩
    rintro m σ G ⟨rfl, ls, ts, hp1, hp3, rfl, hls, hts, hl2, bG, sG⟩
    have hokl : ∀ s ∈ ls, PyData.strOk s = true := fun s h => hok s (hls s h)
    refine ⟨_, rfl, by show 0 ≤ sizeLine; decide, fun p4 hp4 => ⟨_, _, .lst (SqL.of ((upd_ne (ne_of_none hp1 hp4)).trans hp1)) (dps ls), .lst (SqL.of upd_same) .nil, shaped_strs ls hokl, by decide +kernel, _, rfl, ?_⟩⟩
    rw [eqv_nil]
    have bG4 : But z G (upd G p4 (.lst [])) := But.new hp4
    have sG4 : Src z (upd G p4 (.lst [])) := by
      obtain ⟨x, y, e, r⟩ := sG
      exact ⟨x, y, (upd_ne (ne_of_none e hp4)).trans e, r⟩
    have h1 : upd G p4 (.lst []) p = some (.lst (ls.map V.str)) := (upd_ne (ne_of_none hp1 hp4)).trans hp1
    have h2 : upd G p4 (.lst []) p2 = some (.lst (ts.map V.str)) := (upd_ne (ne_of_none hp3 hp4)).trans hp3
    refine ite2 (fun e => ?_) fun e => ?_
    · have pos : 0 < ls.length := by
        have : ¬ ls.length = 0 := by simpa using e
        omega
      refine ⟨_, fun σ' H' h => ⟨ls.length - 1, by omega, h⟩, ?_⟩
      refine ⟨_, rfl, .inl ⟨rfl, _, SqL.of h2⟩, _, rfl, .inl ⟨rfl, _, SqL.of h1⟩, _, rfl, _, rfl, p, _, rfl, .inl (SqL.of h1), z, _, rfl, sG4, by rw [List.length_map]; omega, by rw [List.length_map]; omega, fun r G2 r0 r1 b2 s2 => ?_⟩
      rw [List.length_map] at r1
      obtain ⟨j, rfl⟩ : ∃ j : Nat, r = j := ⟨r.toNat, by omega⟩
      have hj : j < ls.length := by omega
      have k1 := b2 _ _ nz NoT.lst h1
      have k2 := b2 _ _ nz2 NoT.lst h2
      refine ⟨p, _, _, j, .str ls[j], rfl, rfl, k1, by omega, by omega, ?_, by rw [List.getElem?_map, List.getElem?_eq_getElem hj]; rfl, ?_⟩
      · rw [List.length_map]
        exact seq_nat hj
      refine ⟨p2, _, _, rfl, rfl, (upd_ne npp.symm).trans k2, ?_, ?_⟩
      · rw [List.length_map]
        exact small1000 (by omega)
      refine ⟨rfl, ls.eraseIdx j, ts ++ [ls[j]], by rw [upd_ne npp, upd_same, erase_map], by rw [upd_same, List.map_append]; rfl, by rw [List.length_eraseIdx_of_lt hj], fun t h => hls t (List.mem_of_mem_eraseIdx h), fun t h => ?_, ?_, ?_, ?_⟩
      · rcases List.mem_append.mp h with h | h; skip
        · exact hts t h
        · rw [List.mem_singleton.mp h]
          exact hls _ (List.getElem_mem hj)
      · rw [List.length_eraseIdx_of_lt hj, List.length_append, List.length_singleton]
        omega
      · intro b o hb ho e
        have n1 : b ≠ p := ne_of_none e hp
        have n2 : b ≠ p2 := ne_of_none ((upd_ne n1).trans e) hp2
        rw [upd_ne n2, upd_ne n1]
        exact b2 _ _ hb ho (bG4 _ _ hb ho (bG _ _ hb ho e))
      · exact (s2.set nz).set nz2
    · have e0 : ls.length = 0 := by simpa using e
      exact ⟨_, rfl, q p2 ts _ (bG.trans bG4) sG4 nz2 h2 hts (by omega)⟩
end
end Pl

namespace Pl
open L2 PySem PySem.Spec PyProof.Rows
def nameL : List Str := ["a", "b", "c", "x", "yy", "zzz", "abcd", "aa", "aaa", "q"]
def Nms (ss : List Str) : Prop := ss ≠ [] ∧ ss.length ≤ 5 ∧ ∀ s ∈ ss, s ∈ nameL
def spRounds (K : PySem.W.Frag) : Sp := fun vs H Q _ => ∃ (a : Addr) (ns : List Int), vs = [.ref a] ∧ SqL K H a (ns.map V.int) ∧ ∀ (p : Addr) (n : Nat) (H' : Hp), n ≤ 4 → Same H H' → H' p = some (.lst (rgV 0 n)) → Q (.ref p) H'
def spCalled : Sp := fun vs H Q _ => ∃ (z : Addr), vs = [.ref z] ∧ Src z H ∧ ∀ (p : Addr) (ss : List Str) (G : Hp), But z H G → Src z G → p ≠ z → G p = some (.lst (ss.map V.str)) → Nms ss → Q (.ref p) G
def spNumber : Sp := fun vs H Q _ => ∃ (z : Addr), vs = [.ref z] ∧ Src z H ∧ ∀ (n : Int) (G : Hp), 0 ≤ n → n ≤ 99 → But z H G → Src z G → Q (.int n) G
section
variable {P : Program} {K : PySem.W.Frag} {w : World} {base : Heap} {mg : Str → Option Value}
abbrev DOne (P : Program) (w : World) (K : PySem.W.Frag) (mg : Str → Option Value) (base : Heap) := Df P w K mg base 2 "_law_one" ["_law_source", "_law_things"] spOne
theorem scRounds : FnScope ["_law_script"] ["_law_script"] (defScope sRounds) := ⟨rfl, rfl, rfl, by decide +kernel, rfl, by decide +kernel, by decide +kernel⟩
theorem ok_rounds {f : Addr} {fd : FuncData} (F : Fun K "_law_rounds" "_law_rounds" sRounds f fd) (T : Cst K mg) (T2 : Cs2 mg) : FnOk P w K mg base CX0 1 f fd ["_law_script"] (spRounds K) := by
  refine F.ok scRounds (fun vs H Q E h => ?_) (fun cdv A outer s H vs Q E hr h => ?_)
  · obtain ⟨a, ns, rfl, _⟩ := h
    rfl
  · obtain ⟨a, ns, rfl, hS, q⟩ := h
    refine ⟨_, pss_one (ps_ret (pe_listRg rfl (by rfl) T2.lst (prg_1 (by rfl) T2.rng (pe_callB (call_max2 rfl) (by rfl) T2.max_ (by decide +kernel) (pa_cons pe_int (pa_cons
      (pe_callB (call_min2 rfl) (by rfl) T2.min_ (by decide +kernel) (pa_cons (pe_callB call_len_seq (by rfl) T.len PySem.boot_len (pa_cons (pv 0) pa_nil)) (pa_cons pe_int pa_nil))) pa_nil)))))), ?_⟩
    refine ⟨_, rfl, a, _, rfl, .inl hS, _, _, rfl, _, _, rfl, _, rfl, ?_⟩
    generalize hn : (if (if (4 : Int) < ((ns.map V.int).length : Nat) then (4 : Int) else ((ns.map V.int).length : Nat)) > 1 then (if (4 : Int) < ((ns.map V.int).length : Nat) then (4 : Int) else ((ns.map V.int).length : Nat)) else (1 : Int)) = n
    have h1 : 1 ≤ n ∧ n ≤ 4 := by
      rw [← hn]
      split <;> split <;> omega
    obtain ⟨m, rfl⟩ : ∃ m : Nat, n = m := ⟨n.toNat, by omega⟩
    exact ⟨RgOk.of_le (by omega) (by omega) (by omega) (by omega), fun p hp => q p m _ (by omega) (same_new hp) upd_same⟩
theorem scCalled : FnScope ["_law_source"] ["_law_source"] (defScope sCalled) := ⟨rfl, rfl, rfl, by decide +kernel, rfl, by decide +kernel, by decide +kernel⟩
theorem ok_called {f : Addr} {fd : FuncData} (F : Fun K "_law_called" "_law_called" sCalled f fd) (D : DOne P w K mg base) : FnOk P w K mg base CX0 3 f fd ["_law_source"] spCalled := by
  obtain ⟨g, fdT, GT, mT, kT, bT⟩ := D.ex
  refine F.ok scCalled (fun vs H Q E h => ?_) (fun cdv A outer s H vs Q E hr h => ?_)
  · obtain ⟨z, rfl, _⟩ := h
    rfl
  · obtain ⟨z, rfl, hz, q⟩ := h
    refine ⟨_, pss_one (ps_ret (pe_call GT hr (by rfl) mT kT bT .nil pass0 (pa_cons (pv 0) (pa_cons (pe_lst
      (pa_cons (pe_lst (pa_cons pe_str (pa_cons pe_str pa_nil)))
      (pa_cons (pe_lst (pa_cons pe_str (pa_cons pe_str (pa_cons pe_str pa_nil))))
      (pa_cons (pe_lst (pa_cons pe_str (pa_cons pe_str (pa_cons pe_str (pa_cons pe_str pa_nil)))))
      (pa_cons (pe_lst (pa_cons pe_str (pa_cons pe_str (pa_cons pe_str pa_nil)))) pa_nil))))) pa_nil)))), ?_⟩
    refine ⟨_, rfl, by show 2 ≤ sizeLine; decide, fun p1 e1 => ⟨by show 3 ≤ sizeLine; decide, fun p2 e2 => ⟨by show 4 ≤ sizeLine; decide, fun p3 e3 => ⟨by show 3 ≤ sizeLine; decide, fun p4 e4 => ⟨by show 4 ≤ sizeLine; decide, fun p5 e5 => ?_⟩⟩⟩⟩⟩
    obtain ⟨oz, hzo⟩ := hz.some
    have s1 := same_new (o := HO.lst [V.str "a", V.str "b"]) e1
    have s2 := same_new (o := HO.lst [V.str "a", V.str "b", V.str "c"]) e2
    have s3 := same_new (o := HO.lst [V.str "x", V.str "yy", V.str "zzz", V.str "abcd"]) e3
    have s4 := same_new (o := HO.lst [V.str "a", V.str "aa", V.str "aaa"]) e4
    have s5 := same_new (o := HO.lst [.ref p1, .ref p2, .ref p3, .ref p4]) e5
    have z1 := s1 _ _ hzo
    have z2 := s2 _ _ z1
    have z3 := s3 _ _ z2
    have z4 := s4 _ _ z3
    have n1 : p1 ≠ z := (ne_of_none hzo e1).symm
    have n2 : p2 ≠ z := (ne_of_none z1 e2).symm
    have n3 : p3 ≠ z := (ne_of_none z2 e3).symm
    have n4 : p4 ≠ z := (ne_of_none z3 e4).symm
    have n5 : p5 ≠ z := (ne_of_none z4 e5).symm
    have b5 := But.of (z := z) ((((s1.trans s2).trans s3).trans s4).trans s5)
    have k1 := s5 _ _ (s4 _ _ (s3 _ _ (s2 p1 _ upd_same)))
    have k2 := s5 _ _ (s4 _ _ (s3 p2 _ upd_same))
    have k3 := s5 _ _ (s4 p3 _ upd_same)
    have k4 := s5 p4 _ upd_same
    refine ⟨z, p5, _, rfl, ((((hz.new e1).new e2).new e3).new e4).new e5, n5, upd_same, by simp, by show 4 ≤ 1000; decide, fun i v G hi bG sG => ?_⟩
    have hm := List.mem_of_getElem? hi; skip
    simp only [List.mem_cons, List.not_mem_nil, or_false] at hm; skip
    rcases hm with rfl | rfl | rfl | rfl; skip
    · exact q p1 ["a", "b"] G (b5.trans bG) sG n1 (bG _ _ n1 NoT.lst k1) ⟨by simp, by decide, by decide +kernel⟩
    · exact q p2 ["a", "b", "c"] G (b5.trans bG) sG n2 (bG _ _ n2 NoT.lst k2) ⟨by simp, by decide, by decide +kernel⟩
    · exact q p3 ["x", "yy", "zzz", "abcd"] G (b5.trans bG) sG n3 (bG _ _ n3 NoT.lst k3) ⟨by simp, by decide, by decide +kernel⟩
    · exact q p4 ["a", "aa", "aaa"] G (b5.trans bG) sG n4 (bG _ _ n4 NoT.lst k4) ⟨by simp, by decide, by decide +kernel⟩
theorem scNumber : FnScope ["_law_source"] ["_law_source"] (defScope sNumber) := ⟨rfl, rfl, rfl, by decide +kernel, rfl, by decide +kernel, by decide +kernel⟩
theorem ok_drawn {f : Addr} {fd : FuncData} (F : Fun K "_law_number" "_law_number" sNumber f fd) (D : DOne P w K mg base) : FnOk P w K mg base CX0 3 f fd ["_law_source"] spNumber := by
  obtain ⟨g, fdT, GT, mT, kT, bT⟩ := D.ex
  refine F.ok scNumber (fun vs H Q E h => ?_) (fun cdv A outer s H vs Q E hr h => ?_)
  · obtain ⟨z, rfl, _⟩ := h
    rfl
  · obtain ⟨z, rfl, hz, q⟩ := h
    refine ⟨_, pss_one (ps_ret (pe_call GT hr (by rfl) mT kT bT .nil pass0 (pa_cons (pv 0) (pa_cons (pe_lst
      (pa_cons pe_int (pa_cons pe_int (pa_cons pe_int (pa_cons pe_int (pa_cons pe_int pa_nil)))))) pa_nil)))), ?_⟩
    refine ⟨_, rfl, by show 5 ≤ sizeLine; decide, fun p hp => ?_⟩
    obtain ⟨oz, hzo⟩ := hz.some
    refine ⟨z, p, _, rfl, hz.new hp, (ne_of_none hzo hp).symm, upd_same, by simp, by show 5 ≤ 1000; decide, fun i v G hi bG sG => ?_⟩
    have hm := List.mem_of_getElem? hi; skip
    simp only [List.mem_cons, List.not_mem_nil, or_false] at hm; skip
    have bb := (But.new (z := z) hp).trans bG
    rcases hm with rfl | rfl | rfl | rfl | rfl <;> exact q _ G (by decide) (by decide) bb sG
end
end Pl

namespace Pl
open L2 PySem PySem.Spec PyProof.Rows
def strL : List Str := nameL ++ (["put", "strike", "add", "drop", "rename", "Put", "set", "", "A", "a1", "abcde", "a "] : List Str)
mutual
def lf : PyData → Bool
  | .none | .bool _ => true
  | .int i => decide (-1 ≤ i) && decide (i ≤ 2000)
  | .str x => decide (x ∈ strL)
  | .list xs | .tuple xs => lfA xs
  | .dict kvs => kvs.isEmpty
def lfA : List PyData → Bool
  | [] => true
  | x :: xs => lf x && lfA xs
end
theorem str_props {x : Str} (h : x ∈ strL) : PyData.strOk x = true ∧ x.cps.size ≤ 6 ∧ (x.cps.toList.all fun c => decide (c < 16 ^ 8)) = true := by
  have e : (strL.all fun x => PyData.strOk x && decide (x.cps.size ≤ 6) && (x.cps.toList.all fun c => decide (c < 16 ^ 8))) = true := by decide +kernel
  have := List.all_eq_true.mp e x h
  rw [Bool.and_eq_true, Bool.and_eq_true] at this
  exact ⟨this.1.1, of_decide_eq_true this.1.2, this.2⟩
theorem int_log {i : Int} (h0 : -1 ≤ i) (h1 : i ≤ 2000) : i.natAbs.log2 ≤ 10 := by
  by_cases h : i.natAbs = 0
  · rw [h]
    decide
  · have := (Nat.log2_lt h (k := 11)).mpr (by omega)
    omega
theorem int_short {i : Int} (h0 : -1 ≤ i) (h1 : i ≤ 2000) : (PyData.shown (.int i)).length ≤ 13 := by
  have e : ((List.range 2002).all fun (n : Nat) => decide ((PyData.shown (.int (((n : Nat) : Int) - 1))).length ≤ 13)) = true := by decide +kernel
  have := List.all_eq_true.mp e (i + 1).toNat (List.mem_range.mpr (by omega))
  have e2 : (((i + 1).toNat : Nat) : Int) - 1 = i := by omega
  rw [e2] at this
  exact of_decide_eq_true this
mutual
theorem lf_props : ∀ d : PyData, lf d = true → d.showable = true ∧ d.leavesShort 13 = true
  | .none, _ => ⟨by simp only [PyData.showable], by simp only [PyData.leavesShort]⟩
  | .bool _, _ => ⟨by simp only [PyData.showable], by simp only [PyData.leavesShort]⟩
  | .int i, h => by
    simp only [lf, Bool.and_eq_true, decide_eq_true_eq] at h
    have := int_log h.1 h.2
    exact ⟨by simp only [PyData.showable]; exact decide_eq_true (by omega), by simp only [PyData.leavesShort]; exact decide_eq_true (int_short h.1 h.2)⟩
  | .str x, h => by
    simp only [lf, decide_eq_true_eq] at h
    exact ⟨by simp only [PyData.showable], by simp only [PyData.leavesShort]; exact (str_props h).2.2⟩
  | .list xs, h => by
    simp only [lf] at h
    obtain ⟨h1, h2⟩ := lfA_props xs h
    exact ⟨by simp only [PyData.showable]; exact h1, by simp only [PyData.leavesShort]; exact h2⟩
  | .tuple xs, h => by
    simp only [lf] at h
    obtain ⟨h1, h2⟩ := lfA_props xs h
    exact ⟨by simp only [PyData.showable]; exact h1, by simp only [PyData.leavesShort]; exact h2⟩
  | .dict kvs, h => by
    simp only [lf] at h
    cases kvs with
    | nil => exact ⟨by simp only [PyData.showable, PyData.showableKv], by simp only [PyData.leavesShort, PyData.leavesShortKv]⟩
    | cons a b => cases h
theorem lfA_props : ∀ ds : List PyData, lfA ds = true → PyData.showableAll ds = true ∧ PyData.leavesShortAll 13 ds = true
  | [], _ => ⟨by simp only [PyData.showableAll], by simp only [PyData.leavesShortAll]⟩
  | d :: ds, h => by
    simp only [lfA, Bool.and_eq_true] at h
    obtain ⟨h1, h2⟩ := lf_props d h.1
    obtain ⟨h3, h4⟩ := lfA_props ds h.2
    exact ⟨by simp only [PyData.showableAll, h1, h3, Bool.and_self], by simp only [PyData.leavesShortAll, h2, h4, Bool.and_self]⟩
end
/-- data of few leaves -/
structure Bd (W D : Nat) (d : PyData) : Prop where
  l : lf d = true
  w : d.weight ≤ W
  p : d.depth ≤ D
structure BdA (W D : Nat) (ds : List PyData) : Prop where
  l : lfA ds = true
  w : PyData.weightAll ds ≤ W
  p : PyData.depthAll ds ≤ D
theorem Bd.mono {W D W' D' : Nat} {d : PyData} (h : Bd W D d) (a : W ≤ W') (b : D ≤ D') : Bd W' D' d := ⟨h.l, Nat.le_trans h.w a, Nat.le_trans h.p b⟩
theorem BdA.mono {W D W' D' : Nat} {ds : List PyData} (h : BdA W D ds) (a : W ≤ W') (b : D ≤ D') : BdA W' D' ds := ⟨h.l, Nat.le_trans h.w a, Nat.le_trans h.p b⟩
theorem BdA.nil {D : Nat} : BdA 0 D [] := ⟨by simp only [lfA], by simp only [PyData.weightAll]; exact Nat.le_refl _, by simp only [PyData.depthAll]; exact Nat.zero_le _⟩
theorem BdA.cons {W V D : Nat} {d : PyData} {ds : List PyData} (a : Bd W D d) (b : BdA V D ds) : BdA (W + 1 + V) D (d :: ds) := ⟨by simp only [lfA, a.l, b.l, Bool.and_self], by
  have := a.w
  have := b.w
  simp only [PyData.weightAll]
  omega, by
  have := a.p
  have := b.p
  simp only [PyData.depthAll]
  omega⟩
theorem BdA.app {W V D : Nat} : ∀ {ds es : List PyData}, BdA W D ds → BdA V D es → BdA (W + V) D (ds ++ es)
  | [], es, _, h => h.mono (Nat.le_add_left _ _) (Nat.le_refl _)
  | d :: ds, es, h, g => by
    obtain ⟨h1, h2, h3⟩ := h
    simp only [lfA, Bool.and_eq_true] at h1
    simp only [PyData.weightAll] at h2
    simp only [PyData.depthAll] at h3
    have hd : Bd d.weight D d := ⟨h1.1, Nat.le_refl _, by omega⟩
    have ht : BdA (PyData.weightAll ds) D ds := ⟨h1.2, Nat.le_refl _, by omega⟩
    exact (BdA.cons hd (ht.app g)).mono (by omega) (Nat.le_refl _)
theorem BdA.take {W D : Nat} : ∀ {ds : List PyData} (n : Nat), BdA W D ds → BdA W D (ds.take n)
  | ds, 0, h => by rw [List.take_zero]; exact BdA.nil.mono (Nat.zero_le _) (Nat.le_refl _)
  | [], _ + 1, h => h
  | d :: ds, n + 1, h => by
    obtain ⟨h1, h2, h3⟩ := h
    simp only [lfA, Bool.and_eq_true] at h1
    simp only [PyData.weightAll] at h2
    simp only [PyData.depthAll] at h3
    have hd : Bd d.weight D d := ⟨h1.1, Nat.le_refl _, by omega⟩
    have ht : BdA (PyData.weightAll ds) D ds := ⟨h1.2, Nat.le_refl _, by omega⟩
    exact (BdA.cons hd (ht.take n)).mono (by omega) (Nat.le_refl _)
theorem BdA.drop {W D : Nat} : ∀ {ds : List PyData} (n : Nat), BdA W D ds → BdA W D (ds.drop n)
  | ds, 0, h => h
  | [], _ + 1, h => h
  | d :: ds, n + 1, h => by
    obtain ⟨h1, h2, h3⟩ := h
    simp only [lfA, Bool.and_eq_true] at h1
    simp only [PyData.weightAll] at h2
    simp only [PyData.depthAll] at h3
    have ht : BdA W D ds := ⟨h1.2, by omega, by omega⟩
    exact ht.drop n
theorem BdA.tup {W D : Nat} {ds : List PyData} (h : BdA W D ds) : Bd W (D + 1) (.tuple ds) := ⟨by simp only [lf]; exact h.l, by simp only [PyData.weight]; exact h.w, by simp only [PyData.depth]; exact Nat.succ_le_succ h.p⟩
theorem BdA.lst {W D : Nat} {ds : List PyData} (h : BdA W D ds) : Bd W (D + 1) (.list ds) := ⟨by simp only [lf]; exact h.l, by simp only [PyData.weight]; exact h.w, by simp only [PyData.depth]; exact Nat.succ_le_succ h.p⟩
theorem Bd.items {W D : Nat} {ds : List PyData} (h : Bd W (D + 1) (.tuple ds)) : BdA W D ds := by
  obtain ⟨h1, h2, h3⟩ := h
  simp only [lf] at h1
  simp only [PyData.weight] at h2
  simp only [PyData.depth] at h3
  exact ⟨h1, h2, by omega⟩
theorem Bd.int {i : Int} {D : Nat} (h0 : -1 ≤ i) (h1 : i ≤ 2000) : Bd 11 D (.int i) := ⟨by simp only [lf, Bool.and_eq_true, decide_eq_true_eq]; exact ⟨h0, h1⟩, by
  have := int_log h0 h1
  simp only [PyData.weight]
  split <;> omega, by simp only [PyData.depth]; exact Nat.zero_le _⟩
theorem Bd.str {x : Str} {D : Nat} (h : x ∈ strL) : Bd 6 D (.str x) := ⟨by simp only [lf]; exact decide_eq_true h, by simp only [PyData.weight]; exact (str_props h).2.1, by simp only [PyData.depth]; exact Nat.zero_le _⟩
theorem Bd.shw {d : PyData} (h : Bd 1000 10 d) : Shw d := ⟨(lf_props d h.l).1, h.p, PyData.shown_fits (by decide) (by decide) (lf_props d h.l).2 (Nat.le_trans h.w (by decide))⟩
theorem name_str {x : Str} (h : x ∈ nameL) : x ∈ strL := List.mem_append.mpr (.inl h)
theorem BdA.rep {W D : Nat} : ∀ {ds : List PyData}, (∀ d ∈ ds, Bd W D d) → BdA ((W + 1) * ds.length) D ds
  | [], _ => BdA.nil
  | d :: ds, h => by
    have := BdA.rep fun e he => h e (List.mem_cons_of_mem _ he)
    refine (BdA.cons (h d List.mem_cons_self) this).mono ?_ (Nat.le_refl _)
    rw [List.length_cons, Nat.mul_add]
    omega
end Pl

namespace Pl
open L2 PySem PySem.Spec PyProof.Rows
def spPairs : Sp := fun vs H Q _ => ∃ (z l : Addr) (ss : List Str), vs = [.ref z, .ref l] ∧ Src z H ∧ l ≠ z ∧ H l = some (.lst (ss.map V.str)) ∧ Nms ss ∧
  ∀ (v : V) (d : PyData) (G : Hp), But z H G → Src z G → (∀ m, Dv m z G true v d) → Bd 130 2 d → Q v G
theorem DvL.snoc {m : Bool} {z : Addr} {H : Hp} {k : Bool} {vs : List V} {ds : List PyData} {v : V} {d : PyData} (h : DvL m z H k vs ds) (a : Dv m z H k v d) : DvL m z H k (vs ++ [v]) (ds ++ [d]) := h.app (.cons a .nil)
def hoIt : HO → Option (List V)
  | .frz _ (.tup xs) => some xs
  | .tup xs => some xs
  | _ => none
theorem TupAt.it {H : Hp} {k : Bool} {a : Addr} {xs : List V} (h : TupAt H k a xs) : ∃ o, H a = some o ∧ hoIt o = some xs := by
  cases h with
  | frz h d => exact ⟨_, h, rfl⟩
  | big h l => exact ⟨_, h, rfl⟩
  | any h => exact ⟨_, h, rfl⟩
theorem TupAt.uniq {H : Hp} {k : Bool} {a : Addr} {xs ys : List V} (h : TupAt H k a xs) (g : TupAt H k a ys) : xs = ys := by
  obtain ⟨o, h1, h2⟩ := h.it
  obtain ⟨p, g1, g2⟩ := g.it
  rw [h1] at g1
  cases g1
  exact Option.some.inj (h2.symm.trans g2)
theorem TupAt.off {H : Hp} {k : Bool} {a D : Addr} {xs ys : List V} {o : HO} (h : TupAt H k a xs) (hD : H D = some (.lst ys)) : TupAt (upd H D o) k a xs := by
  have ne : a ≠ D := fun e => by
    obtain ⟨p, h1, h2⟩ := h.it
    rw [e, hD] at h1
    cases h1
    cases h2
  cases h with
  | frz h d => exact .frz ((upd_ne ne).trans h) d
  | big h l => exact .big ((upd_ne ne).trans h) l
  | any h => exact .any ((upd_ne ne).trans h)
section
variable {z D : Addr} {H : Hp} {o : HO} {ys : List V}
mutual
theorem Dv.off (hD : H D = some (.lst ys)) : ∀ (k : Bool) (d : PyData) (v : V), Dv true z H k v d → Dv false z H k v d → Dv true z (upd H D o) k v d ∧ Dv false z (upd H D o) k v d
  | _, .none, _, h, _ => by cases h; exact ⟨.non, .non⟩
  | _, .bool _, _, h, _ => by cases h; exact ⟨.bl _, .bl _⟩
  | _, .int _, _, h, _ => by cases h; exact ⟨.int _, .int _⟩
  | _, .str _, _, h, _ => by cases h; exact ⟨.str _, .str _⟩
  | _, .list ds, _, h, _ => by
    cases h with
    | lst hm ne h t => cases hm
  | _, .dict _, _, _, h => by
    cases h with
    | dct hm ne h => cases hm
  | _, .tuple ds, _, h1, h2 => by
    cases h1 with
    | tup ne h t =>
      cases h2 with
      | tup ne' h' t' =>
        obtain rfl := h.uniq h'
        obtain ⟨a, b⟩ := DvL.off hD _ ds _ t t'
        exact ⟨.tup ne (h.off hD) a, .tup ne (h.off hD) b⟩
theorem DvL.off (hD : H D = some (.lst ys)) : ∀ (k : Bool) (ds : List PyData) (vs : List V), DvL true z H k vs ds → DvL false z H k vs ds → DvL true z (upd H D o) k vs ds ∧ DvL false z (upd H D o) k vs ds
  | _, [], _, h, _ => by cases h; exact ⟨.nil, .nil⟩
  | _, d :: ds, _, h1, h2 => by
    cases h1 with
    | cons a t =>
      cases h2 with
      | cons a' t' =>
        obtain ⟨p, q⟩ := Dv.off hD _ d _ a a'
        obtain ⟨r, s⟩ := DvL.off hD _ ds _ t t'
        exact ⟨.cons p r, .cons q s⟩
end
theorem DvL.off' {k : Bool} {ds : List PyData} {vs : List V} (h : ∀ m, DvL m z H k vs ds) (hD : H D = some (.lst ys)) (m : Bool) : DvL m z (upd H D o) k vs ds := by
  obtain ⟨a, b⟩ := DvL.off (o := o) hD k ds vs (h true) (h false)
  cases m
  · exact b
  · exact a
end
theorem yesT {σ : L2.St} {H : Hp} {A B : Hp → Prop} (h : A H) : tYes σ H fun b H1 => if b = true then A H1 else B H1 := by
  show (if true = true then A H else B H)
  rw [if_pos rfl]
  exact h
theorem cut_strs (ts : List Str) (lo hi : Option Int) : ∃ us : List Str, cutV (ts.map V.str) lo hi = us.map V.str ∧ (∀ u ∈ us, u ∈ ts) ∧ us.length ≤ ts.length := by
  unfold cutV
  refine ⟨(ts.drop _).take _, by rw [List.map_take, List.map_drop], fun u h => List.mem_of_mem_drop (List.mem_of_mem_take h), ?_⟩
  rw [List.length_take, List.length_drop]; skip
  omega
theorem name_ok {s : Str} (h : s ∈ nameL) : PyData.strOk s = true := (str_props (name_str h)).1
theorem Bd.pair {x : Str} {n : Int} (hx : x ∈ nameL) (h0 : 0 ≤ n) (h1 : n ≤ 99) : Bd 19 1 (.tuple [.str x, .int n]) :=
  (BdA.cons (D := 0) (Bd.str (name_str hx)) (BdA.cons (Bd.int (by omega) (by omega)) BdA.nil)).tup.mono (by decide) (by decide)
section
variable {P : Program} {K : PySem.W.Frag} {w : World} {base : Heap} {mg : Str → Option Value}
theorem scPairs : FnScope ["_law_source", "_law_names", "_law_some", "_law_name"] ["_law_source", "_law_names"] (defScope sPairs) := ⟨rfl, rfl, rfl, by decide +kernel, rfl, by decide +kernel, by decide +kernel⟩
theorem ok_pairs {f : Addr} {fd : FuncData} (F : Fun K "_law_pairs" "_law_pairs" sPairs f fd) (T : Cst K mg) (D : DTake P w K mg base) (DT : Df P w K mg base 2 "_law_turned" ["_law_source", "_law_things"] spTurned) (DN : Df P w K mg base 3 "_law_number" ["_law_source"] spNumber) :
    FnOk P w K mg base CX0 4 f fd ["_law_source", "_law_names"] spPairs := by
  obtain ⟨g1, fd1, G1, m1, k1, b1⟩ := D.ex
  obtain ⟨g2, fd2, G2, m2, k2, b2⟩ := DT.ex
  obtain ⟨g3, fd3, G3, m3, k3, b3⟩ := DN.ex
  refine F.ok scPairs (fun vs H Q E h => ?_) (fun cdv A outer s H vs Q E hr h => ?_)
  · obtain ⟨z, l, ss, rfl, _⟩ := h
    rfl
  · obtain ⟨z, l, ss, rfl, hz, ne, hl, ⟨hn1, hn2, hn3⟩, q⟩ := h
    refine ⟨_, pss_cons (ps_set (i := 2) scPairs.nd rfl (Or.inl rfl) (pe_slice sl_list (pe_call G2 (hr.mono (by decide)) (by rfl) m2 k2 b2 .nil pass0 (pa_cons (pv 0) (pa_cons (pe_op op_cat (pv 1) (pe_lst (pa_cons pe_str pa_nil))) pa_nil))) po_none
        (po_some (pe_call G1 (hr.mono (by decide)) (by rfl) m1 k1 b1 .nil pass0 (pa_cons (pv 0) (pa_cons pe_int pa_nil))))))
      (pss_one (ps_ret (pe_callTy call_tupF (by rfl) T.ttup (by decide +kernel) (pa_cons (pe_lc (own := [("_law_name", 3)]) (g := gName 3) (tt := tYes) rfl scPairs.nd (pi_list (pv 2)) (blkOk_by (own := [("_law_name", 3)]) (N := ["_law_source", "_law_names", "_law_some", "_law_name"]) (sc := defScope sPairs) (by decide +kernel))
          (fun _ _ _ _ _ => pg_name (i := 3) scPairs.nd rfl (Or.inl rfl)) (fun _ _ _ _ _ => pts_nil)
          (fun _ _ _ _ _ => pe_tupF (pa_cons (pv 3) (pa_cons (pe_call G3 hr (by rfl) m3 k3 b3 .nil pass0 (pa_cons (pv 0) pa_nil)) pa_nil)))) pa_nil)))), ?_⟩
    obtain ⟨oz, hzo⟩ := hz.some
    refine ⟨_, rfl, _, rfl, by show 1 ≤ sizeLine; decide, fun p1 e1 => ?_⟩
    have b1 := But.new (z := z) (o := HO.lst [V.str "q"]) e1
    have s1 := hz.new (o := HO.lst [V.str "q"]) e1
    have z1 : upd H p1 (.lst [V.str "q"]) z = some oz := (upd_ne (ne_of_none hzo e1)).trans hzo
    have hl1 := b1 _ _ ne NoT.lst hl
    refine ⟨l, p1, _, _, rfl, rfl, hl1, upd_same, by rw [List.length_map]; show ss.length + 1 ≤ sizeLine; exact Nat.le_of_lt (small1000 (by omega)), fun p2 e2 => ?_⟩
    have n2 : p2 ≠ z := (ne_of_none z1 e2).symm
    refine ⟨z, p2, ss ++ ([("q" : Str)] : List Str), rfl, s1.new e2, n2, by rw [upd_same, List.map_append]; rfl, by rw [List.length_append]; show ss.length + 1 ≤ 1000; omega, fun s h => ?_, fun q3 ts G bG sG n3 h3 hts hlen => ?_⟩
    · rcases List.mem_append.mp h with h | h; skip
      · exact name_ok (hn3 s h)
      · rw [List.mem_singleton.mp h]
        exact name_ok (by decide +kernel)
    have b3 : But z H G := (b1.trans (But.new e2)).trans bG
    have hts2 : ∀ t ∈ ts, t ∈ nameL := fun t h => by
      rcases List.mem_append.mp (hts t h) with h | h
      · exact hn3 t h
      · rw [List.mem_singleton.mp h]
        decide +kernel
    have hlen2 : ts.length ≤ 6 := by
      rw [List.length_append] at hlen
      have : ([("q" : Str)] : List Str).length = 1 := rfl
      omega
    refine ⟨_, rfl, z, 5, rfl, sG, by decide, by decide, fun r G2 r0 r1 bG2 sG2 => ?_⟩
    have h4 := bG2 _ _ n3 NoT.lst h3
    refine ⟨r, rfl, q3, _, rfl, SqL.of h4, fun p4 e4 => ?_⟩
    obtain ⟨us, eu, hus, hul⟩ := cut_strs ts none (some r)
    rw [eu]
    obtain ⟨oz2, hzo2⟩ := sG2.some
    have n4 : p4 ≠ z := (ne_of_none hzo2 e4).symm
    have b4 : But z H (upd G2 p4 (.lst (us.map V.str))) := (b3.trans bG2).trans (But.new e4)
    have s4 := sG2.new (o := .lst (us.map V.str)) e4
    have k4 : upd G2 p4 (.lst (us.map V.str)) p4 = some (.lst (us.map V.str)) := upd_same
    generalize upd G2 p4 (.lst (us.map V.str)) = G4 at b4 s4 k4 ⊢
    refine ⟨_, rfl, p4, rfl, ⟨_, SqL.of k4⟩, fun D hD => ?_⟩
    obtain ⟨oz4, hzo4⟩ := s4.some
    have nD : D ≠ z := (ne_of_none hzo4 hD).symm
    refine lc_list (K := K) (a := p4) (xs := us.map V.str) (fun i G => But z G4 G ∧ Src z G ∧ ∃ vs ds, G D = some (.lst vs) ∧ vs.length = i ∧ (∀ m, DvL m z G true vs ds) ∧ ∀ d ∈ ds, Bd 19 1 d)
      ⟨But.new hD, s4.new hD, [], [], upd_same, rfl, fun m => .nil, fun d h => by cases h⟩ (fun i G _ h => SqL.of (h.1 _ _ n4 NoT.lst k4)) ?_ ?_
    · rintro i y G hy ⟨c1, c2, vs, ds, c3, c4, c5, c6⟩
      have hlu : i < us.length := by
        have := (List.getElem?_eq_some_iff.mp hy).1
        rw [List.length_map] at this
        exact this
      obtain ⟨u, hu, rfl⟩ : ∃ u, us[i]? = some u ∧ y = .str u := by
        rw [List.getElem?_map] at hy
        cases e : us[i]? with
        | none =>
          rw [e] at hy
          cases hy
        | some u =>
          rw [e] at hy
          exact ⟨u, rfl, (Option.some.inj hy).symm⟩
      refine ⟨rfl, yesT ?_⟩
      refine ⟨_, rfl, _, rfl, z, rfl, c2, fun n G5 n0 n1 b5 s5 => ⟨by show 2 ≤ sizeLine; decide, fun p o e5 ho => ?_⟩⟩
      have b6 := b5.trans (But.new (o := HO.frz o (.tup [.str u, .int n])) e5)
      obtain ⟨oz5, hzo5⟩ := s5.some
      have n5 : p ≠ z := (ne_of_none hzo5 e5).symm
      refine ⟨vs, b6 _ _ nD NoT.lst c3, small1000 (by omega), ?_, (s5.new e5).set nD, vs ++ [.ref p], ds ++ [.tuple [.str u, .int n]], upd_same, by rw [List.length_append, c4]; rfl, fun m => ?_, fun d h => ?_⟩
      · intro b ob hb ho' e
        have nb : b ≠ D := ne_of_none e hD
        rw [upd_ne nb]
        exact b6 _ _ hb ho' (c1 _ _ hb ho' e)
      · refine DvL.off' (fun m => (DvL.to b6 _ _ _ (c5 m)).snoc ?_) (b6 _ _ nD NoT.lst c3) m
        exact .tup n5 (.frz upd_same ho) (.cons (.str _) (.cons (.int _) .nil))
      · rcases List.mem_append.mp h with h | h; skip
        · exact c6 d h
        · rw [List.mem_singleton.mp h]
          exact Bd.pair (hts2 _ (hus _ (List.mem_of_getElem? hu))) n0 n1
    · rintro G ⟨c1, c2, vs, ds, c3, c4, c5, c6⟩
      rw [List.length_map] at c4
      refine ⟨D, vs, rfl, c3, fun p5 o e5 ho => ?_⟩
      obtain ⟨oz5, hzo5⟩ := c2.some
      have n5 : p5 ≠ z := (ne_of_none hzo5 e5).symm
      have b5 := But.new (z := z) (o := HO.frz o (.tup vs)) e5
      have hlds := (c5 true).len
      exact q (.ref p5) (.tuple ds) _ ((b4.trans c1).trans b5) (c2.new e5) (fun m => .tup n5 (.frz upd_same ho) (DvL.to b5 _ _ _ (c5 m))) ((BdA.rep c6).tup.mono (by
        have : ds.length ≤ 6 := by omega
        omega) (by decide))
end
end Pl

namespace Pl
open L2 PySem PySem.Spec PyProof.Rows
/-- a drawn deed -/
def DD (z : Addr) (G : Hp) (v : V) (d : PyData) : Prop := (∀ m, Dv m z G true v d) ∧ ∃ ds, d = .tuple ds ∧ 3 ≤ ds.length ∧ ds.length ≤ 4 ∧ BdA 200 2 ds
def Kys (ks : List Int) : Prop := ks ≠ [] ∧ ks.length ≤ 5 ∧ ∀ k ∈ ks, 0 ≤ k ∧ k ≤ 9
def spDeed : Sp := fun vs H Q _ => ∃ (z ln lk : Addr) (mo : Int) (ss : List Str) (ks : List Int), vs = [.ref z, .int mo, .ref ln, .ref lk] ∧ Src z H ∧ 1 ≤ mo ∧ mo ≤ 1000 ∧ ln ≠ z ∧ H ln = some (.lst (ss.map V.str)) ∧ Nms ss ∧ lk ≠ z ∧ H lk = some (.lst (ks.map V.int)) ∧ Kys ks ∧
  ∀ (v : V) (d : PyData) (G : Hp), But z H G → Src z G → DD z G v d → Q v G
theorem mk_tup {z p : Addr} {G : Hp} {o : Obj} {vs : List V} {ds : List PyData} (e : G p = none) (ho : o.dict = none) (s : Src z G) (h : ∀ m, DvL m z G true vs ds) :
    But z G (upd G p (.frz o (.tup vs))) ∧ Src z (upd G p (.frz o (.tup vs))) ∧ ∀ m, Dv m z (upd G p (.frz o (.tup vs))) true (.ref p) (.tuple ds) := by
  obtain ⟨oz, hz⟩ := s.some
  have b := But.new (z := z) (o := HO.frz o (.tup vs)) e
  exact ⟨b, s.new e, fun m => .tup (ne_of_none hz e).symm (.frz upd_same ho) (DvL.to b _ _ _ (h m))⟩
theorem mem_map {α : Type} {f : α → V} {xs : List α} {i : Nat} {v : V} (h : (xs.map f)[i]? = some v) : ∃ x ∈ xs, v = f x := by
  have := List.mem_of_getElem? h
  obtain ⟨x, hx, e⟩ := List.mem_map.mp this
  exact ⟨x, hx, e.symm⟩
section
variable {P : Program} {K : PySem.W.Frag} {w : World} {base : Heap} {mg : Str → Option Value}
theorem scDeed : FnScope ["_law_source", "_law_moment", "_law_names", "_law_keys", "_law_word"] ["_law_source", "_law_moment", "_law_names", "_law_keys"] (defScope sDeed) := ⟨rfl, rfl, rfl, by decide +kernel, rfl, by decide +kernel, by decide +kernel⟩
theorem ok_drawdeed {f : Addr} {fd : FuncData} (F : Fun K "_law_deed" "_law_deed" sDeed f fd) (D : DOne P w K mg base) (DN : Df P w K mg base 3 "_law_number" ["_law_source"] spNumber) (DP : Df P w K mg base 4 "_law_pairs" ["_law_source", "_law_names"] spPairs) :
    FnOk P w K mg base CX0 5 f fd ["_law_source", "_law_moment", "_law_names", "_law_keys"] spDeed := by
  obtain ⟨g1, fd1, G1, m1, k1, b1⟩ := D.ex
  obtain ⟨g2, fd2, G2, m2, k2, b2⟩ := DN.ex
  obtain ⟨g3, fd3, G3, m3, k3, b3⟩ := DP.ex
  refine F.ok scDeed (fun vs H Q E h => ?_) (fun cdv A outer s H vs Q E hr h => ?_)
  · obtain ⟨z, ln, lk, mo, ss, ks, rfl, _⟩ := h
    rfl
  · obtain ⟨z, ln, lk, mo, ss, ks, rfl, hz, mo0, mo1, nn, hn, ⟨hn1, hn2, hn3⟩, nk, hk, ⟨hk1, hk2, hk3⟩, q⟩ := h
    refine ⟨_, pss_cons (ps_set (i := 4) scDeed.nd rfl (Or.inl rfl) (pe_call G1 (hr.mono (by decide)) (by rfl) m1 k1 b1 .nil pass0 (pa_cons (pv 0) (pa_cons (pe_lst (pa_cons pe_str (pa_cons pe_str (pa_cons pe_str (pa_cons pe_str (pa_cons pe_str (pa_cons pe_str (pa_cons pe_str (pa_cons pe_str pa_nil))))))))) pa_nil))))
      (pss_cons (ps_if (pt_cmpR op_eq (pv 4) pe_str (nomark _)) (pss_one (ps_ret (pe_tupF (pa_cons (pv 1) (pa_cons (pv 4) (pa_cons (pe_call G1 (hr.mono (by decide)) (by rfl) m1 k1 b1 .nil pass0 (pa_cons (pv 0) (pa_cons (pv 3) pa_nil)))
          (pa_cons (pe_call G3 hr (by rfl) m3 k3 b3 .nil pass0 (pa_cons (pv 0) (pa_cons (pv 2) pa_nil))) pa_nil))))))) pss_nil)
      (pss_cons (ps_if (pt_cmpR op_eq (pv 4) pe_str (nomark _)) (pss_one (ps_ret (pe_tupF (pa_cons (pv 1) (pa_cons (pv 4) (pa_cons (pe_call G1 (hr.mono (by decide)) (by rfl) m1 k1 b1 .nil pass0 (pa_cons (pv 0) (pa_cons (pv 3) pa_nil))) pa_nil)))))) pss_nil)
      (pss_cons (ps_if (pt_cmpR op_eq (pv 4) pe_str (nomark _)) (pss_one (ps_ret (pe_tupF (pa_cons (pv 1) (pa_cons (pv 4) (pa_cons (pe_call G1 (hr.mono (by decide)) (by rfl) m1 k1 b1 .nil pass0 (pa_cons (pv 0) (pa_cons (pv 2) pa_nil)))
          (pa_cons (pe_call G2 (hr.mono (by decide)) (by rfl) m2 k2 b2 .nil pass0 (pa_cons (pv 0) pa_nil)) pa_nil))))))) pss_nil)
      (pss_cons (ps_if (pt_cmpR op_eq (pv 4) pe_str (nomark _)) (pss_one (ps_ret (pe_tupF (pa_cons (pv 1) (pa_cons (pv 4) (pa_cons (pe_call G1 (hr.mono (by decide)) (by rfl) m1 k1 b1 .nil pass0 (pa_cons (pv 0) (pa_cons (pv 2) pa_nil))) pa_nil)))))) pss_nil)
      (pss_one (ps_ret (pe_tupF (pa_cons (pv 1) (pa_cons (pv 4) (pa_cons (pe_call G1 (hr.mono (by decide)) (by rfl) m1 k1 b1 .nil pass0 (pa_cons (pv 0) (pa_cons (pv 2) pa_nil)))
          (pa_cons (pe_call G1 (hr.mono (by decide)) (by rfl) m1 k1 b1 .nil pass0 (pa_cons (pv 0) (pa_cons (pv 2) pa_nil))) pa_nil))))))))))), ?_⟩
    obtain ⟨oz, hzo⟩ := hz.some
    refine ⟨_, rfl, by show 8 ≤ sizeLine; decide, fun p1 e1 => ?_⟩
    refine ⟨z, p1, _, rfl, hz.new e1, (ne_of_none hzo e1).symm, upd_same, by simp, by show 8 ≤ 1000; decide, fun i v G hi bG sG => ?_⟩
    obtain ⟨wd, hwd, rfl⟩ : ∃ wd : Str, wd ∈ strL ∧ v = .str wd := by
      have hm := List.mem_of_getElem? hi; skip
      simp only [List.mem_cons, List.not_mem_nil, or_false] at hm; skip
      rcases hm with rfl | rfl | rfl | rfl | rfl | rfl | rfl | rfl <;> exact ⟨_, by decide +kernel, rfl⟩
    have b0 : But z H G := (But.new e1).trans bG
    have hnG := b0 _ _ nn NoT.lst hn
    have hkG := b0 _ _ nk NoT.lst hk
    have fin : ∀ (G' : Hp) (p : Addr) (o : Obj) (vs : List V) (ds : List PyData), But z G G' → Src z G' → G' p = none → o.dict = none → (∀ m, DvL m z G' true vs ds) → 3 ≤ ds.length → ds.length ≤ 4 → BdA 200 2 ds → Q (.ref p) (upd G' p (.frz o (.tup vs))) := fun G' p o vs ds b s e ho hv l3 l4 hb => by
      obtain ⟨c1, c2, c3⟩ := mk_tup e ho s hv
      exact q _ _ _ ((b0.trans b).trans c1) c2 ⟨c3, ds, rfl, l3, l4, hb⟩
    have bm : Bd 11 2 (.int mo) := Bd.int (by omega) (by omega)
    have bw : Bd 6 2 (.str wd) := Bd.str hwd
    have nm : ∀ {G' : Hp} {i : Nat} {v : V}, (ss.map V.str)[i]? = some v → ∃ x, x ∈ nameL ∧ v = .str x := fun h => by
      obtain ⟨x, hx, e⟩ := mem_map h
      exact ⟨x, hn3 x hx, e⟩
    have ky : ∀ {i : Nat} {v : V}, (ks.map V.int)[i]? = some v → ∃ x, 0 ≤ x ∧ x ≤ 9 ∧ v = .int x := fun h => by
      obtain ⟨x, hx, e⟩ := mem_map h
      exact ⟨x, (hk3 x hx).1, (hk3 x hx).2, e⟩
    have ssne : ss.map V.str ≠ [] := by simpa using hn1
    have ksne : ks.map V.int ≠ [] := by simpa using hk1
    have ssl : (ss.map V.str).length ≤ 1000 := by rw [List.length_map]; omega
    have ksl : (ks.map V.int).length ≤ 1000 := by rw [List.length_map]; omega
    refine ⟨_, rfl, rfl, _, rfl, ?_⟩; skip
    rw [strV_eq]
    refine ite2 (fun e => ?_) fun e => ?_
    · refine ⟨_, rfl, _, rfl, _, rfl, _, rfl, z, lk, _, rfl, sG, nk, hkG, ksne, ksl, fun i v G2 hi b2 s2 => ?_⟩
      obtain ⟨x, x0, x1, rfl⟩ := ky hi
      refine ⟨_, rfl, _, rfl, z, ln, ss, rfl, s2, nn, b2 _ _ nn NoT.lst hnG, ⟨hn1, hn2, hn3⟩, fun v d G3 b3 s3 hv hb => ⟨by show 4 ≤ sizeLine; decide, fun p o e ho => ?_⟩⟩
      exact fin G3 p o _ [.int mo, .str wd, .int x, d] (b2.trans b3) s3 e ho (fun m => .cons (.int _) (.cons (.str _) (.cons (.int _) (.cons (hv m) .nil)))) (by simp) (by simp)
        ((BdA.cons bm (BdA.cons bw (BdA.cons (Bd.int (by omega) (by omega)) (BdA.cons hb BdA.nil)))).mono (by decide) (by decide))
    refine ⟨_, rfl, rfl, _, rfl, ?_⟩; skip
    rw [strV_eq]
    refine ite2 (fun e => ?_) fun e => ?_
    · refine ⟨_, rfl, _, rfl, _, rfl, _, rfl, z, lk, _, rfl, sG, nk, hkG, ksne, ksl, fun i v G2 hi b2 s2 => ?_⟩
      obtain ⟨x, x0, x1, rfl⟩ := ky hi
      refine ⟨by show 3 ≤ sizeLine; decide, fun p o e ho => ?_⟩
      exact fin G2 p o _ [.int mo, .str wd, .int x] b2 s2 e ho (fun m => .cons (.int _) (.cons (.str _) (.cons (.int _) .nil))) (by simp) (by simp)
        ((BdA.cons bm (BdA.cons bw (BdA.cons (Bd.int (by omega) (by omega)) BdA.nil))).mono (by decide) (by decide))
    refine ⟨_, rfl, rfl, _, rfl, ?_⟩; skip
    rw [strV_eq]
    refine ite2 (fun e => ?_) fun e => ?_
    · refine ⟨_, rfl, _, rfl, _, rfl, _, rfl, z, ln, _, rfl, sG, nn, hnG, ssne, ssl, fun i v G2 hi b2 s2 => ?_⟩
      obtain ⟨x, hx, rfl⟩ := nm (G' := G2) hi
      refine ⟨_, rfl, z, rfl, s2, fun n G3 n0 n1 b3 s3 => ⟨by show 4 ≤ sizeLine; decide, fun p o e ho => ?_⟩⟩
      exact fin G3 p o _ [.int mo, .str wd, .str x, .int n] (b2.trans b3) s3 e ho (fun m => .cons (.int _) (.cons (.str _) (.cons (.str _) (.cons (.int _) .nil)))) (by simp) (by simp)
        ((BdA.cons bm (BdA.cons bw (BdA.cons (Bd.str (name_str hx)) (BdA.cons (Bd.int (by omega) (by omega)) BdA.nil)))).mono (by decide) (by decide))
    refine ⟨_, rfl, rfl, _, rfl, ?_⟩; skip
    rw [strV_eq]
    refine ite2 (fun e => ?_) fun e => ?_
    · refine ⟨_, rfl, _, rfl, _, rfl, _, rfl, z, ln, _, rfl, sG, nn, hnG, ssne, ssl, fun i v G2 hi b2 s2 => ?_⟩
      obtain ⟨x, hx, rfl⟩ := nm (G' := G2) hi
      refine ⟨by show 3 ≤ sizeLine; decide, fun p o e ho => ?_⟩
      exact fin G2 p o _ [.int mo, .str wd, .str x] b2 s2 e ho (fun m => .cons (.int _) (.cons (.str _) (.cons (.str _) .nil))) (by simp) (by simp)
        ((BdA.cons bm (BdA.cons bw (BdA.cons (Bd.str (name_str hx)) BdA.nil))).mono (by decide) (by decide))
    refine ⟨_, rfl, _, rfl, _, rfl, _, rfl, z, ln, _, rfl, sG, nn, hnG, ssne, ssl, fun i v G2 hi b2 s2 => ?_⟩
    obtain ⟨x, hx, rfl⟩ := nm (G' := G2) hi
    refine ⟨_, rfl, _, rfl, z, ln, _, rfl, s2, nn, b2 _ _ nn NoT.lst hnG, ssne, ssl, fun i v G3 hi b3 s3 => ?_⟩
    obtain ⟨y, hy, rfl⟩ := nm (G' := G3) hi
    refine ⟨by show 4 ≤ sizeLine; decide, fun p o e ho => ?_⟩
    exact fin G3 p o _ [.int mo, .str wd, .str x, .str y] (b2.trans b3) s3 e ho (fun m => .cons (.int _) (.cons (.str _) (.cons (.str _) (.cons (.str _) .nil)))) (by simp) (by simp)
      ((BdA.cons bm (BdA.cons bw (BdA.cons (Bd.str (name_str hx)) (BdA.cons (Bd.str (name_str hy)) BdA.nil)))).mono (by decide) (by decide))
end
end Pl

namespace Pl
open L2 PySem PySem.Spec PyProof.Rows
def spDeeds : Sp := fun vs H Q _ => ∃ (z : Addr), vs = [.ref z, .int 6] ∧ Src z H ∧
  ∀ (p : Addr) (us : List V) (G : Hp), But z H G → Src z G → p ≠ z → G p = some (.lst us) → us.length ≤ 7 → (∀ u ∈ us, ∃ d, DD z G u d) → Q (.ref p) G
theorem DD.to {z : Addr} {H G : Hp} {v : V} {d : PyData} (h : DD z H v d) (b : But z H G) : DD z G v d := ⟨fun m => Dv.to b _ _ _ (h.1 m), h.2⟩
theorem DD.off {z D : Addr} {H : Hp} {v : V} {d : PyData} {ys : List V} {o : HO} (h : DD z H v d) (hD : H D = some (.lst ys)) : DD z (upd H D o) v d := by
  obtain ⟨a, b⟩ := Dv.off (o := o) hD true d v (h.1 true) (h.1 false)
  refine ⟨fun m => ?_, h.2⟩
  cases m
  · exact b
  · exact a
section
variable {P : Program} {K : PySem.W.Frag} {w : World} {base : Heap} {mg : Str → Option Value}
theorem dd_rest {D : Ends} {z ln lk pf : Addr} {mo : Int} {x : Option V} {G : Hp} (s : Src z G) (h : ∀ (m2 : Int) (G2 : Hp), mo + 1 ≤ m2 → m2 ≤ mo + 5 → But z G G2 → Src z G2 → D.nx [some (.ref z), some (.int 6), some (.ref ln), some (.ref lk), some (.ref pf), some (.int m2), x] G2) :
    tAsg (tOp (rI0 fun i j => V.int (i + j)) (tVar 5) (tCall spOne [] E0 (tCons (tVar 0) (tCons (tLst (tCons (tC (V.int 1)) (tCons (tC (V.int 1)) (tCons (tC (V.int 2)) (tCons (tC (V.int 5)) tNil))))) tNil)))) (gName 5) D [some (.ref z), some (.int 6), some (.ref ln), some (.ref lk), some (.ref pf), some (.int mo), x] G := by
  obtain ⟨oz, z0⟩ := s.some
  refine ⟨_, rfl, _, rfl, by show 4 ≤ sizeLine; decide, fun p e => ⟨z, p, _, rfl, s.new e, (ne_of_none z0 e).symm, upd_same, by simp, by show 4 ≤ 1000; decide, fun i v G2 hi b s2 => ?_⟩⟩
  have bb := (But.new (z := z) e).trans b
  have hm := List.mem_of_getElem? hi; skip
  simp only [List.mem_cons, List.not_mem_nil, or_false] at hm; skip
  rcases hm with rfl | rfl | rfl | rfl <;> exact ⟨_, _, rfl, rfl, h _ G2 (by omega) (by omega) bb s2⟩
theorem dd_deed {K : PySem.W.Frag} {D : Ends} {z ln lk pf : Addr} {mo : Int} {x : Option V} {us : List V} {ss : List Str} {ks : List Int} {G : Hp} (s : Src z G) (h0 : 1 ≤ mo) (h1 : mo ≤ 1000) (nn : ln ≠ z) (hn : G ln = some (.lst (ss.map V.str))) (hN : Nms ss) (nk : lk ≠ z) (hk : G lk = some (.lst (ks.map V.int))) (hK : Kys ks) (nf : pf ≠ z) (hf : G pf = some (.lst us)) (hl : us.length < 1000)
    (h : ∀ (u : V) (d : PyData) (G2 : Hp), But z G G2 → Src z G2 → DD z G2 u d → D.nx [some (.ref z), some (.int 6), some (.ref ln), some (.ref lk), some (.ref pf), some (.int mo), x] (upd G2 pf (.lst (us ++ [u])))) :
    tDrop (tBM K "list" rAppend (tVar 4) (tCons (tCall spDeed [] E0 (tCons (tVar 0) (tCons (tVar 5) (tCons (tVar 2) (tCons (tVar 3) tNil))))) tNil)) D [some (.ref z), some (.int 6), some (.ref ln), some (.ref lk), some (.ref pf), some (.int mo), x] G :=
  ⟨_, rfl, .inl ⟨rfl, _, SqL.of hf⟩, _, rfl, _, rfl, _, rfl, _, rfl, z, ln, lk, mo, ss, ks, rfl, s, h0, h1, nn, hn, hN, nk, hk, hK, fun v d G2 b s2 hd => ⟨pf, us, v, rfl, rfl, b _ _ nf NoT.lst hf, small1000 (by omega), h v d G2 b s2 hd⟩⟩
theorem scDeeds : FnScope ["_law_source", "_law_most", "_law_names", "_law_keys", "_law_found", "_law_moment", "_law_turn"] ["_law_source", "_law_most"] (defScope sDeeds) := ⟨rfl, rfl, rfl, by decide +kernel, rfl, by decide +kernel, by decide +kernel⟩
theorem ok_deeds {f : Addr} {fd : FuncData} (F : Fun K "_law_deeds" "_law_deeds" sDeeds f fd) (T2 : Cs2 mg) (DT : DTake P w K mg base) (D : DOne P w K mg base) (DN : Df P w K mg base 3 "_law_number" ["_law_source"] spNumber) (DC : Df P w K mg base 3 "_law_called" ["_law_source"] spCalled)
    (DD_ : Df P w K mg base 5 "_law_deed" ["_law_source", "_law_moment", "_law_names", "_law_keys"] spDeed) : FnOk P w K mg base CX0 6 f fd ["_law_source", "_law_most"] spDeeds := by
  obtain ⟨g0, fd0, G0, m0, k0, b0⟩ := DT.ex
  obtain ⟨g1, fd1, G1, m1, k1, b1⟩ := D.ex
  obtain ⟨g2, fd2, G2, m2, k2, b2⟩ := DN.ex
  obtain ⟨g3, fd3, G3, m3, k3, b3⟩ := DC.ex
  obtain ⟨g4, fd4, G4, m4, k4, b4⟩ := DD_.ex
  refine F.ok scDeeds (fun vs H Q E h => ?_) (fun cdv A outer s H vs Q E hr h => ?_)
  · obtain ⟨z, rfl, _⟩ := h
    rfl
  · obtain ⟨z, rfl, hz, q⟩ := h
    refine ⟨_, pss_cons (ps_par3 (i := 2) (j := 3) (l := 4) (by rfl) scDeeds.nd rfl rfl rfl (by decide) (by decide) (by decide) rfl rfl rfl (pa_cons (pe_call G3 (hr.mono (by decide)) (by rfl) m3 k3 b3 .nil pass0 (pa_cons (pv 0) pa_nil))
        (pa_cons (pe_call G1 (hr.mono (by decide)) (by rfl) m1 k1 b1 .nil pass0 (pa_cons (pv 0) (pa_cons (pe_lst (pa_cons (pe_lst (pa_cons pe_int pa_nil)) (pa_cons (pe_lst (pa_cons pe_int (pa_cons pe_int pa_nil))) (pa_cons (pe_lst (pa_cons pe_int (pa_cons pe_int (pa_cons pe_int pa_nil)))) pa_nil)))) pa_nil)))
        (pa_cons (pe_lst pa_nil) pa_nil))) (by rfl))
      (pss_cons (ps_set (i := 5) scDeeds.nd rfl (Or.inl rfl) (pe_call G1 (hr.mono (by decide)) (by rfl) m1 k1 b1 .nil pass0 (pa_cons (pv 0) (pa_cons (pe_lst (pa_cons pe_int (pa_cons pe_int (pa_cons pe_int (pa_cons pe_int pa_nil))))) pa_nil))))
      (pss_cons (ps_for PassesOwn.never rfl (pi_range1 rfl T2.rng (pa_cons (pe_call G0 (hr.mono (by decide)) (by rfl) m0 k0 b0 .nil pass0 (pa_cons (pv 0) (pa_cons (pe_op op_add (pv 1) pe_int) pa_nil))) pa_nil)) (pg_name (i := 6) scDeeds.nd rfl (Or.inl rfl))
        (pss_cons (ps_if (PW.pt (pw_and (pt_cmpR op_eq (pv 6) pe_int (nomark _)) (pw_and1 (pt_cmpR op_gt (pe_call G0 (hr.mono (by decide)) (by rfl) m0 k0 b0 .nil pass0 (pa_cons (pv 0) (pa_cons pe_int pa_nil))) pe_int (nomark _)))))
            (pss_one (ps_expr (pe_bm PySem.F.plainAttrs_list PySem.F.slot_list_append PySem.F.type_list_append mt_append (pv 4) (pa_cons
              (pe_tupF (pa_cons (pv 5) (pa_cons pe_str (pa_cons (pe_ix ix_list (pv 2) pe_int (fun _ _ => rfl)) (pa_cons (pe_call G2 (hr.mono (by decide)) (by rfl) m2 k2 b2 .nil pass0 (pa_cons (pv 0) pa_nil)) pa_nil))))) pa_nil))))
            (pss_one (ps_expr (pe_bm PySem.F.plainAttrs_list PySem.F.slot_list_append PySem.F.type_list_append mt_append (pv 4) (pa_cons
              (pe_call G4 hr (by rfl) m4 k4 b4 .nil pass0 (pa_cons (pv 0) (pa_cons (pv 5) (pa_cons (pv 2) (pa_cons (pv 3) pa_nil))))) pa_nil)))))
        (pss_one (ps_set (i := 5) scDeeds.nd rfl (Or.inl rfl) (pe_op op_add (pv 5) (pe_call G1 (hr.mono (by decide)) (by rfl) m1 k1 b1 .nil pass0 (pa_cons (pv 0) (pa_cons (pe_lst (pa_cons pe_int (pa_cons pe_int (pa_cons pe_int (pa_cons pe_int pa_nil))))) pa_nil))))))))
      (pss_one (ps_ret (pv 4))))), ?_⟩
    refine ⟨_, rfl, z, rfl, hz, fun ln ss Ga ba sa na ha hN => ?_⟩
    refine ⟨_, rfl, by show 1 ≤ sizeLine; decide, fun p1 e1 => ⟨by show 2 ≤ sizeLine; decide, fun p2 e2 => ⟨by show 3 ≤ sizeLine; decide, fun p3 e3 => ⟨by show 3 ≤ sizeLine; decide, fun p4 e4 => ?_⟩⟩⟩⟩
    obtain ⟨oz, z0⟩ := sa.some
    have s1 := same_new (o := HO.lst [V.int 0]) e1
    have s2 := same_new (o := HO.lst [V.int 0, V.int 1]) e2
    have s3 := same_new (o := HO.lst [V.int 3, V.int 9, V.int 5]) e3
    have s4 := same_new (o := HO.lst [.ref p1, .ref p2, .ref p3]) e4
    have z1 := s1 _ _ z0
    have z2 := s2 _ _ z1
    have z3 := s3 _ _ z2
    have n1 : p1 ≠ z := (ne_of_none z0 e1).symm
    have n2 : p2 ≠ z := (ne_of_none z1 e2).symm
    have n3 : p3 ≠ z := (ne_of_none z2 e3).symm
    have n4 : p4 ≠ z := (ne_of_none z3 e4).symm
    have bq := But.of (z := z) (((s1.trans s2).trans s3).trans s4)
    have k1 := s4 _ _ (s3 _ _ (s2 p1 _ upd_same))
    have k2 := s4 _ _ (s3 p2 _ upd_same)
    have k3 := s4 p3 _ upd_same
    refine ⟨z, p4, _, rfl, (((sa.new e1).new e2).new e3).new e4, n4, upd_same, by simp, by show 3 ≤ 1000; decide, fun i v Gb hi bb sb => ?_⟩
    obtain ⟨lk, ks, rfl, nk, hk, hK⟩ : ∃ lk ks, v = .ref lk ∧ lk ≠ z ∧ Gb lk = some (.lst (List.map V.int ks)) ∧ Kys ks := by
      have hm := List.mem_of_getElem? hi; skip
      simp only [List.mem_cons, List.not_mem_nil, or_false] at hm; skip
      rcases hm with rfl | rfl | rfl
      · exact ⟨p1, [0], rfl, n1, bb _ _ n1 NoT.lst k1, by simp, by decide, by decide⟩
      · exact ⟨p2, [0, 1], rfl, n2, bb _ _ n2 NoT.lst k2, by simp, by decide, by decide⟩
      · exact ⟨p3, [3, 9, 5], rfl, n3, bb _ _ n3 NoT.lst k3, by simp, by decide, by decide⟩
    refine ⟨by show 0 ≤ sizeLine; decide, fun pf ef => ⟨_, _, _, rfl, ?_⟩⟩
    obtain ⟨oz2, zb⟩ := sb.some
    have nf : pf ≠ z := (ne_of_none zb ef).symm
    have bf := But.new (z := z) (o := HO.lst []) ef
    have sf := sb.new (o := HO.lst []) ef
    have hf : upd Gb pf (.lst []) pf = some (.lst []) := upd_same
    have hnf := bf _ _ na NoT.lst (bb _ _ na NoT.lst (bq _ _ na NoT.lst ha))
    have hkf := bf _ _ nk NoT.lst hk
    have b0 : But z H (upd Gb pf (.lst [])) := ((ba.trans bq).trans bb).trans bf
    have nlf : pf ≠ ln := fun e => by
      subst e
      rw [bb _ _ na NoT.lst (bq _ _ na NoT.lst ha)] at ef
      cases ef
    have nkf : pf ≠ lk := fun e => by
      subst e
      rw [hk] at ef
      cases ef
    have hfresh : ∀ o, H pf = some o → NoT o → False := fun o e no => by
      have := bb _ _ nf no (bq _ _ nf no (ba _ _ nf no e))
      rw [this] at ef
      cases ef
    generalize upd Gb pf (.lst []) = Gc at bf sf hf hnf hkf b0 ⊢
    obtain ⟨oz3, zc⟩ := sf.some
    refine ⟨_, rfl, by show 4 ≤ sizeLine; decide, fun p5 e5 => ⟨z, p5, _, rfl, sf.new e5, (ne_of_none zc e5).symm, upd_same, by simp, by show 4 ≤ 1000; decide, fun i2 v2 Gd hi2 bd sd => ?_⟩⟩
    obtain ⟨mo, rfl, mo0, mo1⟩ : ∃ mo : Int, v2 = .int mo ∧ 1 ≤ mo ∧ mo ≤ 900 := by
      have hm := List.mem_of_getElem? hi2
      simp only [List.mem_cons, List.not_mem_nil, or_false] at hm; skip
      rcases hm with rfl | rfl | rfl | rfl <;> exact ⟨_, rfl, by decide, by decide⟩
    have b5 : But z Gc Gd := (But.new e5).trans bd
    refine ⟨_, rfl, _, rfl, _, _, rfl, rfl, z, _, rfl, sd, by decide, by decide, fun r Ge r0 r1 be se => ⟨r, rfl, by omega, by omega, ?_⟩⟩
    have bge : But z Gc Ge := b5.trans be
    refine for_range (n := r.toNat) (fun i σ G => ∃ (mo : Int) (x : Option V) (us : List V), σ = [some (.ref z), some (.int 6), some (.ref ln), some (.ref lk), some (.ref pf), some (.int mo), x] ∧ 1 ≤ mo ∧ mo ≤ 900 + 5 * (i : Int) ∧ G ln = some (.lst (ss.map V.str)) ∧ G lk = some (.lst (ks.map V.int)) ∧ But z H G ∧ Src z G ∧ G pf = some (.lst us) ∧ us.length = i ∧ ∀ u ∈ us, ∃ d, DD z G u d)
      ⟨mo, none, [], rfl, mo0, by omega, bge _ _ na NoT.lst hnf, bge _ _ nk NoT.lst hkf, b0.trans bge, se, bge _ _ nf NoT.lst hf, rfl, fun u h => by cases h⟩ ?_ ?_
    · rintro i σ G hi ⟨mo, x, us, rfl, c1, c2, c3, c4, c5, c6, c7, c8, c9⟩
      have hi7 : i < 7 := by omega
      have end_ : ∀ (m2 : Int) (G2 G4 : Hp) (u : V) (d : PyData), But z G G2 → Src z G2 → DD z G2 u d → mo + 1 ≤ m2 → m2 ≤ mo + 5 → But z (upd G2 pf (.lst (us ++ [u]))) G4 → Src z G4 →
          ∃ (mo : Int) (x : Option V) (us : List V), [some (V.ref z), some (V.int 6), some (V.ref ln), some (V.ref lk), some (V.ref pf), some (V.int m2), some (V.int (0 + (i : Int)))] = [some (.ref z), some (.int 6), some (.ref ln), some (.ref lk), some (.ref pf), some (.int mo), x] ∧ 1 ≤ mo ∧ mo ≤ 900 + 5 * ((i + 1 : Nat) : Int) ∧ G4 ln = some (.lst (ss.map V.str)) ∧ G4 lk = some (.lst (ks.map V.int)) ∧ But z H G4 ∧ Src z G4 ∧ G4 pf = some (.lst us) ∧ us.length = i + 1 ∧ ∀ u ∈ us, ∃ d, DD z G4 u d := fun m2 G2 G4 u d b s hd l1 l2 b4 s4 => by
        have hpf := b _ _ nf NoT.lst c7
        have up : ∀ b' o, b' ≠ z → b' ≠ pf → NoT o → G b' = some o → G4 b' = some o := fun b' o n1 n2 no e => b4 _ _ n1 no ((upd_ne n2).trans (b _ _ n1 no e))
        refine ⟨m2, _, us ++ [u], rfl, by omega, by omega, up _ _ na nlf.symm NoT.lst c3, up _ _ nk nkf.symm NoT.lst c4, fun b' o n1 no e => ?_, s4, b4 _ _ nf NoT.lst upd_same, by rw [List.length_append, c8]; rfl, fun w hw => ?_⟩
        · exact up b' o n1 (fun e2 => by
            subst e2
            exact hfresh o e no) no (c5 _ _ n1 no e)
        · rcases List.mem_append.mp hw with hw | hw
          · obtain ⟨d', hd'⟩ := c9 w hw
            exact ⟨d', ((hd'.to b).off hpf).to b4⟩
          · rw [List.mem_singleton.mp hw]
            exact ⟨d, (hd.off hpf).to b4⟩
      refine ⟨_, rfl, rfl, _, rfl, ?_⟩; skip
      refine ite2 (fun e => ?_) fun e => ?_
      · refine ⟨_, rfl, z, 3, rfl, c6, by decide, by decide, fun r G2 r0 r1 b2 s2 => ⟨_, _, rfl, rfl, _, rfl, ?_⟩⟩
        refine ite2 (fun e => ?_) fun e => ?_
        · cases ss with
          | nil => exact absurd rfl hN.1
          | cons nm rs =>
          refine ⟨_, rfl, .inl ⟨rfl, _, SqL.of (b2 _ _ nf NoT.lst c7)⟩, _, rfl, _, rfl, ln, _, _, .str nm, rfl, rfl, SqL.of (b2 _ _ na NoT.lst c3), atI_nat (j := 0) rfl, _, rfl, z, rfl, s2, fun n G3 n0 n1 b3 s3 => ⟨by show 4 ≤ sizeLine; decide, fun p o e ho => ?_⟩⟩
          obtain ⟨d1, d2, d3⟩ := mk_tup (ds := [.int mo, .str "add", .str nm, .int n]) e ho s3 (fun m => .cons (.int mo) (.cons (.str "add") (.cons (.str nm) (.cons (.int n) .nil))))
          have b4 := (b2.trans b3).trans d1
          have hdd : DD z (upd G3 p (.frz o (.tup [.int mo, .str "add", .str nm, .int n]))) (.ref p) (.tuple [.int mo, .str "add", .str nm, .int n]) := ⟨d3, _, rfl, by simp, by simp, (BdA.cons (D := 2) (Bd.int (by omega) (by omega)) (BdA.cons (Bd.str (x := "add") (by decide +kernel)) (BdA.cons (Bd.str (name_str (hN.2.2 nm List.mem_cons_self))) (BdA.cons (Bd.int (by omega) (by omega)) BdA.nil)))).mono (by decide) (by decide)⟩
          exact ⟨pf, us, .ref p, rfl, rfl, b4 _ _ nf NoT.lst c7, small1000 (by omega), dd_rest (d2.set nf) fun m2 G5 l1 l2 b5 s5 => end_ m2 _ G5 _ _ b4 d2 hdd l1 l2 b5 s5⟩
        · exact dd_deed s2 c1 (by omega) na (b2 _ _ na NoT.lst c3) hN nk (b2 _ _ nk NoT.lst c4) hK nf (b2 _ _ nf NoT.lst c7) (by omega) fun u d G3 b3 s3 hd => dd_rest (s3.set nf) fun m2 G5 l1 l2 b5 s5 => end_ m2 _ G5 _ _ (b2.trans b3) s3 hd l1 l2 b5 s5
      · exact dd_deed c6 c1 (by omega) na c3 hN nk c4 hK nf c7 (by omega) fun u d G3 b3 s3 hd => dd_rest (s3.set nf) fun m2 G5 l1 l2 b5 s5 => end_ m2 _ G5 _ _ b3 s3 hd l1 l2 b5 s5
    · rintro σ G ⟨mo, x, us, rfl, c1, c2, c3, c4, c5, c6, c7, c8, c9⟩
      exact ⟨_, rfl, q pf us G c5 c6 nf c7 (by omega) c9⟩
end
end Pl

namespace Pl
open L2 PySem PySem.Spec PyProof.Rows
/-- a predicate of any data of few leaves, as the law reads it -/
def spL (f : PyData → Bool) : Sp := fun vs H Q _ => ∃ (m : Bool) (z : Addr) (k : Bool) (v : V) (d : PyData), vs = [v] ∧ Dv m z H k v d ∧ Bd 1000 10 d ∧ ∀ H', Same H H' → Q (.bl (f d)) H'
section
variable {P : Program} {K : PySem.W.Frag} {w : World} {base : Heap} {mg : Str → Option Value}
theorem scLNum : FnScope ["_law_value", "_law_low", "_law_high"] ["_law_value", "_law_low", "_law_high"] (defScope sLIsNumber) := ⟨rfl, rfl, rfl, by decide +kernel, rfl, by decide +kernel, by decide +kernel⟩
theorem ok_lnum {f : Addr} {fd : FuncData} (F : Fun K "_law_is_number" "_law_is_number" sLIsNumber f fd) (T : Cst K mg) : FnOk P w K mg base CX0 1 f fd ["_law_value", "_law_low", "_law_high"] spW := by
  refine F.ok scLNum (fun vs H Q E h => ?_) (fun cdv A outer s H vs Q E hr h => ?_)
  · obtain ⟨m, z, k, v, d, lo, hi, rfl, _⟩ := h
    rfl
  · obtain ⟨m, z, k, v, d, lo, hi, rfl, hd, hw, q⟩ := h
    refine ⟨_, pss_one (ps_ret (pe_and (pe_callB call_isi (by rfl) T.isi (by decide +kernel) (pa_cons (pv 0) (pa_cons (pe_bltn (v := .ty "int") (by rfl) T.tint (by decide +kernel) rfl) pa_nil)))
      (pe_and (pe_not (pe_callB call_isi (by rfl) T.isi (by decide +kernel) (pa_cons (pv 0) (pa_cons (pe_bltn (v := .ty "bool") (by rfl) T.tbool (by decide +kernel) rfl) pa_nil))))
      (pe_one (pe_chain op_le op_le (pv 1) (pv 0) (pv 2)))))), ?_⟩
    have no : isNum d = false → Q (.bl false) H := fun e => by
      rw [← within_no (lo := lo) (hi := hi) e]
      exact q _ (Same.refl _)
    refine ⟨_, rfl, v, _, _, _, _, rfl, .ty _, hd.ty, kit_int d, _, rfl, ?_⟩
    refine ite2 (fun e => ?_) fun e => no ?_
    · refine ⟨_, rfl, v, _, _, _, _, rfl, .ty _, hd.ty, kit_bool d, _, rfl, _, rfl, ?_⟩
      refine ite2 (fun e2 => ?_) fun e2 => no ?_
      · have e3 : isNum d = true := by cases d <;> first | rfl | (cases e; done) | (cases e2; done)
        obtain ⟨i, rfl⟩ := isNum_inv e3
        cases hd
        refine ⟨_, rfl, _, rfl, _, _, rfl, rfl, _, rfl, ?_⟩; skip
        have q2 : Q (.bl (decide (lo ≤ i) && decide (i ≤ hi))) H := q _ (Same.refl _)
        refine ite2 (fun e => ?_) fun e => ?_
        · refine ⟨_, rfl, _, _, rfl, rfl, ?_⟩
          rw [show decide (lo ≤ i) = true from e, Bool.true_and] at q2
          exact q2
        · rw [show decide (lo ≤ i) = false from Bool.eq_false_iff.mpr e, Bool.false_and] at q2
          exact q2
      · cases d <;> first | rfl | exact absurd rfl e2 | cases e
    · cases d <;> first | rfl | exact absurd rfl e
theorem len_in (n : Nat) : inV (.int (n : Int)) [.int 1, .int 2, .int 3, .int 4] = (decide (1 ≤ (n : Int)) && decide ((n : Int) ≤ 4)) := by
  unfold inV
  simp only [List.any_cons, List.any_nil, Bool.or_false, eqV]
  rw [Bool.eq_iff_iff]
  simp only [Bool.or_eq_true, beq_iff_eq, Bool.and_eq_true, decide_eq_true_eq]
  omega
def sg (c : Nat) : Str := { cps := #[c] }
theorem sg_ok {x : Str} (h : PyData.strOk x = true) {c : Nat} (hc : c ∈ x.cps.toList) : PyData.strOk (sg c) = true := by
  unfold PyData.strOk at h ⊢
  rw [← Array.all_toList] at h ⊢
  have := List.all_eq_true.mp h c hc
  simpa [sg] using this
theorem filter_all (l : List Nat) : decide ((((l.filter fun c => !inL c).map sg)).length = 0) = l.all inL := by
  rw [List.length_map]
  induction l with
  | nil => rfl
  | cons c l ih =>
    rw [List.filter_cons, List.all_cons]
    cases e : inL c with
    | true => simpa using ih
    | false => simp
theorem scLWord : FnScope ["_law_value", "_law_letters", "_law_sign"] ["_law_value"] (defScope sLIsWord) := ⟨rfl, rfl, rfl, by decide +kernel, rfl, by decide +kernel, by decide +kernel⟩
theorem ok_lword {f : Addr} {fd : FuncData} (F : Fun K "_law_is_word" "_law_is_word" sLIsWord f fd) (T : Cst K mg) : FnOk P w K mg base CX0 1 f fd ["_law_value"] (spL isName) := by
  refine F.ok scLWord (fun vs H Q E h => ?_) (fun cdv A outer s H vs Q E hr h => ?_)
  · obtain ⟨m, z, k, v, d, rfl, _⟩ := h
    rfl
  · obtain ⟨m, z, k, v, d, rfl, hd, hb, q⟩ := h
    refine ⟨_, pss_cons (ps_set (i := 1) scLWord.nd rfl (Or.inr rfl) pe_str)
      (pss_cons (ps_if (PW.pt (pw_or (pt_not (pt_val (pe_callB call_isi (by rfl) T.isi (by decide +kernel) (pa_cons (pv 0) (pa_cons (pe_bltn (v := .ty "str") (by rfl) T.tstr (by decide +kernel) rfl) pa_nil)))))
        (pw_or1 (pt_cmpR op_notIn_seq (pe_callB call_len_str (by rfl) T.len PySem.boot_len (pa_cons (pv 0) pa_nil)) (pe_lst (pa_cons pe_int (pa_cons pe_int (pa_cons pe_int (pa_cons pe_int pa_nil))))) (by rfl)))))
        (pss_one (ps_ret pe_bl)) pss_nil)
      (pss_one (ps_ret (pe_cmpR (op_eqD (show (A.deeper _).units + 64 < cLine by have := hr.un; omega)) (pe_lc (own := [("_law_sign", 2)]) (g := gName 2) (tt := _) rfl scLWord.nd (pi_str (pv 0)) (blkOk_by (own := [("_law_sign", 2)]) (N := ["_law_value", "_law_letters", "_law_sign"]) (sc := defScope sLIsWord) (by decide +kernel))
        (fun _ _ _ _ _ => pg_name (i := 2) scLWord.nd rfl (Or.inl rfl)) (fun _ _ _ _ _ => pts_one (pt_cmpR op_notIn_sign (pv 2) (pv 1) (by rfl)))
        (fun _ _ _ _ _ => pv 2)) (pe_lst pa_nil) (nomark _))))), ?_⟩
    have no : isName d = false → ∀ G, Same H G → Q (.bl false) G := fun e G s => by
      rw [← e]
      exact q _ s
    refine ⟨_, rfl, v, _, _, _, _, rfl, .ty _, hd.ty, kit_str d, _, rfl, ?_⟩
    cases d with
    | str x =>
      cases hd
      have hx := str_len hb.w
      refine iteF ?_
      refine ⟨_, rfl, _, rfl, sz1000 hx, by show 4 ≤ sizeLine; decide, fun p hp => ?_⟩
      have s0 : Same H (upd H p (.lst [.int 1, .int 2, .int 3, .int 4])) := same_new hp
      refine ⟨p, _, rfl, .inl (SqL.of upd_same), rfl, by decide, _, rfl, ?_⟩
      generalize upd H p (.lst [.int 1, .int 2, .int 3, .int 4]) = G0 at s0 ⊢
      have e0 : (!inV (.int (x.length : Nat)) [.int 1, .int 2, .int 3, .int 4]) = !(decide (1 ≤ (x.length : Int)) && decide ((x.length : Int) ≤ 4)) := congrArg Bool.not (len_in x.length)
      refine ite2 (fun e1 => no ?_ _ s0) fun e1 => ?_
      · have e2 := e0.symm.trans e1
        show (decide (1 ≤ (x.length : Int)) && decide ((x.length : Int) ≤ 4) && _) = false
        rw [show (decide (1 ≤ (x.length : Int)) && decide ((x.length : Int) ≤ 4)) = false from by
          rw [← Bool.not_not (_ && _), e2]
          rfl, Bool.false_and]
      have e2 : (decide (1 ≤ (x.length : Int)) && decide ((x.length : Int) ≤ 4)) = true := by
        have := e0.symm.trans (Bool.eq_false_iff.mpr e1)
        simpa using this
      have key : ∀ G, Same H G → Q (.bl (x.cps.toList.all inL)) G := fun G s => by
        have q2 : Q (.bl (decide (1 ≤ (x.length : Int)) && decide ((x.length : Int) ≤ 4) && x.cps.toList.all inL)) G := q G s
        rw [e2, Bool.true_and] at q2
        exact q2
      have hsx : PyData.strOk x = true := by
        have := hb.l
        simp only [lf, decide_eq_true_eq] at this
        exact (str_props this).1
      refine ⟨_, rfl, x, rfl, fun D hD => lc_it walk_str (fun i G => Same G0 G ∧ G D = some (.lst ((((x.cps.toList.take i).filter fun c => !inL c).map sg).map V.str))) ⟨same_new hD, upd_same⟩ (fun _ _ _ _ => True.intro) ?_ ?_⟩
      · rintro i y G G' hi ⟨s1, s2⟩ ⟨rfl, c, hc, rfl⟩
        have hc' : (x.cps.toList[i]? = some c) := by
          rw [Array.getElem?_toList]
          exact hc
        refine ⟨rfl, ?_⟩
        refine ⟨_, rfl, _, rfl, c, LET, rfl, rfl, _, rfl, ?_⟩
        have e3 : (!decide (c ∈ LET.cps.toList)) = !inL c := rfl
        rw [e3]
        refine ite2 (fun e4 => ?_) fun e4 => ?_
        · refine ⟨_, rfl, _, s2, ?_, fun b o e => ?_, ?_⟩
          · rw [List.length_map, List.length_map]
            refine Nat.lt_of_le_of_lt (List.length_filter_le _ _) ?_
            rw [List.length_take]
            exact Nat.lt_of_le_of_lt (Nat.min_le_right _ _) (small1000 hx)
          · rw [upd_ne (ne_of_none e hD)]
            exact s1 b o e
          · rw [upd_same, take_snoc hc', List.filter_append, List.filter_cons, if_pos e4, List.map_append, List.map_append]
            rfl
        · refine ⟨s1, ?_⟩
          rw [take_snoc hc', List.filter_append, List.filter_cons, if_neg e4, List.filter_nil, List.append_nil]
          exact s2
      · rintro G ⟨s1, s2⟩
        have e4 : x.cps.toList.take x.cps.size = x.cps.toList := by
          rw [← Array.length_toList]
          exact List.take_length
        rw [e4] at s2
        refine ⟨by show 0 ≤ sizeLine; decide, fun p2 e5 => ⟨_, _, .lst (SqL.of ((upd_ne (ne_of_none s2 e5)).trans s2)) (dps _), .lst (SqL.of upd_same) .nil, shaped_strs _ fun u hu => ?_, by decide +kernel, ?_⟩⟩
        · obtain ⟨c, hc, rfl⟩ := List.mem_map.mp hu
          exact sg_ok hsx ((List.mem_filter.mp hc).1)
        · rw [eqv_nil, filter_all]
          exact key _ ((s0.trans s1).trans (same_new e5))
    | _ => exact iteT (no rfl _ (Same.refl _))
end
end Pl

namespace Pl
open L2 PySem PySem.Spec PyProof.Rows
def spLK (f : PyData → Bool) : Sp := fun vs H Q _ => ∃ (m : Bool) (z : Addr) (v : V) (d : PyData), vs = [v] ∧ Dv m z H true v d ∧ Bd 1000 9 d ∧ ∀ H', Same H H' → Q (.bl (f d)) H'
theorem bd_of {W D : Nat} {d : PyData} {ds : List PyData} (h : BdA W D ds) (m : d ∈ ds) : Bd W D d := by
  obtain ⟨h1, h2, h3⟩ := h
  have w1 := w_mem m
  refine ⟨?_, by omega, ?_⟩
  · clear h2 h3 w1
    induction ds with
    | nil => cases m
    | cons e ds ih =>
      simp only [lfA, Bool.and_eq_true] at h1
      rcases List.mem_cons.mp m with rfl | m
      · exact h1.1
      · exact ih m h1.2
  · clear h1 h2 w1
    induction ds with
    | nil => cases m
    | cons e ds ih =>
      simp only [PyData.depthAll] at h3
      rcases List.mem_cons.mp m with rfl | m
      · omega
      · exact ih m (by omega)
theorem Bd.tupA {W D : Nat} {ds : List PyData} (h : Bd W (D + 1) (.tuple ds)) : BdA W D ds := h.items
theorem intV_ne (a b : Int) : (!decide (V.int a = V.int b)) = !decide (a = b) := by rw [intV_eq]
section
variable {P : Program} {K : PySem.W.Frag} {w : World} {base : Heap} {mg : Str → Option Value}
theorem scLArePairs : FnScope ["_law_value", "_law_pair"] ["_law_value"] (defScope sLArePairs) := ⟨rfl, rfl, rfl, by decide +kernel, rfl, by decide +kernel, by decide +kernel⟩
theorem ok_lare {f : Addr} {fd : FuncData} (F : Fun K "_law_are_pairs" "_law_are_pairs" sLArePairs f fd) (T : Cst K mg) (T2 : Cs2 mg) (DW : Df P w K mg base 1 "_law_is_word" ["_law_value"] (spL isName)) (DN : Df P w K mg base 1 "_law_is_number" ["_law_value", "_law_low", "_law_high"] spW) : FnOk P w K mg base CX0 2 f fd ["_law_value"] (spLK arePairs) := by
  obtain ⟨g1, fd1, G1, m1, k1, b1⟩ := DW.ex
  obtain ⟨g2, fd2, G2, m2, k2, b2⟩ := DN.ex
  refine F.ok scLArePairs (fun vs H Q E h => ?_) (fun cdv A outer s H vs Q E hr h => ?_)
  · obtain ⟨m, z, v, d, rfl, _⟩ := h
    rfl
  · obtain ⟨m, z, v, d, rfl, hd, hb, q⟩ := h
    refine ⟨_, pss_cons (ps_if (PW.pt (pw_or (pt_not (pt_val (pe_callB call_isi (by rfl) T.isi (by decide +kernel) (pa_cons (pv 0) (pa_cons (pe_bltn (v := .ty "tuple") (by rfl) T.ttup (by decide +kernel) rfl) pa_nil)))))
        (pw_or1 (pt_cmpR op_gt (pe_callB call_len_seq (by rfl) T.len PySem.boot_len (pa_cons (pv 0) pa_nil)) pe_int (nomark _)))))
        (pss_one (ps_ret pe_bl)) pss_nil)
      (pss_cons (ps_for PassesOwn.never rfl (pi_tup (pv 0)) (pg_name (i := 1) scLArePairs.nd rfl (Or.inl rfl))
        (pss_cons (ps_if (PW.pt (pw_or (pt_not (pt_val (pe_callB call_isi (by rfl) T.isi (by decide +kernel) (pa_cons (pv 1) (pa_cons (pe_bltn (v := .ty "tuple") (by rfl) T.ttup (by decide +kernel) rfl) pa_nil)))))
            (pw_or1 (pt_cmpR op_ne (pe_callB call_len_seq (by rfl) T.len PySem.boot_len (pa_cons (pv 1) pa_nil)) pe_int (nomark _)))))
            (pss_one (ps_ret pe_bl)) pss_nil)
        (pss_one (ps_if (PW.pt (pw_or (pt_not (pt_val (pe_call G1 hr (by rfl) m1 k1 b1 .nil pass0 (pa_cons (pe_ix (r := rIxT K) ix_tup (pv 1) pe_int (fun _ _ => rfl)) pa_nil))))
            (pw_or1 (pt_not (pt_val (pe_call G2 hr (by rfl) m2 k2 b2 .nil pass0 (pa_cons (pe_ix (r := rIxT K) ix_tup (pv 1) pe_int (fun _ _ => rfl)) (pa_cons pe_int (pa_cons pe_int pa_nil)))))))))
            (pss_one (ps_ret pe_bl)) pss_nil))))
      (pss_one (ps_ret (pe_cmpR op_eq (pe_lenDict rfl (by rfl) T.len (by rfl) T2.dct (pv 0)) (pe_callB call_len_seq (by rfl) T.len PySem.boot_len (pa_cons (pv 0) pa_nil)) (nomark _))))), ?_⟩
    have no : ∀ G, Same H G → arePairs d = false → Q (.bl false) G := fun G s e => by
      rw [← e]
      exact q _ s
    refine ⟨_, rfl, v, _, _, _, _, rfl, .ty _, hd.ty, kit_tup d, _, rfl, ?_⟩
    cases d with
    | tuple ds =>
      refine iteF ?_
      obtain ⟨a, xs, rfl, ne, ht, hl⟩ := hd.tupD
      have hA := hb.items
      have hlen := hl.len
      refine ⟨_, rfl, a, xs, rfl, .inr ht.sq, _, _, rfl, rfl, _, rfl, ?_⟩
      refine ite2 (fun e1 => no _ (Same.refl _) ?_) fun e1 => ?_
      · have e2 := of_decide_eq_true e1
        show (decide (ds.length ≤ 4) && _ && _) = false
        rw [decide_eq_false (by omega), Bool.false_and, Bool.false_and]
      have e2 : ds.length ≤ 4 := by
        have : ¬ ((4 : Int) < (xs.length : Int)) := fun z => e1 (decide_eq_true z)
        omega
      refine ⟨_, rfl, a, rfl, ⟨_, ht.sq⟩, for_tup (K := K) (a := a) (xs := xs) (fun i σ G => (∃ x, σ = [some (.ref a), x]) ∧ Same H G ∧ (ds.take i).all isPair = true) ⟨⟨_, rfl⟩, Same.refl _, by simp⟩ (fun i σ G _ h => (ht.to (But.of (z := z) h.2.1) ne).sq) ?_ ?_⟩
      · rintro i y σ G hy ⟨⟨x, rfl⟩, s1, hall⟩
        obtain ⟨d, hd1, hd2⟩ := hl.at' hy
        have hi : i < ds.length := (List.getElem?_eq_some_iff.mp hd1).1
        have hdG : Dv m z G true y d := Dv.to (But.of s1) _ _ _ hd2
        have hbd := bd_of hA (List.mem_of_getElem? hd1)
        have bad : isPair d = false → arePairs (.tuple ds) = false := fun e => by
          show (decide (ds.length ≤ 4) && ds.all isPair && _) = false
          have : ds.all isPair = false := by
            rw [← Bool.not_eq_true, List.all_eq_true]
            intro h
            have := h d (List.mem_of_getElem? hd1)
            rw [e] at this
            cases this
          rw [this, Bool.and_false, Bool.false_and]
        refine ⟨_, rfl, y, _, _, _, _, rfl, .ty _, hdG.ty, kit_tup d, _, rfl, ?_⟩
        cases d with
        | tuple es =>
          refine iteF ?_
          obtain ⟨a2, ys, rfl, ne2, ht2, hl2⟩ := hdG.tupD
          have hlen2 := hl2.len
          refine ⟨_, rfl, a2, ys, rfl, .inr ht2.sq, rfl, _, rfl, ?_⟩
          rw [intV_ne]
          refine ite2 (fun e3 => no _ s1 (bad (isPair_len fun e4 => ?_))) fun e3 => ?_
          · have : ((ys.length : Nat) : Int) = 2 := by omega
            rw [decide_eq_true this] at e3
            cases e3
          have e4 : ys.length = 2 := by
            have : ((ys.length : Nat) : Int) = 2 := by
              cases h : decide (((ys.length : Nat) : Int) = 2) with
              | true => exact of_decide_eq_true h
              | false =>
                rw [h] at e3
                exact absurd rfl e3
            omega
          obtain ⟨d1, d2, v1, v2, rfl, rfl, h1, h2⟩ := two_of hl2 e4
          have hpe : isPair (.tuple [d1, d2]) = (isName d1 && within d2 0 99) := rfl
          have hA2 := (hbd.mono (W' := 1000) (D' := 9) (Nat.le_refl _) (by decide)).items
          refine ⟨_, rfl, a2, _, _, v1, rfl, rfl, ht2.sq, atI_nat (j := 0) rfl, m, z, true, v1, d1, rfl, h1, (bd_of hA2 (by simp)).mono (Nat.le_refl _) (by decide), fun G2 s2 => ⟨_, rfl, ?_⟩⟩
          refine ite2 (fun e5 => no _ (s1.trans s2) (bad ?_)) fun e5 => ?_
          · have : isName d1 = false := by simpa using e5
            rw [hpe, this, Bool.false_and]
          have e6 : isName d1 = true := by simpa using e5
          refine ⟨_, rfl, a2, _, _, v2, rfl, rfl, (ht2.to (But.of (z := z) s2) ne2).sq, atI_nat (j := 1) rfl, m, z, true, v2, d2, 0, 99, rfl, Dv.to (But.of s2) _ _ _ h2, (bd_of hA2 (by simp)).w, fun G3 s3 => ⟨_, rfl, ?_⟩⟩
          refine ite2 (fun e7 => no _ ((s1.trans s2).trans s3) (bad ?_)) fun e7 => ?_
          · have : within d2 0 99 = false := by simpa using e7
            rw [hpe, this, Bool.and_false]
          · have e8 : within d2 0 99 = true := by simpa using e7
            refine ⟨⟨_, rfl⟩, (s1.trans s2).trans s3, ?_⟩
            rw [take_snoc hd1, List.all_append, hall, List.all_cons, hpe, e6, e8]
            rfl
        | _ => exact iteT (no _ s1 (bad rfl))
      · rintro σ G ⟨⟨x, rfl⟩, s1, hall⟩
        rw [hlen, List.take_length] at hall
        have hl1 : DvL m z G true xs ds := DvL.to (But.of s1) _ _ _ hl
        have ht1 := ht.to (But.of (z := z) s1) ne
        obtain ⟨bs, eb, ed, hbs⟩ := prs_of hl1 hall
        subst eb
        have hbl : bs.length = ds.length := by
          rw [List.length_map] at hlen
          exact hlen
        have en : bs.map (fun b => b.2.1) = ds.map nmOf := by
          rw [← ed, List.map_map]
          rfl
        obtain ⟨o, ho, hod⟩ : ∃ o : Obj, G a = some (.frz o (.tup (bs.map (·.1)))) ∧ o.dict = none := by
          cases ht1 with
          | frz h d => exact ⟨_, h, d⟩
          | big h l =>
            rw [List.length_map] at l
            omega
        refine ⟨_, rfl, m, z, a, bs, o, rfl, ho, hod, hbs, fun p u hp => ?_⟩
        have s2 : Same G (upd G p u) := same_new hp
        refine ⟨_, rfl, a, _, rfl, .inr (ht1.to (But.of (z := z) s2) ne).sq, rfl, ?_⟩
        have q2 : Q (.bl (decide (ds.length ≤ 4) && ds.all isPair && decide ((dst (sK (ds.map nmOf))).length = ds.length))) (upd G p u) := q _ (s1.trans s2)
        rw [decide_eq_true e2, hall, Bool.true_and, Bool.true_and] at q2
        have e5 : decide (V.int ((dst (sK (bs.map (·.2.1)))).length : Nat) = V.int ((bs.map (·.1)).length : Nat)) = decide ((dst (sK (ds.map nmOf))).length = ds.length) := by
          rw [intV_eq, List.length_map, hbl, en]
          by_cases h : (dst (sK (ds.map nmOf))).length = ds.length
          · rw [decide_eq_true h, decide_eq_true (by rw [h])]
          · rw [decide_eq_false h, decide_eq_false (by omega)]
        show Q (V.bl (decide (V.int ((dst (sK (bs.map (·.2.1)))).length : Nat) = V.int ((bs.map (·.1)).length : Nat)))) _
        rw [e5]
        exact q2
    | _ => exact iteT (no _ (Same.refl _) rfl)
end
end Pl

namespace Pl
open L2 PySem PySem.Spec PyProof.Rows
def fmD : List PyData := [.tuple [.str "put", .int 4], .tuple [.str "strike", .int 3], .tuple [.str "add", .int 4], .tuple [.str "drop", .int 3], .tuple [.str "rename", .int 4]]
def Fm (x : Str) (n : Int) : Prop := (x = "put" ∧ n = 4) ∨ (x = "strike" ∧ n = 3) ∨ (x = "add" ∧ n = 4) ∨ (x = "drop" ∧ n = 3) ∨ (x = "rename" ∧ n = 4)
theorem fm_any (x : Str) (n : Int) : (fmD.any fun z => PyData.eqv z (.tuple [.str x, .int n])) = true ↔ Fm x n := by
  unfold Fm
  simp only [fmD, List.any_cons, List.any_nil, Bool.or_false, PyData.eqv, PyData.eqvAll, Bool.and_true, Bool.or_eq_true, Bool.and_eq_true, beq_iff_eq]
  constructor
  · rintro (⟨h1, h2⟩ | ⟨h1, h2⟩ | ⟨h1, h2⟩ | ⟨h1, h2⟩ | ⟨h1, h2⟩)
    · exact .inl ⟨h1.symm, h2.symm⟩
    · exact .inr (.inl ⟨h1.symm, h2.symm⟩)
    · exact .inr (.inr (.inl ⟨h1.symm, h2.symm⟩))
    · exact .inr (.inr (.inr (.inl ⟨h1.symm, h2.symm⟩)))
    · exact .inr (.inr (.inr (.inr ⟨h1.symm, h2.symm⟩)))
  · rintro (⟨h1, h2⟩ | ⟨h1, h2⟩ | ⟨h1, h2⟩ | ⟨h1, h2⟩ | ⟨h1, h2⟩)
    · exact .inl ⟨h1.symm, h2.symm⟩
    · exact .inr (.inl ⟨h1.symm, h2.symm⟩)
    · exact .inr (.inr (.inl ⟨h1.symm, h2.symm⟩))
    · exact .inr (.inr (.inr (.inl ⟨h1.symm, h2.symm⟩)))
    · exact .inr (.inr (.inr (.inr ⟨h1.symm, h2.symm⟩)))
theorem parts_no {x : Str} {p : PyData} {r : List PyData} (h : ¬ Fm x ((r.length : Int) + 3)) : isParts (.str x) (p :: r) = false := by
  unfold Fm at h
  show (match formP x with
    | some f => f (p :: r)
    | none => false) = false
  unfold formP
  by_cases e1 : x = "put"
  · rw [if_pos e1]
    exact f2_len fun e => h (.inl ⟨e1, by rw [List.length_cons] at e; omega⟩)
  rw [if_neg e1]
  by_cases e2 : x = "strike"
  · rw [if_pos e2]
    exact f1_len fun e => h (.inr (.inl ⟨e2, by rw [List.length_cons] at e; omega⟩))
  rw [if_neg e2]
  by_cases e3 : x = "add"
  · rw [if_pos e3]
    exact f2_len fun e => h (.inr (.inr (.inl ⟨e3, by rw [List.length_cons] at e; omega⟩)))
  rw [if_neg e3]
  by_cases e4 : x = "drop"
  · rw [if_pos e4]
    exact f1_len fun e => h (.inr (.inr (.inr (.inl ⟨e4, by rw [List.length_cons] at e; omega⟩))))
  rw [if_neg e4]
  by_cases e5 : x = "rename"
  · rw [if_pos e5]
    exact f2_len fun e => h (.inr (.inr (.inr (.inr ⟨e5, by rw [List.length_cons] at e; omega⟩))))
  rw [if_neg e5]
theorem partsE {x : Str} {f : List PyData → Bool} {p : PyData} {r : List PyData} (h : formP x = some f) : isParts (.str x) (p :: r) = f (p :: r) := by
  show (match formP x with
    | some f => f (p :: r)
    | none => false) = _
  rw [h]
theorem form_strike : formP "strike" = some (f1 pKey) := by
  unfold formP
  rw [if_neg (by decide +kernel), if_pos rfl]
theorem form_add : formP "add" = some (f2 isName pVal) := by
  unfold formP
  rw [if_neg (by decide +kernel), if_neg (by decide +kernel), if_pos rfl]
theorem form_drop : formP "drop" = some (f1 isName) := by
  unfold formP
  rw [if_neg (by decide +kernel), if_neg (by decide +kernel), if_neg (by decide +kernel), if_pos rfl]
theorem form_rename : formP "rename" = some (f2 isName isName) := by
  unfold formP
  rw [if_neg (by decide +kernel), if_neg (by decide +kernel), if_neg (by decide +kernel), if_neg (by decide +kernel), if_pos rfl]
theorem shaped_form {x : Str} (n : Int) (h : PyData.strOk x = true) : SeqAt.shaped (.tuple [.str x, .int n]) = true := by
  simp [SeqAt.shaped, PyData.canLay0, PyData.canLayAll0, PyData.depth, PyData.depthAll, h]
section
variable {P : Program} {K : PySem.W.Frag} {w : World} {base : Heap} {mg : Str → Option Value}
theorem scLIsRight : FnScope ["_law_value", "_law_word", "_law_many", "_law_forms"] ["_law_value"] (defScope sLIsRight) := ⟨rfl, rfl, rfl, by decide +kernel, rfl, by decide +kernel, by decide +kernel⟩
theorem ok_lright {f : Addr} {fd : FuncData} (F : Fun K "_law_is_right" "_law_is_right" sLIsRight f fd) (T : Cst K mg) (DW : Df P w K mg base 1 "_law_is_word" ["_law_value"] (spL isName)) (DN : Df P w K mg base 1 "_law_is_number" ["_law_value", "_law_low", "_law_high"] spW)
    (DP : Df P w K mg base 2 "_law_are_pairs" ["_law_value"] (spLK arePairs)) : FnOk P w K mg base CX0 3 f fd ["_law_value"] (spL isDeed) := by
  obtain ⟨g1, fd1, G1, m1, k1, b1⟩ := DW.ex
  obtain ⟨g2, fd2, G2, m2, k2, b2⟩ := DN.ex
  obtain ⟨g3, fd3, G3, m3, k3, b3⟩ := DP.ex
  refine F.ok scLIsRight (fun vs H Q E h => ?_) (fun cdv A outer s H vs Q E hr h => ?_)
  · obtain ⟨m, z, k, v, d, rfl, _⟩ := h
    rfl
  · obtain ⟨m, z, k, v, d, rfl, hd, hb, q⟩ := h
    refine ⟨_, (pss_cons (ps_if (PW.pt (pw_or (pt_not (pt_val (pe_callB call_isi (by rfl) T.isi (by decide +kernel) (pa_cons (pv 0) (pa_cons (pe_bltn (v := .ty "tuple") (by rfl) T.ttup (by decide +kernel) rfl) pa_nil))))) (pw_or (pt_cmpR op_lt (pe_callB call_len_seq (by rfl) T.len PySem.boot_len (pa_cons (pv 0) pa_nil)) pe_int (nomark _)) (pw_or1 (pt_not (pt_val (pe_call G2 (hr.mono (by decide)) (by rfl) m2 k2 b2 .nil pass0 (pa_cons (pe_ix (r := rIxT K) ix_tup (pv 0) pe_int (fun _ _ => rfl)) (pa_cons pe_int (pa_cons pe_int pa_nil)))))))))) (pss_one (ps_ret pe_bl)) pss_nil)
      (pss_cons (ps_par (i := 1) (j := 2) (by rfl) scLIsRight.nd rfl rfl (by decide) rfl rfl (pa_cons (pe_ix (r := rIxT K) ix_tup (pv 0) pe_int (fun _ _ => rfl)) (pa_cons (pe_callB call_len_seq (by rfl) T.len PySem.boot_len (pa_cons (pv 0) pa_nil)) pa_nil)) (by rfl))
      (pss_cons (ps_set (i := 3) scLIsRight.nd rfl (Or.inl rfl) (pe_lst (pa_cons (pe_tup (pa_cons pe_str (pa_cons pe_int pa_nil))) (pa_cons (pe_tup (pa_cons pe_str (pa_cons pe_int pa_nil))) (pa_cons (pe_tup (pa_cons pe_str (pa_cons pe_int pa_nil))) (pa_cons (pe_tup (pa_cons pe_str (pa_cons pe_int pa_nil))) (pa_cons (pe_tup (pa_cons pe_str (pa_cons pe_int pa_nil))) pa_nil)))))))
      (pss_cons (ps_if (PW.pt (pw_or (pt_not (pt_val (pe_callB call_isi (by rfl) T.isi (by decide +kernel) (pa_cons (pv 1) (pa_cons (pe_bltn (v := .ty "str") (by rfl) T.tstr (by decide +kernel) rfl) pa_nil))))) (pw_or1 (pt_cmpR (op_notInD (show (A.deeper _).units + 65 < cLine by have := hr.un; omega)) (pe_tup (pa_cons (pv 1) (pa_cons (pv 2) pa_nil))) (pv 3) (by rfl))))) (pss_one (ps_ret pe_bl)) pss_nil)
      (pss_cons (ps_if (pt_cmpR op_in_seq (pv 1) (pe_lst (pa_cons pe_str (pa_cons pe_str pa_nil))) (by rfl)) (pss_one (ps_ret (pe_and (pe_call G2 (hr.mono (by decide)) (by rfl) m2 k2 b2 .nil pass0 (pa_cons (pe_ix (r := rIxT K) ix_tup (pv 0) pe_int (fun _ _ => rfl)) (pa_cons pe_int (pa_cons pe_int pa_nil)))) (pe_one (pe_or (pe_cmpR op_eq (pv 2) pe_int (nomark _)) (pe_one (pe_call G3 hr (by rfl) m3 k3 b3 .nil pass0 (pa_cons (pe_ix (r := rIxT K) ix_tup (pv 0) pe_int (fun _ _ => rfl)) pa_nil)))))))) pss_nil)
      (pss_cons (ps_if (pt_not (pt_val (pe_call G1 (hr.mono (by decide)) (by rfl) m1 k1 b1 .nil pass0 (pa_cons (pe_ix (r := rIxT K) ix_tup (pv 0) pe_int (fun _ _ => rfl)) pa_nil)))) (pss_one (ps_ret pe_bl)) pss_nil)
      (pss_cons (ps_if (pt_cmpR op_eq (pv 1) pe_str (nomark _)) (pss_one (ps_ret (pe_call G2 (hr.mono (by decide)) (by rfl) m2 k2 b2 .nil pass0 (pa_cons (pe_ix (r := rIxT K) ix_tup (pv 0) pe_int (fun _ _ => rfl)) (pa_cons pe_int (pa_cons pe_int pa_nil)))))) pss_nil)
      (pss_one (ps_ret (pe_or (pe_cmpR op_eq (pv 2) pe_int (nomark _)) (pe_one (pe_call G1 (hr.mono (by decide)) (by rfl) m1 k1 b1 .nil pass0 (pa_cons (pe_ix (r := rIxT K) ix_tup (pv 0) pe_int (fun _ _ => rfl)) pa_nil))))))))))))), ?_⟩
    have no : ∀ G, Same H G → isDeed d = false → Q (.bl false) G := fun G s e => by
      rw [← e]
      exact q _ s
    refine ⟨_, rfl, v, _, _, _, _, rfl, .ty _, hd.ty, kit_tup d, _, rfl, ?_⟩
    cases d with
    | tuple ds =>
      refine iteF ?_
      obtain ⟨a, xs, rfl, ne, ht, hl⟩ := hd.tupD
      have hA := hb.items
      have hlen := hl.len
      refine ⟨_, rfl, a, xs, rfl, .inr ht.sq, _, _, rfl, rfl, _, rfl, ?_⟩
      refine ite2 (fun e1 => no _ (Same.refl _) (isDeed_len ?_)) fun e1 => ?_
      · have e2 := of_decide_eq_true e1
        omega
      have e2 : 3 ≤ ds.length := by
        have : ¬ ((xs.length : Int) < 3) := fun z => e1 (decide_eq_true z)
        omega
      cases hl with
      | nil => simp at e2
      | @cons _ v1 _ d1 _ h1 t1 =>
      cases t1 with
      | nil => simp at e2
      | @cons _ v2 _ d2 _ h2 t2 =>
      cases t2 with
      | nil => simp at e2
      | @cons _ v3 vr d3 dr h3 t3 =>
      refine ⟨_, rfl, a, _, _, v1, rfl, rfl, ht.sq, atI_nat (j := 0) rfl, m, z, true, v1, d1, 1, 999, rfl, h1, (bd_of hA (by simp)).w, fun G s1 => ⟨_, rfl, ?_⟩⟩
      have hd1 : isDeed (.tuple (d1 :: d2 :: d3 :: dr)) = (within d1 1 999 && isParts d2 (d3 :: dr)) := rfl
      refine ite2 (fun e3 => no _ s1 ?_) fun e3 => ?_
      · have : within d1 1 999 = false := by simpa using e3
        rw [hd1, this, Bool.false_and]
      have e4 : within d1 1 999 = true := by simpa using e3
      have ht1 := ht.to (But.of (z := z) s1) ne
      refine ⟨_, rfl, a, _, _, v2, rfl, rfl, ht1.sq, atI_nat (j := 1) rfl, _, rfl, a, _, rfl, .inr ht1.sq, _, _, rfl, ?_⟩
      refine ⟨by show 2 ≤ sizeLine; decide, fun p1 q1 => ⟨by show 2 ≤ sizeLine; decide, fun p2 q2 => ⟨by show 2 ≤ sizeLine; decide, fun p3 q3 => ⟨by show 2 ≤ sizeLine; decide, fun p4 q4 => ⟨by show 2 ≤ sizeLine; decide, fun p5 q5 => ⟨by show 5 ≤ sizeLine; decide, fun p6 q6 => ?_⟩⟩⟩⟩⟩⟩
      have w1 := same_new (o := HO.tup [.str "put", .int 4]) q1
      have w2 := same_new (o := HO.tup [.str "strike", .int 3]) q2
      have w3 := same_new (o := HO.tup [.str "add", .int 4]) q3
      have w4 := same_new (o := HO.tup [.str "drop", .int 3]) q4
      have w5 := same_new (o := HO.tup [.str "rename", .int 4]) q5
      have w6 := same_new (o := HO.lst [.ref p1, .ref p2, .ref p3, .ref p4, .ref p5]) q6
      have k1 := w6 _ _ (w5 _ _ (w4 _ _ (w3 _ _ (w2 p1 _ upd_same))))
      have k2 := w6 _ _ (w5 _ _ (w4 _ _ (w3 p2 _ upd_same)))
      have k3 := w6 _ _ (w5 _ _ (w4 p3 _ upd_same))
      have k4 := w6 _ _ (w5 p4 _ upd_same)
      have k5 := w6 p5 _ upd_same
      have k6 : upd (upd (upd (upd (upd (upd G p1 (.tup [.str "put", .int 4])) p2 (.tup [.str "strike", .int 3])) p3 (.tup [.str "add", .int 4])) p4 (.tup [.str "drop", .int 3])) p5 (.tup [.str "rename", .int 4])) p6 (HO.lst [.ref p1, .ref p2, .ref p3, .ref p4, .ref p5]) p6 = some (HO.lst [.ref p1, .ref p2, .ref p3, .ref p4, .ref p5]) := upd_same
      have s6 := s1.trans (((((w1.trans w2).trans w3).trans w4).trans w5).trans w6)
      refine ⟨_, rfl, v2, _, _, _, _, rfl, .ty _, (show Dv m z _ true v2 d2 from Dv.to (But.of s6) _ _ _ h2).ty, kit_str d2, _, rfl, ?_⟩
      cases d2 with
      | str x =>
        refine iteF ?_
        cases h2
        have hx : PyData.strOk x = true := by
          have := (bd_of hA (show PyData.str x ∈ _ by simp)).l
          simp only [lf, decide_eq_true_eq] at this
          exact (str_props this).1
        refine ⟨_, rfl, _, rfl, by show 2 ≤ sizeLine; decide, fun p7 q7 => ?_⟩
        have w7 := same_new (o := HO.tup [.str x, .int ((v1 :: .str x :: v3 :: vr).length : Nat)]) q7
        have tD : ∀ {G' : Hp} {p : Addr} {y : Str} {n : Int}, G' p = some (.tup [.str y, .int n]) → Dp K G' (.ref p) (.tuple [.str y, .int n]) := fun h => .tup (SqT.of h) (.cons (.str _) (.cons (.int _) .nil))
        refine ⟨_, rfl, _, fmD, tD upd_same, .lst (SqL.of (w7 _ _ k6)) (.cons (tD (w7 _ _ k1)) (.cons (tD (w7 _ _ k2)) (.cons (tD (w7 _ _ k3)) (.cons (tD (w7 _ _ k4)) (.cons (tD (w7 _ _ k5)) .nil))))), shaped_form _ hx, by decide +kernel, _, rfl, ?_⟩
        have s7 := s6.trans w7
        generalize upd _ p7 (HO.tup [.str x, .int ((v1 :: .str x :: v3 :: vr).length : Nat)]) = G7 at s7 ⊢
        have hn : (((v1 :: V.str x :: v3 :: vr).length : Nat) : Int) = (dr.length : Int) + 3 := by
          have := t3.len
          simp only [List.length_cons]
          omega
        refine ite2 (fun e5 => no _ s7 ?_) fun e5 => ?_
        · have : ¬ Fm x ((dr.length : Int) + 3) := fun h => by
            rw [← hn] at h
            have h2 := (fm_any x _).mpr h
            rw [h2] at e5
            cases e5
          rw [hd1, parts_no this, Bool.and_false]
        have hF : Fm x (((v1 :: V.str x :: v3 :: vr).length : Nat) : Int) := (fm_any x _).mp (by
          rw [Bool.not_eq_true, Bool.not_eq_false'] at e5
          exact e5)
        rw [hn] at hF
        have ht7 := ht.to (But.of (z := z) s7) ne
        have h3' : Dv m z G7 true v3 d3 := Dv.to (But.of s7) _ _ _ h3
        have t3' : DvL m z G7 true vr dr := DvL.to (But.of s7) _ _ _ t3
        have fin : ∀ G, Same G7 G → ∀ b, isParts (.str x) (d3 :: dr) = b → Q (.bl b) G := fun G s b e => by
          have q2 := q G (s7.trans s)
          rw [hd1, e4, Bool.true_and, e] at q2
          exact q2
        refine ⟨_, rfl, by show 2 ≤ sizeLine; decide, fun p8 q8 => ⟨p8, _, rfl, .inl (SqL.of upd_same), rfl, by decide, _, rfl, ?_⟩⟩
        have s8 := same_new (o := HO.lst [.str "put", .str "strike"]) q8
        clear ht1
        rcases hF with ⟨rfl, hn4⟩ | ⟨rfl, hn4⟩ | ⟨rfl, hn4⟩ | ⟨rfl, hn4⟩ | ⟨rfl, hn4⟩
        · cases t3' with
          | nil => simp at hn4
          | @cons _ v4 _ d4 _ h4' t4 =>
          cases t4 with
          | cons => simp at hn4; omega
          | nil =>
          refine iteT ?_
          refine ⟨_, rfl, a, _, _, v3, rfl, rfl, (ht7.to (But.of (z := z) s8) ne).sq, atI_nat (j := 2) rfl, m, z, true, v3, d3, 0, 9, rfl, Dv.to (But.of s8) _ _ _ h3', (bd_of hA (by simp)).w, fun G9 sG9 => ?_⟩
          refine ⟨_, rfl, ?_⟩
          have s9 := s8.trans sG9
          refine ite2 (fun e6 => ?_) fun e6 => fin _ s9 _ ?_
          · refine ⟨_, rfl, rfl, _, rfl, iteF ?_⟩
            refine ⟨_, rfl, a, _, _, v4, rfl, rfl, (ht7.to (But.of (z := z) s9) ne).sq, atI_nat (j := 3) rfl, m, z, v4, d4, rfl, Dv.to (But.of s9) _ _ _ h4', bd_of hA (by simp), fun G10 sG10 => ?_⟩
            refine fin _ (s9.trans sG10) _ ?_
            rw [partsE form_put]
            show (pKey d3 && arePairs d4) = _
            rw [show pKey d3 = true from e6, Bool.true_and]
          · rw [partsE form_put]
            show (pKey d3 && arePairs d4) = _
            rw [show pKey d3 = false from Bool.eq_false_iff.mpr e6, Bool.false_and]
        · cases t3' with
          | cons => simp at hn4; omega
          | nil =>
          refine iteT ?_
          refine ⟨_, rfl, a, _, _, v3, rfl, rfl, (ht7.to (But.of (z := z) s8) ne).sq, atI_nat (j := 2) rfl, m, z, true, v3, d3, 0, 9, rfl, Dv.to (But.of s8) _ _ _ h3', (bd_of hA (by simp)).w, fun G9 sG9 => ?_⟩
          refine ⟨_, rfl, ?_⟩
          have s9 := s8.trans sG9
          refine ite2 (fun e6 => ?_) fun e6 => fin _ s9 _ ?_
          · refine ⟨_, rfl, rfl, _, rfl, iteT ?_⟩
            refine fin _ s9 _ ?_
            rw [partsE form_strike]
            exact e6
          · rw [partsE form_strike]
            exact Bool.eq_false_iff.mpr e6
        · cases t3' with
          | nil => simp at hn4
          | @cons _ v4 _ d4 _ h4' t4 =>
          cases t4 with
          | cons => simp at hn4; omega
          | nil =>
          refine iteF ?_
          refine ⟨_, rfl, a, _, _, v3, rfl, rfl, (ht7.to (But.of (z := z) s8) ne).sq, atI_nat (j := 2) rfl, m, z, true, v3, d3, rfl, Dv.to (But.of s8) _ _ _ h3', (bd_of hA (by simp)).mono (Nat.le_refl _) (by decide), fun G9 sG9 => ?_⟩
          refine ⟨_, rfl, ?_⟩
          have s9 := s8.trans sG9
          refine ite2 (fun e6 => fin _ s9 _ ?_) fun e6 => ?_
          · have : isName d3 = false := by simpa using e6
            rw [partsE form_add]
            show (isName d3 && pVal d4) = _
            rw [this, Bool.false_and]
          have e7 : isName d3 = true := by simpa using e6
          refine ⟨_, rfl, rfl, _, rfl, iteT ?_⟩
          refine ⟨_, rfl, a, _, _, v4, rfl, rfl, (ht7.to (But.of (z := z) s9) ne).sq, atI_nat (j := 3) rfl, m, z, true, v4, d4, 0, 99, rfl, Dv.to (But.of s9) _ _ _ h4', (bd_of hA (by simp)).w, fun G10 sG10 => ?_⟩
          refine fin _ (s9.trans sG10) _ ?_
          rw [partsE form_add]
          show (isName d3 && pVal d4) = _
          rw [e7, Bool.true_and]
        · cases t3' with
          | cons => simp at hn4; omega
          | nil =>
          refine iteF ?_
          refine ⟨_, rfl, a, _, _, v3, rfl, rfl, (ht7.to (But.of (z := z) s8) ne).sq, atI_nat (j := 2) rfl, m, z, true, v3, d3, rfl, Dv.to (But.of s8) _ _ _ h3', (bd_of hA (by simp)).mono (Nat.le_refl _) (by decide), fun G9 sG9 => ?_⟩
          refine ⟨_, rfl, ?_⟩
          have s9 := s8.trans sG9
          refine ite2 (fun e6 => fin _ s9 _ ?_) fun e6 => ?_
          · rw [partsE form_drop]
            show isName d3 = false
            simpa using e6
          refine ⟨_, rfl, rfl, _, rfl, iteF ?_⟩
          refine ⟨_, rfl, rfl, _, rfl, iteT ?_⟩
          refine fin _ s9 _ ?_
          rw [partsE form_drop]
          show isName d3 = true
          simpa using e6
        · cases t3' with
          | nil => simp at hn4
          | @cons _ v4 _ d4 _ h4' t4 =>
          cases t4 with
          | cons => simp at hn4; omega
          | nil =>
          refine iteF ?_
          refine ⟨_, rfl, a, _, _, v3, rfl, rfl, (ht7.to (But.of (z := z) s8) ne).sq, atI_nat (j := 2) rfl, m, z, true, v3, d3, rfl, Dv.to (But.of s8) _ _ _ h3', (bd_of hA (by simp)).mono (Nat.le_refl _) (by decide), fun G9 sG9 => ?_⟩
          refine ⟨_, rfl, ?_⟩
          have s9 := s8.trans sG9
          refine ite2 (fun e6 => fin _ s9 _ ?_) fun e6 => ?_
          · have : isName d3 = false := by simpa using e6
            rw [partsE form_rename]
            show (isName d3 && isName d4) = _
            rw [this, Bool.false_and]
          have e7 : isName d3 = true := by simpa using e6
          refine ⟨_, rfl, rfl, _, rfl, iteF ?_⟩
          refine ⟨_, rfl, rfl, _, rfl, iteF ?_⟩
          refine ⟨_, rfl, a, _, _, v4, rfl, rfl, (ht7.to (But.of (z := z) s9) ne).sq, atI_nat (j := 3) rfl, m, z, true, v4, d4, rfl, Dv.to (But.of s9) _ _ _ h4', (bd_of hA (by simp)).mono (Nat.le_refl _) (by decide), fun G10 sG10 => ?_⟩
          refine fin _ (s9.trans sG10) _ ?_
          rw [partsE form_rename]
          show (isName d3 && isName d4) = _
          rw [e7, Bool.true_and]
      | _ =>
        refine iteT (no _ s6 ?_)
        rw [hd1]
        exact Bool.and_false _
    | _ => exact iteT (no _ (Same.refl _) rfl)
end
end Pl

namespace Pl
open L2 PySem PySem.Spec PyProof.Rows
def spOdd : Sp := fun vs H Q _ => ∃ (z : Addr), vs = [.ref z] ∧ Src z H ∧ ∀ (m : Bool) (v : V) (d : PyData) (G : Hp), But z H G → Src z G → Dv m z G true v d → Bd 100 3 d → Q v G
section
variable {z : Addr} {G : Hp} {oz : HO}
theorem mkF {p : Addr} {o : Obj} {vs : List V} {ds : List PyData} (e : G p = none) (ho : o.dict = none) (hz : G z = some oz) (s : Src z G) (h : DvL false z G true vs ds) :
    Same G (upd G p (.frz o (.tup vs))) ∧ Src z (upd G p (.frz o (.tup vs))) ∧ Dv false z (upd G p (.frz o (.tup vs))) true (.ref p) (.tuple ds) :=
  ⟨same_new e, s.new e, .tup (ne_of_none hz e).symm (.frz upd_same ho) (DvL.to (But.new e) _ _ _ h)⟩
theorem mkLs {p : Addr} {vs : List V} {ds : List PyData} (e : G p = none) (hz : G z = some oz) (s : Src z G) (h : DvL false z G false vs ds) :
    Same G (upd G p (.lst vs)) ∧ Src z (upd G p (.lst vs)) ∧ Dv false z (upd G p (.lst vs)) true (.ref p) (.list ds) :=
  ⟨same_new e, s.new e, .lst rfl (ne_of_none hz e).symm upd_same (DvL.to (But.new e) _ _ _ h)⟩
theorem mkDc {p : Addr} (e : G p = none) (hz : G z = some oz) (s : Src z G) :
    Same G (upd G p (.dK [])) ∧ Src z (upd G p (.dK [])) ∧ Dv true z (upd G p (.dK [])) true (.ref p) (.dict []) :=
  ⟨same_new e, s.new e, .dct rfl (ne_of_none hz e).symm upd_same⟩
theorem tup_at {a : Addr} {k : Bool} {ds : List PyData} (h : Dv false z G k (.ref a) (.tuple ds)) : ∃ xs, TupAt G k a xs ∧ DvL false z G true xs ds := by
  cases h with
  | tup ne h t => exact ⟨_, h, t⟩
theorem one_ne {xs : List V} {d : PyData} {ds : List PyData} (h : xs.length = (d :: ds).length) : xs ≠ [] := fun e => by
  subst e
  cases h
theorem mkRep {p : Addr} {xs : List V} {d : PyData} (e : G p = none) (hz : G z = some oz) (s : Src z G) (h : DvL false z G true xs [d]) :
    Same G (upd G p (.tup (List.replicate (5 : Int).toNat xs).flatten)) ∧ Src z (upd G p (.tup (List.replicate (5 : Int).toNat xs).flatten)) ∧ Dv false z (upd G p (.tup (List.replicate (5 : Int).toNat xs).flatten)) true (.ref p) (.tuple [d, d, d, d, d]) := by
  cases h with
  | @cons _ v vs _ _ a t =>
  cases t
  refine ⟨same_new e, s.new e, .tup (ne_of_none hz e).symm (.big upd_same (by show 4 < 5; decide)) (DvL.to (But.new e) _ _ _ ?_)⟩
  exact .cons a (.cons a (.cons a (.cons a (.cons a .nil))))
end
section
variable {P : Program} {K : PySem.W.Frag} {w : World} {base : Heap} {mg : Str → Option Value}
theorem scOdd : FnScope ["_law_source", "_law_some"] ["_law_source"] (defScope sOdd) := ⟨rfl, rfl, rfl, by decide +kernel, rfl, by decide +kernel, by decide +kernel⟩
theorem ok_odd {f : Addr} {fd : FuncData} (F : Fun K "_law_odd" "_law_odd" sOdd f fd) (D : DOne P w K mg base) : FnOk P w K mg base CX0 3 f fd ["_law_source"] spOdd := by
  obtain ⟨g1, fd1, G1, m1, k1, b1⟩ := D.ex
  refine F.ok scOdd (fun vs H Q E h => ?_) (fun cdv A outer s H vs Q E hr h => ?_)
  · obtain ⟨z, rfl, _⟩ := h
    rfl
  · obtain ⟨z, rfl, Sr, q⟩ := h
    refine ⟨_, (pss_cons (ps_set (i := 1) scOdd.nd rfl (Or.inl rfl) (pe_lst (pa_cons pe_non (pa_cons pe_bl (pa_cons pe_bl (pa_cons pe_str (pa_cons pe_str (pa_cons pe_str (pa_cons pe_str (pa_cons pe_str (pa_cons (pe_un un_neg pe_int) (pa_cons pe_int (pa_cons pe_int (pa_cons pe_int (pa_cons pe_int (pa_cons pe_int (pa_cons (pe_tupF pa_nil) (pa_cons (pe_lst pa_nil) (pa_cons pe_dnewK (pa_cons (pe_tupF (pa_cons pe_str pa_nil)) (pa_cons pe_str pa_nil)))))))))))))))))))))
      (pss_cons (ps_set (i := 1) scOdd.nd rfl (Or.inl rfl) (pe_op op_cat (pv 1) (pe_lst (pa_cons (pe_tupF (pa_cons (pe_tupF (pa_cons pe_str (pa_cons pe_int pa_nil))) (pa_cons (pe_tupF (pa_cons pe_str (pa_cons pe_int pa_nil))) pa_nil))) (pa_cons (pe_tupF (pa_cons (pe_tupF (pa_cons pe_str (pa_cons pe_int pa_nil))) pa_nil)) (pa_cons (pe_tupF (pa_cons (pe_tupF (pa_cons pe_str (pa_cons pe_int (pa_cons pe_int pa_nil)))) pa_nil)) (pa_cons (pe_tupF (pa_cons (pe_lst (pa_cons (pe_tupF (pa_cons pe_str (pa_cons pe_int pa_nil))) pa_nil)) pa_nil)) (pa_cons (pe_tupF (pa_cons (pe_tupF (pa_cons pe_str (pa_cons pe_bl pa_nil))) pa_nil)) (pa_cons (pe_tupF (pa_cons (pe_tupF (pa_cons pe_str (pa_cons pe_int pa_nil))) pa_nil)) pa_nil)))))))))
      (pss_one (ps_ret (pe_call G1 hr (by rfl) m1 k1 b1 .nil pass0 (pa_cons (pv 0) (pa_cons (pe_op op_cat (pv 1) (pe_lst (pa_cons (pe_op op_repT (pe_tupF (pa_cons (pe_tupF (pa_cons pe_str (pa_cons pe_int pa_nil))) pa_nil)) pe_int) (pa_cons (pe_lst (pa_cons (pe_tupF (pa_cons pe_str (pa_cons pe_int pa_nil))) pa_nil)) (pa_cons pe_str (pa_cons pe_int pa_nil)))))) pa_nil))))))), ?_⟩
    obtain ⟨oz, hz⟩ := Sr.some
    have bH := But.refl z H
    refine ⟨_, rfl, ?_⟩
    refine ⟨by show 0 ≤ sizeLine; decide, fun p0 o0 e0 h0 => ?_⟩
    obtain ⟨s0, S0, f0⟩ := mkF (vs := []) (ds := []) e0 h0 hz Sr .nil
    generalize upd _ p0 (HO.frz o0 (.tup [])) = G1 at s0 S0 f0 ⊢
    replace bH := bH.trans (But.of s0)
    replace hz := s0 _ _ hz
    replace Sr := S0
    refine ⟨by show 0 ≤ sizeLine; decide, fun p1 e1 => ?_⟩
    obtain ⟨s1, S1, f1⟩ := mkLs (vs := []) (ds := []) e1 hz Sr .nil
    generalize upd _ p1 (HO.lst []) = G2 at s1 S1 f1 ⊢
    replace bH := bH.trans (But.of s1)
    replace hz := s1 _ _ hz
    replace f0 := Dv.to (But.of s1) _ _ _ f0
    replace Sr := S1
    intro p2 e2
    obtain ⟨s2, S2, f2⟩ := mkDc e2 hz Sr
    generalize upd _ p2 (HO.dK []) = G3 at s2 S2 f2 ⊢
    replace bH := bH.trans (But.of s2)
    replace hz := s2 _ _ hz
    replace f0 := Dv.to (But.of s2) _ _ _ f0
    replace f1 := Dv.to (But.of s2) _ _ _ f1
    replace Sr := S2
    refine ⟨by show 1 ≤ sizeLine; decide, fun p3 o3 e3 h3 => ?_⟩
    obtain ⟨s3, S3, f3⟩ := mkF (vs := [(.str "a")]) (ds := [(.str "a")]) e3 h3 hz Sr (.cons (.str _) .nil)
    generalize upd _ p3 (HO.frz o3 (.tup [(.str "a")])) = G4 at s3 S3 f3 ⊢
    replace bH := bH.trans (But.of s3)
    replace hz := s3 _ _ hz
    replace f0 := Dv.to (But.of s3) _ _ _ f0
    replace f1 := Dv.to (But.of s3) _ _ _ f1
    replace f2 := Dv.to (But.of s3) _ _ _ f2
    replace Sr := S3
    refine ⟨by show 19 ≤ sizeLine; decide, fun pa1 e4 => ?_⟩
    have s4 := same_new (o := HO.lst [.non, (.bl true), (.bl false), (.str ""), (.str "A"), (.str "a1"), (.str "abcde"), (.str "a "), (.int (-1)), (.int 0), (.int 10), (.int 100), (.int 999), (.int 1000), (.ref p0), (.ref p1), (.ref p2), (.ref p3), (.str "put")]) e4
    have npa1 : pa1 ≠ z := (ne_of_none hz e4).symm
    have S4 := Src.new (o := HO.lst [.non, (.bl true), (.bl false), (.str ""), (.str "A"), (.str "a1"), (.str "abcde"), (.str "a "), (.int (-1)), (.int 0), (.int 10), (.int 100), (.int 999), (.int 1000), (.ref p0), (.ref p1), (.ref p2), (.ref p3), (.str "put")]) Sr e4
    have hpa1 : upd G4 pa1 (HO.lst [.non, (.bl true), (.bl false), (.str ""), (.str "A"), (.str "a1"), (.str "abcde"), (.str "a "), (.int (-1)), (.int 0), (.int 10), (.int 100), (.int 999), (.int 1000), (.ref p0), (.ref p1), (.ref p2), (.ref p3), (.str "put")]) pa1 = some (HO.lst [.non, (.bl true), (.bl false), (.str ""), (.str "A"), (.str "a1"), (.str "abcde"), (.str "a "), (.int (-1)), (.int 0), (.int 10), (.int 100), (.int 999), (.int 1000), (.ref p0), (.ref p1), (.ref p2), (.ref p3), (.str "put")]) := upd_same
    generalize upd _ pa1 (HO.lst [.non, (.bl true), (.bl false), (.str ""), (.str "A"), (.str "a1"), (.str "abcde"), (.str "a "), (.int (-1)), (.int 0), (.int 10), (.int 100), (.int 999), (.int 1000), (.ref p0), (.ref p1), (.ref p2), (.ref p3), (.str "put")]) = G5 at s4 S4 hpa1 ⊢
    replace bH := bH.trans (But.of s4)
    replace hz := s4 _ _ hz
    replace f0 := Dv.to (But.of s4) _ _ _ f0
    replace f1 := Dv.to (But.of s4) _ _ _ f1
    replace f2 := Dv.to (But.of s4) _ _ _ f2
    replace f3 := Dv.to (But.of s4) _ _ _ f3
    replace Sr := S4
    refine ⟨_, rfl, ?_⟩
    refine ⟨by show 2 ≤ sizeLine; decide, fun p5 o5 e5 h5 => ?_⟩
    obtain ⟨s5, S5, f5⟩ := mkF (vs := [(.str "a"), (.int 1)]) (ds := [(.str "a"), (.int 1)]) e5 h5 hz Sr (.cons (.str _) (.cons (.int _) .nil))
    generalize upd _ p5 (HO.frz o5 (.tup [(.str "a"), (.int 1)])) = G6 at s5 S5 f5 ⊢
    replace bH := bH.trans (But.of s5)
    replace hz := s5 _ _ hz
    replace f0 := Dv.to (But.of s5) _ _ _ f0
    replace f1 := Dv.to (But.of s5) _ _ _ f1
    replace f2 := Dv.to (But.of s5) _ _ _ f2
    replace f3 := Dv.to (But.of s5) _ _ _ f3
    replace hpa1 := s5 _ _ hpa1
    replace Sr := S5
    refine ⟨by show 2 ≤ sizeLine; decide, fun p6 o6 e6 h6 => ?_⟩
    obtain ⟨s6, S6, f6⟩ := mkF (vs := [(.str "a"), (.int 2)]) (ds := [(.str "a"), (.int 2)]) e6 h6 hz Sr (.cons (.str _) (.cons (.int _) .nil))
    generalize upd _ p6 (HO.frz o6 (.tup [(.str "a"), (.int 2)])) = G7 at s6 S6 f6 ⊢
    replace bH := bH.trans (But.of s6)
    replace hz := s6 _ _ hz
    replace f0 := Dv.to (But.of s6) _ _ _ f0
    replace f1 := Dv.to (But.of s6) _ _ _ f1
    replace f2 := Dv.to (But.of s6) _ _ _ f2
    replace f3 := Dv.to (But.of s6) _ _ _ f3
    replace hpa1 := s6 _ _ hpa1
    replace f5 := Dv.to (But.of s6) _ _ _ f5
    replace Sr := S6
    refine ⟨by show 2 ≤ sizeLine; decide, fun p7 o7 e7 h7 => ?_⟩
    obtain ⟨s7, S7, f7⟩ := mkF (vs := [(.ref p5), (.ref p6)]) (ds := [(.tuple [(.str "a"), (.int 1)]), (.tuple [(.str "a"), (.int 2)])]) e7 h7 hz Sr (.cons f5 (.cons f6 .nil))
    generalize upd _ p7 (HO.frz o7 (.tup [(.ref p5), (.ref p6)])) = G8 at s7 S7 f7 ⊢
    replace bH := bH.trans (But.of s7)
    replace hz := s7 _ _ hz
    replace f0 := Dv.to (But.of s7) _ _ _ f0
    replace f1 := Dv.to (But.of s7) _ _ _ f1
    replace f2 := Dv.to (But.of s7) _ _ _ f2
    replace f3 := Dv.to (But.of s7) _ _ _ f3
    replace hpa1 := s7 _ _ hpa1
    replace Sr := S7
    refine ⟨by show 2 ≤ sizeLine; decide, fun p8 o8 e8 h8 => ?_⟩
    obtain ⟨s8, S8, f8⟩ := mkF (vs := [(.str "a"), (.int 100)]) (ds := [(.str "a"), (.int 100)]) e8 h8 hz Sr (.cons (.str _) (.cons (.int _) .nil))
    generalize upd _ p8 (HO.frz o8 (.tup [(.str "a"), (.int 100)])) = G9 at s8 S8 f8 ⊢
    replace bH := bH.trans (But.of s8)
    replace hz := s8 _ _ hz
    replace f0 := Dv.to (But.of s8) _ _ _ f0
    replace f1 := Dv.to (But.of s8) _ _ _ f1
    replace f2 := Dv.to (But.of s8) _ _ _ f2
    replace f3 := Dv.to (But.of s8) _ _ _ f3
    replace hpa1 := s8 _ _ hpa1
    replace f7 := Dv.to (But.of s8) _ _ _ f7
    replace Sr := S8
    refine ⟨by show 1 ≤ sizeLine; decide, fun p9 o9 e9 h9 => ?_⟩
    obtain ⟨s9, S9, f9⟩ := mkF (vs := [(.ref p8)]) (ds := [(.tuple [(.str "a"), (.int 100)])]) e9 h9 hz Sr (.cons f8 .nil)
    generalize upd _ p9 (HO.frz o9 (.tup [(.ref p8)])) = G10 at s9 S9 f9 ⊢
    replace bH := bH.trans (But.of s9)
    replace hz := s9 _ _ hz
    replace f0 := Dv.to (But.of s9) _ _ _ f0
    replace f1 := Dv.to (But.of s9) _ _ _ f1
    replace f2 := Dv.to (But.of s9) _ _ _ f2
    replace f3 := Dv.to (But.of s9) _ _ _ f3
    replace hpa1 := s9 _ _ hpa1
    replace f7 := Dv.to (But.of s9) _ _ _ f7
    replace Sr := S9
    refine ⟨by show 3 ≤ sizeLine; decide, fun p10 o10 e10 h10 => ?_⟩
    obtain ⟨s10, S10, f10⟩ := mkF (vs := [(.str "a"), (.int 1), (.int 2)]) (ds := [(.str "a"), (.int 1), (.int 2)]) e10 h10 hz Sr (.cons (.str _) (.cons (.int _) (.cons (.int _) .nil)))
    generalize upd _ p10 (HO.frz o10 (.tup [(.str "a"), (.int 1), (.int 2)])) = G11 at s10 S10 f10 ⊢
    replace bH := bH.trans (But.of s10)
    replace hz := s10 _ _ hz
    replace f0 := Dv.to (But.of s10) _ _ _ f0
    replace f1 := Dv.to (But.of s10) _ _ _ f1
    replace f2 := Dv.to (But.of s10) _ _ _ f2
    replace f3 := Dv.to (But.of s10) _ _ _ f3
    replace hpa1 := s10 _ _ hpa1
    replace f7 := Dv.to (But.of s10) _ _ _ f7
    replace f9 := Dv.to (But.of s10) _ _ _ f9
    replace Sr := S10
    refine ⟨by show 1 ≤ sizeLine; decide, fun p11 o11 e11 h11 => ?_⟩
    obtain ⟨s11, S11, f11⟩ := mkF (vs := [(.ref p10)]) (ds := [(.tuple [(.str "a"), (.int 1), (.int 2)])]) e11 h11 hz Sr (.cons f10 .nil)
    generalize upd _ p11 (HO.frz o11 (.tup [(.ref p10)])) = G12 at s11 S11 f11 ⊢
    replace bH := bH.trans (But.of s11)
    replace hz := s11 _ _ hz
    replace f0 := Dv.to (But.of s11) _ _ _ f0
    replace f1 := Dv.to (But.of s11) _ _ _ f1
    replace f2 := Dv.to (But.of s11) _ _ _ f2
    replace f3 := Dv.to (But.of s11) _ _ _ f3
    replace hpa1 := s11 _ _ hpa1
    replace f7 := Dv.to (But.of s11) _ _ _ f7
    replace f9 := Dv.to (But.of s11) _ _ _ f9
    replace Sr := S11
    refine ⟨by show 2 ≤ sizeLine; decide, fun p12 o12 e12 h12 => ?_⟩
    obtain ⟨s12, S12, f12⟩ := mkF (vs := [(.str "a"), (.int 1)]) (ds := [(.str "a"), (.int 1)]) e12 h12 hz Sr (.cons (.str _) (.cons (.int _) .nil))
    generalize upd _ p12 (HO.frz o12 (.tup [(.str "a"), (.int 1)])) = G13 at s12 S12 f12 ⊢
    replace bH := bH.trans (But.of s12)
    replace hz := s12 _ _ hz
    replace f0 := Dv.to (But.of s12) _ _ _ f0
    replace f1 := Dv.to (But.of s12) _ _ _ f1
    replace f2 := Dv.to (But.of s12) _ _ _ f2
    replace f3 := Dv.to (But.of s12) _ _ _ f3
    replace hpa1 := s12 _ _ hpa1
    replace f7 := Dv.to (But.of s12) _ _ _ f7
    replace f9 := Dv.to (But.of s12) _ _ _ f9
    replace f11 := Dv.to (But.of s12) _ _ _ f11
    replace Sr := S12
    refine ⟨by show 1 ≤ sizeLine; decide, fun p13 e13 => ?_⟩
    obtain ⟨s13, S13, f13⟩ := mkLs (vs := [(.ref p12)]) (ds := [(.tuple [(.str "a"), (.int 1)])]) e13 hz Sr (.cons (Dv.weak f12) .nil)
    generalize upd _ p13 (HO.lst [(.ref p12)]) = G14 at s13 S13 f13 ⊢
    replace bH := bH.trans (But.of s13)
    replace hz := s13 _ _ hz
    replace f0 := Dv.to (But.of s13) _ _ _ f0
    replace f1 := Dv.to (But.of s13) _ _ _ f1
    replace f2 := Dv.to (But.of s13) _ _ _ f2
    replace f3 := Dv.to (But.of s13) _ _ _ f3
    replace hpa1 := s13 _ _ hpa1
    replace f7 := Dv.to (But.of s13) _ _ _ f7
    replace f9 := Dv.to (But.of s13) _ _ _ f9
    replace f11 := Dv.to (But.of s13) _ _ _ f11
    replace Sr := S13
    refine ⟨by show 1 ≤ sizeLine; decide, fun p14 o14 e14 h14 => ?_⟩
    obtain ⟨s14, S14, f14⟩ := mkF (vs := [(.ref p13)]) (ds := [(.list [(.tuple [(.str "a"), (.int 1)])])]) e14 h14 hz Sr (.cons f13 .nil)
    generalize upd _ p14 (HO.frz o14 (.tup [(.ref p13)])) = G15 at s14 S14 f14 ⊢
    replace bH := bH.trans (But.of s14)
    replace hz := s14 _ _ hz
    replace f0 := Dv.to (But.of s14) _ _ _ f0
    replace f1 := Dv.to (But.of s14) _ _ _ f1
    replace f2 := Dv.to (But.of s14) _ _ _ f2
    replace f3 := Dv.to (But.of s14) _ _ _ f3
    replace hpa1 := s14 _ _ hpa1
    replace f7 := Dv.to (But.of s14) _ _ _ f7
    replace f9 := Dv.to (But.of s14) _ _ _ f9
    replace f11 := Dv.to (But.of s14) _ _ _ f11
    replace Sr := S14
    refine ⟨by show 2 ≤ sizeLine; decide, fun p15 o15 e15 h15 => ?_⟩
    obtain ⟨s15, S15, f15⟩ := mkF (vs := [(.str "a"), (.bl true)]) (ds := [(.str "a"), (.bool true)]) e15 h15 hz Sr (.cons (.str _) (.cons (.bl _) .nil))
    generalize upd _ p15 (HO.frz o15 (.tup [(.str "a"), (.bl true)])) = G16 at s15 S15 f15 ⊢
    replace bH := bH.trans (But.of s15)
    replace hz := s15 _ _ hz
    replace f0 := Dv.to (But.of s15) _ _ _ f0
    replace f1 := Dv.to (But.of s15) _ _ _ f1
    replace f2 := Dv.to (But.of s15) _ _ _ f2
    replace f3 := Dv.to (But.of s15) _ _ _ f3
    replace hpa1 := s15 _ _ hpa1
    replace f7 := Dv.to (But.of s15) _ _ _ f7
    replace f9 := Dv.to (But.of s15) _ _ _ f9
    replace f11 := Dv.to (But.of s15) _ _ _ f11
    replace f14 := Dv.to (But.of s15) _ _ _ f14
    replace Sr := S15
    refine ⟨by show 1 ≤ sizeLine; decide, fun p16 o16 e16 h16 => ?_⟩
    obtain ⟨s16, S16, f16⟩ := mkF (vs := [(.ref p15)]) (ds := [(.tuple [(.str "a"), (.bool true)])]) e16 h16 hz Sr (.cons f15 .nil)
    generalize upd _ p16 (HO.frz o16 (.tup [(.ref p15)])) = G17 at s16 S16 f16 ⊢
    replace bH := bH.trans (But.of s16)
    replace hz := s16 _ _ hz
    replace f0 := Dv.to (But.of s16) _ _ _ f0
    replace f1 := Dv.to (But.of s16) _ _ _ f1
    replace f2 := Dv.to (But.of s16) _ _ _ f2
    replace f3 := Dv.to (But.of s16) _ _ _ f3
    replace hpa1 := s16 _ _ hpa1
    replace f7 := Dv.to (But.of s16) _ _ _ f7
    replace f9 := Dv.to (But.of s16) _ _ _ f9
    replace f11 := Dv.to (But.of s16) _ _ _ f11
    replace f14 := Dv.to (But.of s16) _ _ _ f14
    replace Sr := S16
    refine ⟨by show 2 ≤ sizeLine; decide, fun p17 o17 e17 h17 => ?_⟩
    obtain ⟨s17, S17, f17⟩ := mkF (vs := [(.str "A"), (.int 1)]) (ds := [(.str "A"), (.int 1)]) e17 h17 hz Sr (.cons (.str _) (.cons (.int _) .nil))
    generalize upd _ p17 (HO.frz o17 (.tup [(.str "A"), (.int 1)])) = G18 at s17 S17 f17 ⊢
    replace bH := bH.trans (But.of s17)
    replace hz := s17 _ _ hz
    replace f0 := Dv.to (But.of s17) _ _ _ f0
    replace f1 := Dv.to (But.of s17) _ _ _ f1
    replace f2 := Dv.to (But.of s17) _ _ _ f2
    replace f3 := Dv.to (But.of s17) _ _ _ f3
    replace hpa1 := s17 _ _ hpa1
    replace f7 := Dv.to (But.of s17) _ _ _ f7
    replace f9 := Dv.to (But.of s17) _ _ _ f9
    replace f11 := Dv.to (But.of s17) _ _ _ f11
    replace f14 := Dv.to (But.of s17) _ _ _ f14
    replace f16 := Dv.to (But.of s17) _ _ _ f16
    replace Sr := S17
    refine ⟨by show 1 ≤ sizeLine; decide, fun p18 o18 e18 h18 => ?_⟩
    obtain ⟨s18, S18, f18⟩ := mkF (vs := [(.ref p17)]) (ds := [(.tuple [(.str "A"), (.int 1)])]) e18 h18 hz Sr (.cons f17 .nil)
    generalize upd _ p18 (HO.frz o18 (.tup [(.ref p17)])) = G19 at s18 S18 f18 ⊢
    replace bH := bH.trans (But.of s18)
    replace hz := s18 _ _ hz
    replace f0 := Dv.to (But.of s18) _ _ _ f0
    replace f1 := Dv.to (But.of s18) _ _ _ f1
    replace f2 := Dv.to (But.of s18) _ _ _ f2
    replace f3 := Dv.to (But.of s18) _ _ _ f3
    replace hpa1 := s18 _ _ hpa1
    replace f7 := Dv.to (But.of s18) _ _ _ f7
    replace f9 := Dv.to (But.of s18) _ _ _ f9
    replace f11 := Dv.to (But.of s18) _ _ _ f11
    replace f14 := Dv.to (But.of s18) _ _ _ f14
    replace f16 := Dv.to (But.of s18) _ _ _ f16
    replace Sr := S18
    refine ⟨by show 6 ≤ sizeLine; decide, fun pa2 e19 => ?_⟩
    have s19 := same_new (o := HO.lst [(.ref p7), (.ref p9), (.ref p11), (.ref p14), (.ref p16), (.ref p18)]) e19
    have npa2 : pa2 ≠ z := (ne_of_none hz e19).symm
    have S19 := Src.new (o := HO.lst [(.ref p7), (.ref p9), (.ref p11), (.ref p14), (.ref p16), (.ref p18)]) Sr e19
    have hpa2 : upd G19 pa2 (HO.lst [(.ref p7), (.ref p9), (.ref p11), (.ref p14), (.ref p16), (.ref p18)]) pa2 = some (HO.lst [(.ref p7), (.ref p9), (.ref p11), (.ref p14), (.ref p16), (.ref p18)]) := upd_same
    generalize upd _ pa2 (HO.lst [(.ref p7), (.ref p9), (.ref p11), (.ref p14), (.ref p16), (.ref p18)]) = G20 at s19 S19 hpa2 ⊢
    replace bH := bH.trans (But.of s19)
    replace hz := s19 _ _ hz
    replace f0 := Dv.to (But.of s19) _ _ _ f0
    replace f1 := Dv.to (But.of s19) _ _ _ f1
    replace f2 := Dv.to (But.of s19) _ _ _ f2
    replace f3 := Dv.to (But.of s19) _ _ _ f3
    replace hpa1 := s19 _ _ hpa1
    replace f7 := Dv.to (But.of s19) _ _ _ f7
    replace f9 := Dv.to (But.of s19) _ _ _ f9
    replace f11 := Dv.to (But.of s19) _ _ _ f11
    replace f14 := Dv.to (But.of s19) _ _ _ f14
    replace f16 := Dv.to (But.of s19) _ _ _ f16
    replace f18 := Dv.to (But.of s19) _ _ _ f18
    replace Sr := S19
    refine ⟨pa1, pa2, _, _, rfl, rfl, hpa1, hpa2, by show 25 ≤ sizeLine; decide, fun pa3 e20 => ?_⟩
    have c20 : ([.non, (.bl true), (.bl false), (.str ""), (.str "A"), (.str "a1"), (.str "abcde"), (.str "a "), (.int (-1)), (.int 0), (.int 10), (.int 100), (.int 999), (.int 1000), (.ref p0), (.ref p1), (.ref p2), (.ref p3), (.str "put")] : List V) ++ [(.ref p7), (.ref p9), (.ref p11), (.ref p14), (.ref p16), (.ref p18)] = [.non, (.bl true), (.bl false), (.str ""), (.str "A"), (.str "a1"), (.str "abcde"), (.str "a "), (.int (-1)), (.int 0), (.int 10), (.int 100), (.int 999), (.int 1000), (.ref p0), (.ref p1), (.ref p2), (.ref p3), (.str "put"), (.ref p7), (.ref p9), (.ref p11), (.ref p14), (.ref p16), (.ref p18)] := rfl
    rw [c20]
    have s20 := same_new (o := HO.lst [.non, (.bl true), (.bl false), (.str ""), (.str "A"), (.str "a1"), (.str "abcde"), (.str "a "), (.int (-1)), (.int 0), (.int 10), (.int 100), (.int 999), (.int 1000), (.ref p0), (.ref p1), (.ref p2), (.ref p3), (.str "put"), (.ref p7), (.ref p9), (.ref p11), (.ref p14), (.ref p16), (.ref p18)]) e20
    have npa3 : pa3 ≠ z := (ne_of_none hz e20).symm
    have S20 := Src.new (o := HO.lst [.non, (.bl true), (.bl false), (.str ""), (.str "A"), (.str "a1"), (.str "abcde"), (.str "a "), (.int (-1)), (.int 0), (.int 10), (.int 100), (.int 999), (.int 1000), (.ref p0), (.ref p1), (.ref p2), (.ref p3), (.str "put"), (.ref p7), (.ref p9), (.ref p11), (.ref p14), (.ref p16), (.ref p18)]) Sr e20
    have hpa3 : upd G20 pa3 (HO.lst [.non, (.bl true), (.bl false), (.str ""), (.str "A"), (.str "a1"), (.str "abcde"), (.str "a "), (.int (-1)), (.int 0), (.int 10), (.int 100), (.int 999), (.int 1000), (.ref p0), (.ref p1), (.ref p2), (.ref p3), (.str "put"), (.ref p7), (.ref p9), (.ref p11), (.ref p14), (.ref p16), (.ref p18)]) pa3 = some (HO.lst [.non, (.bl true), (.bl false), (.str ""), (.str "A"), (.str "a1"), (.str "abcde"), (.str "a "), (.int (-1)), (.int 0), (.int 10), (.int 100), (.int 999), (.int 1000), (.ref p0), (.ref p1), (.ref p2), (.ref p3), (.str "put"), (.ref p7), (.ref p9), (.ref p11), (.ref p14), (.ref p16), (.ref p18)]) := upd_same
    generalize upd _ pa3 (HO.lst [.non, (.bl true), (.bl false), (.str ""), (.str "A"), (.str "a1"), (.str "abcde"), (.str "a "), (.int (-1)), (.int 0), (.int 10), (.int 100), (.int 999), (.int 1000), (.ref p0), (.ref p1), (.ref p2), (.ref p3), (.str "put"), (.ref p7), (.ref p9), (.ref p11), (.ref p14), (.ref p16), (.ref p18)]) = G21 at s20 S20 hpa3 ⊢
    replace bH := bH.trans (But.of s20)
    replace hz := s20 _ _ hz
    replace f0 := Dv.to (But.of s20) _ _ _ f0
    replace f1 := Dv.to (But.of s20) _ _ _ f1
    replace f2 := Dv.to (But.of s20) _ _ _ f2
    replace f3 := Dv.to (But.of s20) _ _ _ f3
    replace hpa1 := s20 _ _ hpa1
    replace f7 := Dv.to (But.of s20) _ _ _ f7
    replace f9 := Dv.to (But.of s20) _ _ _ f9
    replace f11 := Dv.to (But.of s20) _ _ _ f11
    replace f14 := Dv.to (But.of s20) _ _ _ f14
    replace f16 := Dv.to (But.of s20) _ _ _ f16
    replace f18 := Dv.to (But.of s20) _ _ _ f18
    replace hpa2 := s20 _ _ hpa2
    replace Sr := S20
    refine ⟨_, rfl, _, rfl, ?_⟩
    refine ⟨by show 2 ≤ sizeLine; decide, fun p21 o21 e21 h21 => ?_⟩
    obtain ⟨s21, S21, f21⟩ := mkF (vs := [(.str "a"), (.int 1)]) (ds := [(.str "a"), (.int 1)]) e21 h21 hz Sr (.cons (.str _) (.cons (.int _) .nil))
    generalize upd _ p21 (HO.frz o21 (.tup [(.str "a"), (.int 1)])) = G22 at s21 S21 f21 ⊢
    replace bH := bH.trans (But.of s21)
    replace hz := s21 _ _ hz
    replace f0 := Dv.to (But.of s21) _ _ _ f0
    replace f1 := Dv.to (But.of s21) _ _ _ f1
    replace f2 := Dv.to (But.of s21) _ _ _ f2
    replace f3 := Dv.to (But.of s21) _ _ _ f3
    replace hpa1 := s21 _ _ hpa1
    replace f7 := Dv.to (But.of s21) _ _ _ f7
    replace f9 := Dv.to (But.of s21) _ _ _ f9
    replace f11 := Dv.to (But.of s21) _ _ _ f11
    replace f14 := Dv.to (But.of s21) _ _ _ f14
    replace f16 := Dv.to (But.of s21) _ _ _ f16
    replace f18 := Dv.to (But.of s21) _ _ _ f18
    replace hpa2 := s21 _ _ hpa2
    replace hpa3 := s21 _ _ hpa3
    replace Sr := S21
    refine ⟨by show 1 ≤ sizeLine; decide, fun p22 o22 e22 h22 => ?_⟩
    obtain ⟨s22, S22, f22⟩ := mkF (vs := [(.ref p21)]) (ds := [(.tuple [(.str "a"), (.int 1)])]) e22 h22 hz Sr (.cons f21 .nil)
    generalize upd _ p22 (HO.frz o22 (.tup [(.ref p21)])) = G23 at s22 S22 f22 ⊢
    replace bH := bH.trans (But.of s22)
    replace hz := s22 _ _ hz
    replace f0 := Dv.to (But.of s22) _ _ _ f0
    replace f1 := Dv.to (But.of s22) _ _ _ f1
    replace f2 := Dv.to (But.of s22) _ _ _ f2
    replace f3 := Dv.to (But.of s22) _ _ _ f3
    replace hpa1 := s22 _ _ hpa1
    replace f7 := Dv.to (But.of s22) _ _ _ f7
    replace f9 := Dv.to (But.of s22) _ _ _ f9
    replace f11 := Dv.to (But.of s22) _ _ _ f11
    replace f14 := Dv.to (But.of s22) _ _ _ f14
    replace f16 := Dv.to (But.of s22) _ _ _ f16
    replace f18 := Dv.to (But.of s22) _ _ _ f18
    replace hpa2 := s22 _ _ hpa2
    replace hpa3 := s22 _ _ hpa3
    replace Sr := S22
    obtain ⟨xs23, t23, l23⟩ := tup_at f22
    refine ⟨_, _, xs23, rfl, rfl, t23.sq, one_ne l23.len, by decide, by decide, by rw [l23.len]; decide, fun p23 e23 => ?_⟩
    obtain ⟨s23, S23, f23⟩ := mkRep e23 hz Sr l23
    generalize upd _ p23 _ = G24 at s23 S23 f23 ⊢
    replace bH := bH.trans (But.of s23)
    replace hz := s23 _ _ hz
    replace f0 := Dv.to (But.of s23) _ _ _ f0
    replace f1 := Dv.to (But.of s23) _ _ _ f1
    replace f2 := Dv.to (But.of s23) _ _ _ f2
    replace f3 := Dv.to (But.of s23) _ _ _ f3
    replace hpa1 := s23 _ _ hpa1
    replace f7 := Dv.to (But.of s23) _ _ _ f7
    replace f9 := Dv.to (But.of s23) _ _ _ f9
    replace f11 := Dv.to (But.of s23) _ _ _ f11
    replace f14 := Dv.to (But.of s23) _ _ _ f14
    replace f16 := Dv.to (But.of s23) _ _ _ f16
    replace f18 := Dv.to (But.of s23) _ _ _ f18
    replace hpa2 := s23 _ _ hpa2
    replace hpa3 := s23 _ _ hpa3
    replace Sr := S23
    refine ⟨by show 2 ≤ sizeLine; decide, fun p24 o24 e24 h24 => ?_⟩
    obtain ⟨s24, S24, f24⟩ := mkF (vs := [(.str "a"), (.int 1)]) (ds := [(.str "a"), (.int 1)]) e24 h24 hz Sr (.cons (.str _) (.cons (.int _) .nil))
    generalize upd _ p24 (HO.frz o24 (.tup [(.str "a"), (.int 1)])) = G25 at s24 S24 f24 ⊢
    replace bH := bH.trans (But.of s24)
    replace hz := s24 _ _ hz
    replace f0 := Dv.to (But.of s24) _ _ _ f0
    replace f1 := Dv.to (But.of s24) _ _ _ f1
    replace f2 := Dv.to (But.of s24) _ _ _ f2
    replace f3 := Dv.to (But.of s24) _ _ _ f3
    replace hpa1 := s24 _ _ hpa1
    replace f7 := Dv.to (But.of s24) _ _ _ f7
    replace f9 := Dv.to (But.of s24) _ _ _ f9
    replace f11 := Dv.to (But.of s24) _ _ _ f11
    replace f14 := Dv.to (But.of s24) _ _ _ f14
    replace f16 := Dv.to (But.of s24) _ _ _ f16
    replace f18 := Dv.to (But.of s24) _ _ _ f18
    replace hpa2 := s24 _ _ hpa2
    replace hpa3 := s24 _ _ hpa3
    replace f23 := Dv.to (But.of s24) _ _ _ f23
    replace Sr := S24
    refine ⟨by show 1 ≤ sizeLine; decide, fun p25 e25 => ?_⟩
    obtain ⟨s25, S25, f25⟩ := mkLs (vs := [(.ref p24)]) (ds := [(.tuple [(.str "a"), (.int 1)])]) e25 hz Sr (.cons (Dv.weak f24) .nil)
    generalize upd _ p25 (HO.lst [(.ref p24)]) = G26 at s25 S25 f25 ⊢
    replace bH := bH.trans (But.of s25)
    replace hz := s25 _ _ hz
    replace f0 := Dv.to (But.of s25) _ _ _ f0
    replace f1 := Dv.to (But.of s25) _ _ _ f1
    replace f2 := Dv.to (But.of s25) _ _ _ f2
    replace f3 := Dv.to (But.of s25) _ _ _ f3
    replace hpa1 := s25 _ _ hpa1
    replace f7 := Dv.to (But.of s25) _ _ _ f7
    replace f9 := Dv.to (But.of s25) _ _ _ f9
    replace f11 := Dv.to (But.of s25) _ _ _ f11
    replace f14 := Dv.to (But.of s25) _ _ _ f14
    replace f16 := Dv.to (But.of s25) _ _ _ f16
    replace f18 := Dv.to (But.of s25) _ _ _ f18
    replace hpa2 := s25 _ _ hpa2
    replace hpa3 := s25 _ _ hpa3
    replace f23 := Dv.to (But.of s25) _ _ _ f23
    replace Sr := S25
    refine ⟨by show 4 ≤ sizeLine; decide, fun pa4 e26 => ?_⟩
    have s26 := same_new (o := HO.lst [(.ref p23), (.ref p25), (.str "b"), (.int 7)]) e26
    have npa4 : pa4 ≠ z := (ne_of_none hz e26).symm
    have S26 := Src.new (o := HO.lst [(.ref p23), (.ref p25), (.str "b"), (.int 7)]) Sr e26
    have hpa4 : upd G26 pa4 (HO.lst [(.ref p23), (.ref p25), (.str "b"), (.int 7)]) pa4 = some (HO.lst [(.ref p23), (.ref p25), (.str "b"), (.int 7)]) := upd_same
    generalize upd _ pa4 (HO.lst [(.ref p23), (.ref p25), (.str "b"), (.int 7)]) = G27 at s26 S26 hpa4 ⊢
    replace bH := bH.trans (But.of s26)
    replace hz := s26 _ _ hz
    replace f0 := Dv.to (But.of s26) _ _ _ f0
    replace f1 := Dv.to (But.of s26) _ _ _ f1
    replace f2 := Dv.to (But.of s26) _ _ _ f2
    replace f3 := Dv.to (But.of s26) _ _ _ f3
    replace hpa1 := s26 _ _ hpa1
    replace f7 := Dv.to (But.of s26) _ _ _ f7
    replace f9 := Dv.to (But.of s26) _ _ _ f9
    replace f11 := Dv.to (But.of s26) _ _ _ f11
    replace f14 := Dv.to (But.of s26) _ _ _ f14
    replace f16 := Dv.to (But.of s26) _ _ _ f16
    replace f18 := Dv.to (But.of s26) _ _ _ f18
    replace hpa2 := s26 _ _ hpa2
    replace hpa3 := s26 _ _ hpa3
    replace f23 := Dv.to (But.of s26) _ _ _ f23
    replace f25 := Dv.to (But.of s26) _ _ _ f25
    replace Sr := S26
    refine ⟨pa3, pa4, _, _, rfl, rfl, hpa3, hpa4, by show 29 ≤ sizeLine; decide, fun pa5 e27 => ?_⟩
    have c27 : ([.non, (.bl true), (.bl false), (.str ""), (.str "A"), (.str "a1"), (.str "abcde"), (.str "a "), (.int (-1)), (.int 0), (.int 10), (.int 100), (.int 999), (.int 1000), (.ref p0), (.ref p1), (.ref p2), (.ref p3), (.str "put"), (.ref p7), (.ref p9), (.ref p11), (.ref p14), (.ref p16), (.ref p18)] : List V) ++ [(.ref p23), (.ref p25), (.str "b"), (.int 7)] = [.non, (.bl true), (.bl false), (.str ""), (.str "A"), (.str "a1"), (.str "abcde"), (.str "a "), (.int (-1)), (.int 0), (.int 10), (.int 100), (.int 999), (.int 1000), (.ref p0), (.ref p1), (.ref p2), (.ref p3), (.str "put"), (.ref p7), (.ref p9), (.ref p11), (.ref p14), (.ref p16), (.ref p18), (.ref p23), (.ref p25), (.str "b"), (.int 7)] := rfl
    rw [c27]
    have s27 := same_new (o := HO.lst [.non, (.bl true), (.bl false), (.str ""), (.str "A"), (.str "a1"), (.str "abcde"), (.str "a "), (.int (-1)), (.int 0), (.int 10), (.int 100), (.int 999), (.int 1000), (.ref p0), (.ref p1), (.ref p2), (.ref p3), (.str "put"), (.ref p7), (.ref p9), (.ref p11), (.ref p14), (.ref p16), (.ref p18), (.ref p23), (.ref p25), (.str "b"), (.int 7)]) e27
    have npa5 : pa5 ≠ z := (ne_of_none hz e27).symm
    have S27 := Src.new (o := HO.lst [.non, (.bl true), (.bl false), (.str ""), (.str "A"), (.str "a1"), (.str "abcde"), (.str "a "), (.int (-1)), (.int 0), (.int 10), (.int 100), (.int 999), (.int 1000), (.ref p0), (.ref p1), (.ref p2), (.ref p3), (.str "put"), (.ref p7), (.ref p9), (.ref p11), (.ref p14), (.ref p16), (.ref p18), (.ref p23), (.ref p25), (.str "b"), (.int 7)]) Sr e27
    have hpa5 : upd G27 pa5 (HO.lst [.non, (.bl true), (.bl false), (.str ""), (.str "A"), (.str "a1"), (.str "abcde"), (.str "a "), (.int (-1)), (.int 0), (.int 10), (.int 100), (.int 999), (.int 1000), (.ref p0), (.ref p1), (.ref p2), (.ref p3), (.str "put"), (.ref p7), (.ref p9), (.ref p11), (.ref p14), (.ref p16), (.ref p18), (.ref p23), (.ref p25), (.str "b"), (.int 7)]) pa5 = some (HO.lst [.non, (.bl true), (.bl false), (.str ""), (.str "A"), (.str "a1"), (.str "abcde"), (.str "a "), (.int (-1)), (.int 0), (.int 10), (.int 100), (.int 999), (.int 1000), (.ref p0), (.ref p1), (.ref p2), (.ref p3), (.str "put"), (.ref p7), (.ref p9), (.ref p11), (.ref p14), (.ref p16), (.ref p18), (.ref p23), (.ref p25), (.str "b"), (.int 7)]) := upd_same
    generalize upd _ pa5 (HO.lst [.non, (.bl true), (.bl false), (.str ""), (.str "A"), (.str "a1"), (.str "abcde"), (.str "a "), (.int (-1)), (.int 0), (.int 10), (.int 100), (.int 999), (.int 1000), (.ref p0), (.ref p1), (.ref p2), (.ref p3), (.str "put"), (.ref p7), (.ref p9), (.ref p11), (.ref p14), (.ref p16), (.ref p18), (.ref p23), (.ref p25), (.str "b"), (.int 7)]) = G28 at s27 S27 hpa5 ⊢
    replace bH := bH.trans (But.of s27)
    replace hz := s27 _ _ hz
    replace f0 := Dv.to (But.of s27) _ _ _ f0
    replace f1 := Dv.to (But.of s27) _ _ _ f1
    replace f2 := Dv.to (But.of s27) _ _ _ f2
    replace f3 := Dv.to (But.of s27) _ _ _ f3
    replace hpa1 := s27 _ _ hpa1
    replace f7 := Dv.to (But.of s27) _ _ _ f7
    replace f9 := Dv.to (But.of s27) _ _ _ f9
    replace f11 := Dv.to (But.of s27) _ _ _ f11
    replace f14 := Dv.to (But.of s27) _ _ _ f14
    replace f16 := Dv.to (But.of s27) _ _ _ f16
    replace f18 := Dv.to (But.of s27) _ _ _ f18
    replace hpa2 := s27 _ _ hpa2
    replace hpa3 := s27 _ _ hpa3
    replace f23 := Dv.to (But.of s27) _ _ _ f23
    replace f25 := Dv.to (But.of s27) _ _ _ f25
    replace hpa4 := s27 _ _ hpa4
    replace Sr := S27
    refine ⟨z, pa5, _, rfl, Sr, npa5, hpa5, by simp, by show 29 ≤ 1000; decide, fun i v G hi bG sG => ?_⟩
    have hm := List.mem_of_getElem? hi; skip
    simp only [List.mem_cons, List.not_mem_nil, or_false] at hm; skip
    rcases hm with rfl | rfl | rfl | rfl | rfl | rfl | rfl | rfl | rfl | rfl | rfl | rfl | rfl | rfl | rfl | rfl | rfl | rfl | rfl | rfl | rfl | rfl | rfl | rfl | rfl | rfl | rfl | rfl | rfl
    · exact q false _ .none G (bH.trans bG) sG .non ⟨by decide +kernel, by decide +kernel, by decide +kernel⟩
    · exact q false _ (.bool true) G (bH.trans bG) sG (.bl _) ⟨by decide +kernel, by decide +kernel, by decide +kernel⟩
    · exact q false _ (.bool false) G (bH.trans bG) sG (.bl _) ⟨by decide +kernel, by decide +kernel, by decide +kernel⟩
    · exact q false _ (.str "") G (bH.trans bG) sG (.str _) ⟨by decide +kernel, by decide +kernel, by decide +kernel⟩
    · exact q false _ (.str "A") G (bH.trans bG) sG (.str _) ⟨by decide +kernel, by decide +kernel, by decide +kernel⟩
    · exact q false _ (.str "a1") G (bH.trans bG) sG (.str _) ⟨by decide +kernel, by decide +kernel, by decide +kernel⟩
    · exact q false _ (.str "abcde") G (bH.trans bG) sG (.str _) ⟨by decide +kernel, by decide +kernel, by decide +kernel⟩
    · exact q false _ (.str "a ") G (bH.trans bG) sG (.str _) ⟨by decide +kernel, by decide +kernel, by decide +kernel⟩
    · exact q false _ (.int (-1)) G (bH.trans bG) sG (.int _) ⟨by decide +kernel, by decide +kernel, by decide +kernel⟩
    · exact q false _ (.int 0) G (bH.trans bG) sG (.int _) ⟨by decide +kernel, by decide +kernel, by decide +kernel⟩
    · exact q false _ (.int 10) G (bH.trans bG) sG (.int _) ⟨by decide +kernel, by decide +kernel, by decide +kernel⟩
    · exact q false _ (.int 100) G (bH.trans bG) sG (.int _) ⟨by decide +kernel, by decide +kernel, by decide +kernel⟩
    · exact q false _ (.int 999) G (bH.trans bG) sG (.int _) ⟨by decide +kernel, by decide +kernel, by decide +kernel⟩
    · exact q false _ (.int 1000) G (bH.trans bG) sG (.int _) ⟨by decide +kernel, by decide +kernel, by decide +kernel⟩
    · exact q false _ (.tuple []) G (bH.trans bG) sG (Dv.to bG _ _ _ f0) ⟨by decide +kernel, by decide +kernel, by decide +kernel⟩
    · exact q false _ (.list []) G (bH.trans bG) sG (Dv.to bG _ _ _ f1) ⟨by decide +kernel, by decide +kernel, by decide +kernel⟩
    · exact q true _ (.dict []) G (bH.trans bG) sG (Dv.to bG _ _ _ f2) ⟨by decide +kernel, by decide +kernel, by decide +kernel⟩
    · exact q false _ (.tuple [(.str "a")]) G (bH.trans bG) sG (Dv.to bG _ _ _ f3) ⟨by decide +kernel, by decide +kernel, by decide +kernel⟩
    · exact q false _ (.str "put") G (bH.trans bG) sG (.str _) ⟨by decide +kernel, by decide +kernel, by decide +kernel⟩
    · exact q false _ (.tuple [(.tuple [(.str "a"), (.int 1)]), (.tuple [(.str "a"), (.int 2)])]) G (bH.trans bG) sG (Dv.to bG _ _ _ f7) ⟨by decide +kernel, by decide +kernel, by decide +kernel⟩
    · exact q false _ (.tuple [(.tuple [(.str "a"), (.int 100)])]) G (bH.trans bG) sG (Dv.to bG _ _ _ f9) ⟨by decide +kernel, by decide +kernel, by decide +kernel⟩
    · exact q false _ (.tuple [(.tuple [(.str "a"), (.int 1), (.int 2)])]) G (bH.trans bG) sG (Dv.to bG _ _ _ f11) ⟨by decide +kernel, by decide +kernel, by decide +kernel⟩
    · exact q false _ (.tuple [(.list [(.tuple [(.str "a"), (.int 1)])])]) G (bH.trans bG) sG (Dv.to bG _ _ _ f14) ⟨by decide +kernel, by decide +kernel, by decide +kernel⟩
    · exact q false _ (.tuple [(.tuple [(.str "a"), (.bool true)])]) G (bH.trans bG) sG (Dv.to bG _ _ _ f16) ⟨by decide +kernel, by decide +kernel, by decide +kernel⟩
    · exact q false _ (.tuple [(.tuple [(.str "A"), (.int 1)])]) G (bH.trans bG) sG (Dv.to bG _ _ _ f18) ⟨by decide +kernel, by decide +kernel, by decide +kernel⟩
    · exact q false _ (.tuple [(.tuple [(.str "a"), (.int 1)]), (.tuple [(.str "a"), (.int 1)]), (.tuple [(.str "a"), (.int 1)]), (.tuple [(.str "a"), (.int 1)]), (.tuple [(.str "a"), (.int 1)])]) G (bH.trans bG) sG (Dv.to bG _ _ _ f23) ⟨by decide +kernel, by decide +kernel, by decide +kernel⟩
    · exact q false _ (.list [(.tuple [(.str "a"), (.int 1)])]) G (bH.trans bG) sG (Dv.to bG _ _ _ f25) ⟨by decide +kernel, by decide +kernel, by decide +kernel⟩
    · exact q false _ (.str "b") G (bH.trans bG) sG (.str _) ⟨by decide +kernel, by decide +kernel, by decide +kernel⟩
    · exact q false _ (.int 7) G (bH.trans bG) sG (.int _) ⟨by decide +kernel, by decide +kernel, by decide +kernel⟩
end
end Pl

namespace Pl
open L2 PySem PySem.Spec PyProof.Rows
def spBent : Sp := fun vs H Q _ => ∃ (z : Addr) (u : V) (du : PyData), vs = [.ref z, u] ∧ Src z H ∧ DD z H u du ∧ ∀ (m k : Bool) (v : V) (d : PyData) (G : Hp), But z H G → Src z G → Dv m z G k v d → Bd 900 6 d → Q v G
theorem Src.same {z : Addr} {H G : Hp} (h : Src z H) (s : Same H G) : Src z G := by
  obtain ⟨x, y, e, r⟩ := h
  exact ⟨x, y, s _ _ e, r⟩
theorem sIx_pos {n d : Nat} {v : Int} (h : 0 ≤ v) : HT.sIx n d (some v) = min v.toNat n := by
  show (if v < 0 then (v + (n : Int)).toNat else min v.toNat n) = _
  rw [if_neg (by omega)]
theorem noPart {σ : L2.St} {H : Hp} {Q : Option Int → Hp → Prop} (h : Q none H) : tNoPart σ H Q := h
def cutD (ds : List PyData) (lo hi : Option Int) : List PyData := (ds.drop (HT.sIx ds.length 0 lo)).take (HT.sIx ds.length ds.length hi - HT.sIx ds.length 0 lo)
theorem BdA.cut {W D : Nat} {ds : List PyData} (h : BdA W D ds) (lo hi : Option Int) : BdA W D (cutD ds lo hi) := (h.drop _).take _
theorem cut_le (ds : List PyData) (lo hi : Option Int) : (cutD ds lo hi).length ≤ ds.length := by
  unfold cutD
  rw [List.length_take, List.length_drop]; skip
  omega
section
variable {K : PySem.W.Frag} {m k k' : Bool} {z a b : Addr} {G : Hp} {ds es : List PyData} {Q : VK}
theorem catT (s : Src z G) (ha : Dv m z G k (.ref a) (.tuple ds)) (hb : Dv m z G k' (.ref b) (.tuple es)) (hl : ds.length + es.length ≤ 1000)
    (q : ∀ p G', Same G G' → Dv m z G' false (.ref p) (.tuple (ds ++ es)) → Q (.ref p) G') : rCatA K (.ref a) (.ref b) G Q := by
  obtain ⟨oz, hz⟩ := s.some
  cases ha with
  | @tup _ _ xs _ n1 t1 l1 =>
  cases hb with
  | @tup _ _ ys _ n2 t2 l2 =>
  have e1 := l1.len
  have e2 := l2.len
  refine ⟨a, b, xs, ys, rfl, rfl, t1.sq, t2.sq, by rw [e1, e2]; exact sz1000 hl, fun e => ?_, fun _ e => ?_, fun _ _ p hp => ?_⟩
  · subst e
    have : ds = [] := List.length_eq_zero_iff.mp e1.symm
    subst this
    exact q b G (Same.refl _) (.tup n2 t2.weak l2)
  · subst e
    have : es = [] := List.length_eq_zero_iff.mp e2.symm
    subst this
    exact q a G (Same.refl _) (by rw [List.append_nil]; exact .tup n1 t1.weak l1)
  · have bb := But.new (z := z) (o := HO.tup (xs ++ ys)) hp
    exact q p _ (same_new hp) (.tup (ne_of_none hz hp).symm (.any upd_same) ((DvL.to bb _ _ _ l1).app (DvL.to bb _ _ _ l2)))
theorem tupM (ha : ∀ m, Dv m z G k (.ref a) (.tuple ds)) : ∃ xs, a ≠ z ∧ TupAt G k a xs ∧ ∀ m, DvL m z G true xs ds := by
  have h1 := ha true
  have h2 := ha false
  cases h1 with
  | @tup _ _ xs _ n1 t1 l1 =>
  cases h2 with
  | @tup _ _ ys _ n2 t2 l2 =>
  obtain rfl := t1.uniq t2
  refine ⟨xs, n1, t1, fun m => ?_⟩
  cases m
  · exact l2
  · exact l1
theorem catM (s : Src z G) (ha : ∀ m, Dv m z G k (.ref a) (.tuple ds)) (hb : ∀ m, Dv m z G k' (.ref b) (.tuple es)) (hl : ds.length + es.length ≤ 1000)
    (q : ∀ p G', Same G G' → (∀ m, Dv m z G' false (.ref p) (.tuple (ds ++ es))) → Q (.ref p) G') : rCatA K (.ref a) (.ref b) G Q := by
  obtain ⟨oz, hz⟩ := s.some
  obtain ⟨xs, n1, t1, l1⟩ := tupM ha
  obtain ⟨ys, n2, t2, l2⟩ := tupM hb
  have e1 := (l1 true).len
  have e2 := (l2 true).len
  refine ⟨a, b, xs, ys, rfl, rfl, t1.sq, t2.sq, by rw [e1, e2]; exact sz1000 hl, fun e => ?_, fun _ e => ?_, fun _ _ p hp => ?_⟩
  · subst e
    have : ds = [] := List.length_eq_zero_iff.mp e1.symm
    subst this
    exact q b G (Same.refl _) fun m => .tup n2 t2.weak (l2 m)
  · subst e
    have : es = [] := List.length_eq_zero_iff.mp e2.symm
    subst this
    exact q a G (Same.refl _) fun m => by rw [List.append_nil]; exact .tup n1 t1.weak (l1 m)
  · have bb := But.new (z := z) (o := HO.tup (xs ++ ys)) hp
    exact q p _ (same_new hp) fun m => .tup (ne_of_none hz hp).symm (.any upd_same) ((DvL.to bb _ _ _ (l1 m)).app (DvL.to bb _ _ _ (l2 m)))
theorem sliceT {lo hi : Option Int} (s : Src z G) (ha : ∀ m, Dv m z G k (.ref a) (.tuple ds)) (hw : ¬ (HT.sIx ds.length 0 lo = 0 ∧ HT.sIx ds.length ds.length hi = ds.length))
    (q : ∀ p G', Same G G' → (∀ m, Dv m z G' false (.ref p) (.tuple (cutD ds lo hi))) → Q (.ref p) G') : rSlT K (.ref a) lo hi G Q := by
  obtain ⟨oz, hz⟩ := s.some
  obtain ⟨xs, n1, t1, l1⟩ := tupM ha
  have e1 := (l1 true).len
  refine ⟨a, xs, rfl, t1.sq, by rw [e1]; exact hw, fun p hp => ?_⟩
  refine q p _ (same_new hp) fun m => .tup (ne_of_none hz hp).symm (.any upd_same) ?_
  have bb := But.new (z := z) (o := HO.tup (cutV xs lo hi)) hp
  show DvL m z _ true ((xs.drop (HT.sIx xs.length 0 lo)).take (HT.sIx xs.length xs.length hi - HT.sIx xs.length 0 lo)) (cutD ds lo hi)
  rw [e1]
  exact ((DvL.to bb _ _ _ (l1 m)).drop _).take _
end
section
variable {P : Program} {K : PySem.W.Frag} {w : World} {base : Heap} {mg : Str → Option Value}
theorem scBent : FnScope ["_law_source", "_law_deed_here", "_law_way", "_law_at", "_law_word"] ["_law_source", "_law_deed_here"] (defScope sBent) := ⟨rfl, rfl, rfl, by decide +kernel, rfl, by decide +kernel, by decide +kernel⟩
theorem ok_bent {f : Addr} {fd : FuncData} (F : Fun K "_law_bent" "_law_bent" sBent f fd) (T : Cst K mg) (T2 : Cs2 mg) (DT : DTake P w K mg base) (D : DOne P w K mg base) (DO : Df P w K mg base 3 "_law_odd" ["_law_source"] spOdd) : FnOk P w K mg base CX0 4 f fd ["_law_source", "_law_deed_here"] spBent := by
  obtain ⟨g0, fd0, G0, m0, k0, b0⟩ := DT.ex
  obtain ⟨g1, fd1, G1, m1, k1, b1⟩ := D.ex
  obtain ⟨g3, fd3, G3, m3, k3, b3⟩ := DO.ex
  refine F.ok scBent (fun vs H Q E h => ?_) (fun cdv A outer s H vs Q E hr h => ?_)
  · obtain ⟨z, u, du, rfl, _⟩ := h
    rfl
  · obtain ⟨z, u, du, rfl, hz, ⟨hd, ds, rfl, l3, l4, hb⟩, q⟩ := h
    refine ⟨_, (pss_cons (ps_par (i := 2) (j := 3) (by rfl) scBent.nd rfl rfl (by decide) rfl rfl (pa_cons (pe_call G0 (hr.mono (by decide)) (by rfl) m0 k0 b0 .nil pass0 (pa_cons (pv 0) (pa_cons pe_int pa_nil))) (pa_cons (pe_call G0 (hr.mono (by decide)) (by rfl) m0 k0 b0 .nil pass0 (pa_cons (pv 0) (pa_cons (pe_callB call_len_seq (by rfl) T.len PySem.boot_len (pa_cons (pv 1) pa_nil)) pa_nil))) pa_nil)) (by rfl))
      (pss_cons (ps_if (pt_cmpR op_eq (pv 2) pe_int (nomark _)) (pss_one (ps_ret (pe_op op_catA (pe_op op_catA (pe_slice sl_tup (pv 1) po_none (po_some (pv 3))) (pe_tup (pa_cons (pe_call G3 hr (by rfl) m3 k3 b3 .nil pass0 (pa_cons (pv 0) pa_nil)) pa_nil))) (pe_slice sl_tup (pv 1) (po_some (pe_op op_add (pv 3) pe_int)) po_none)))) pss_nil)
      (pss_cons (ps_if (pt_cmpR op_eq (pv 2) pe_int (nomark _)) (pss_one (ps_ret (pe_op op_catA (pe_slice sl_tup (pv 1) po_none (po_some (pv 3))) (pe_slice sl_tup (pv 1) (po_some (pe_op op_add (pv 3) pe_int)) po_none)))) pss_nil)
      (pss_cons (ps_if (pt_cmpR op_eq (pv 2) pe_int (nomark _)) (pss_one (ps_ret (pe_op op_catA (pv 1) (pe_tup (pa_cons (pe_call G3 hr (by rfl) m3 k3 b3 .nil pass0 (pa_cons (pv 0) pa_nil)) pa_nil))))) pss_nil)
      (pss_cons (ps_set (i := 4) scBent.nd rfl (Or.inl rfl) (pe_call G1 (hr.mono (by decide)) (by rfl) m1 k1 b1 .nil pass0 (pa_cons (pv 0) (pa_cons (pe_lst (pa_cons pe_str (pa_cons pe_str (pa_cons pe_str (pa_cons pe_str (pa_cons pe_str (pa_cons pe_str (pa_cons pe_str pa_nil)))))))) pa_nil))))
      (pss_one (ps_ret (pe_ix ix_list (pe_lst (pa_cons (pe_op op_catA (pe_tup (pa_cons (pe_ix (r := rIxT K) ix_tup (pv 1) pe_int (fun _ _ => rfl)) (pa_cons (pv 4) pa_nil))) (pe_slice sl_tup (pv 1) (po_some pe_int) po_none)) (pa_cons (pe_callTy call_list_of (by rfl) T2.lst (by decide +kernel) (pa_cons (pv 1) pa_nil)) (pa_cons (pe_lst (pa_cons (pv 1) pa_nil)) (pa_cons (pe_call G3 hr (by rfl) m3 k3 b3 .nil pass0 (pa_cons (pv 0) pa_nil)) pa_nil))))) (pe_call G0 (hr.mono (by decide)) (by rfl) m0 k0 b0 .nil pass0 (pa_cons (pv 0) (pa_cons pe_int pa_nil))) (fun _ _ => rfl))))))))), ?_⟩
    obtain ⟨a, rfl⟩ : ∃ a, u = .ref a := by
      have h := hd true
      cases h with
      | tup n t l => exact ⟨_, rfl⟩
    obtain ⟨xs, n1, t1, l1⟩ := tupM hd
    have e1 := (l1 true).len
    refine ⟨_, rfl, z, 4, rfl, hz, by decide, by decide, fun wy Ga wy0 wy1 ba sa => ?_⟩
    refine ⟨_, rfl, _, rfl, a, xs, rfl, .inr (t1.to ba n1).sq, z, _, rfl, sa, by omega, by omega, fun at_ Gb at0 at1 bb sb => ⟨_, _, rfl, ?_⟩⟩
    have bB := ba.trans bb
    have hdb : ∀ m, Dv m z Gb true (.ref a) (.tuple ds) := fun m => Dv.to bB _ _ _ (hd m)
    have tb := t1.to bB n1
    rw [e1] at at1
    have w1 : ¬ (HT.sIx ds.length 0 none = 0 ∧ HT.sIx ds.length ds.length (some at_) = ds.length) := fun h => by
      have h2 := h.2
      rw [sIx_pos (by omega)] at h2
      omega
    have w2 : ¬ (HT.sIx ds.length 0 (some (at_ + 1)) = 0 ∧ HT.sIx ds.length ds.length none = ds.length) := fun h => by
      have h2 := h.1
      rw [sIx_pos (by omega)] at h2
      omega
    have w3 : ¬ (HT.sIx ds.length 0 (some 2) = 0 ∧ HT.sIx ds.length ds.length none = ds.length) := fun h => by
      have h2 := h.1
      rw [sIx_pos (by omega)] at h2
      omega
    have c1 := cut_le ds none (some at_)
    have c2 := cut_le ds (some (at_ + 1)) none
    have c3 := cut_le ds (some 2) none
    have oddT : ∀ {m : Bool} {v : V} {d : PyData} {G : Hp} {p : Addr}, Src z G → Dv m z G true v d → G p = none → Same G (upd G p (.tup [v])) ∧ Dv m z (upd G p (.tup [v])) false (.ref p) (.tuple [d]) := fun {m v d G p} s hv hp => by
      obtain ⟨oz, hz⟩ := s.some
      have bb := But.new (z := z) (o := HO.tup [v]) hp
      exact ⟨same_new hp, .tup (ne_of_none hz hp).symm (.any upd_same) (.cons (Dv.to bb _ _ _ hv) .nil)⟩
    have bo : ∀ {d : PyData}, Bd 100 3 d → BdA 101 3 [d] := fun h => (BdA.cons h BdA.nil).mono (by decide) (by decide)
    have hb3 : BdA 200 3 ds := hb.mono (by decide) (by decide)
    refine ⟨_, rfl, rfl, _, rfl, ?_⟩; skip
    refine ite2 (fun _ => ?_) fun _ => ?_
    · refine ⟨_, rfl, _, rfl, at_, rfl, sliceT sb hdb w1 fun p1 Gc s1 hc => ⟨_, rfl, z, rfl, sb.same s1, fun m v d Gd bd sd hv hbd => ⟨by show 1 ≤ sizeLine; decide, fun p2 e2 => ?_⟩⟩⟩
      obtain ⟨s2, hv2⟩ := oddT sd hv e2
      have hc2 : Dv m z _ false (.ref p1) (.tuple (cutD ds none (some at_))) := Dv.to (bd.trans (But.of s2)) _ _ _ (hc m)
      refine catT (sd.same s2) hc2 hv2 (by simp; omega) fun p3 Ge s3 h3 => ?_
      have bBe : But z Gb Ge := ((But.of s1).trans bd).trans (But.of (s2.trans s3))
      have sE : Src z Ge := sd.same (s2.trans s3)
      refine ⟨_, rfl, _, rfl, _, _, rfl, rfl, _, rfl, noPart ?_⟩
      refine sliceT sE (fun m => Dv.to bBe _ _ _ (hdb m)) w2 fun p4 Gf s4 h4 => ?_
      refine catT (sE.same s4) (Dv.to (But.of s4) _ _ _ h3) (h4 m) (by simp; omega) fun p5 Gg s5 h5 => ?_
      exact q m false _ _ Gg ((bB.trans bBe).trans (But.of (s4.trans s5))) (sE.same (s4.trans s5)) h5 ((((hb3.cut _ _).app (bo hbd)).app (hb3.cut _ _)).tup.mono (by decide) (by decide))
    refine ⟨_, rfl, rfl, _, rfl, ?_⟩; skip
    refine ite2 (fun _ => ?_) fun _ => ?_
    · refine ⟨_, rfl, _, rfl, at_, rfl, sliceT sb hdb w1 fun p1 Gc s1 hc => ?_⟩
      refine ⟨_, rfl, _, rfl, _, _, rfl, rfl, _, rfl, noPart ?_⟩
      refine sliceT (sb.same s1) (fun m => Dv.to (But.of s1) _ _ _ (hdb m)) w2 fun p4 Gf s4 h4 => ?_
      refine catT (sb.same (s1.trans s4)) (Dv.to (But.of s4) _ _ _ (hc true)) (h4 true) (by omega) fun p5 Gg s5 h5 => ?_
      exact q true false _ _ Gg (bB.trans (But.of ((s1.trans s4).trans s5))) (sb.same ((s1.trans s4).trans s5)) h5 (((hb3.cut _ _).app (hb3.cut _ _)).tup.mono (by decide) (by decide))
    refine ⟨_, rfl, rfl, _, rfl, ?_⟩; skip
    refine ite2 (fun _ => ?_) fun _ => ?_
    · refine ⟨_, rfl, _, rfl, z, rfl, sb, fun m v d Gd bd sd hv hbd => ⟨by show 1 ≤ sizeLine; decide, fun p2 e2 => ?_⟩⟩
      obtain ⟨s2, hv2⟩ := oddT sd hv e2
      refine catT (sd.same s2) (Dv.to (bd.trans (But.of s2)) _ _ _ (hdb m)) hv2 (by simp; omega) fun p3 Ge s3 h3 => ?_
      exact q m false _ _ Ge ((bB.trans bd).trans (But.of (s2.trans s3))) (sd.same (s2.trans s3)) h3 ((hb3.app (bo hbd)).tup.mono (by decide) (by decide))
    refine ⟨_, rfl, by show 7 ≤ sizeLine; decide, fun p1 q1 => ?_⟩
    obtain ⟨oz, zb⟩ := sb.some
    refine ⟨z, p1, _, rfl, sb.new q1, (ne_of_none zb q1).symm, upd_same, by simp, by show 7 ≤ 1000; decide, fun i v Gc hi bc sc => ?_⟩
    obtain ⟨wd, hwd, rfl⟩ : ∃ wd : Str, wd ∈ strL ∧ v = .str wd := by
      have hm := List.mem_of_getElem? hi; skip
      simp only [List.mem_cons, List.not_mem_nil, or_false] at hm; skip
      rcases hm with rfl | rfl | rfl | rfl | rfl | rfl | rfl <;> exact ⟨_, by decide +kernel, rfl⟩
    have bC : But z Gb Gc := (But.new q1).trans bc
    have hdc : ∀ m, Dv m z Gc true (.ref a) (.tuple ds) := fun m => Dv.to bC _ _ _ (hdb m)
    obtain ⟨us, n2, t2, l2⟩ := tupM hdc
    have f2 := (l2 true).len
    obtain ⟨d0, v0, hv0, hD0⟩ : ∃ d0 v0, us[0]? = some v0 ∧ ∀ m, Dv m z Gc true v0 d0 ∧ d0 ∈ ds := by
      cases ds with
      | nil => simp at l3
      | cons d0 dr =>
        obtain ⟨v0, hv0, _⟩ := (l2 true).at (i := 0) rfl
        refine ⟨d0, v0, hv0, fun m => ?_⟩
        obtain ⟨v1, hv1, h⟩ := (l2 m).at (i := 0) rfl
        rw [hv0] at hv1
        cases hv1
        exact ⟨h, List.mem_cons_self⟩
    refine ⟨_, rfl, a, us, _, v0, rfl, rfl, t2.sq, atI_nat (j := 0) hv0, _, rfl, by show 2 ≤ sizeLine; decide, fun p2 q2 => ?_⟩
    have s2 := same_new (o := HO.tup [v0, .str wd]) q2
    obtain ⟨oz2, zc⟩ := sc.some
    have hT : ∀ m, Dv m z (upd Gc p2 (.tup [v0, .str wd])) false (.ref p2) (.tuple [d0, .str wd]) := fun m => .tup (ne_of_none zc q2).symm (.any upd_same) (.cons (Dv.to (But.of s2) _ _ _ (hD0 m).1) (.cons (.str _) .nil))
    refine ⟨_, rfl, _, rfl, noPart ?_⟩
    refine sliceT (sc.same s2) (fun m => Dv.to (But.of s2) _ _ _ (hdc m)) w3 fun p3 Gd s3 h3 => ?_
    have hTd : ∀ m, Dv m z Gd false (.ref p2) (.tuple [d0, .str wd]) := fun m => Dv.to (But.of s3) _ _ _ (hT m)
    refine catM (sc.same (s2.trans s3)) hTd h3 (by simp; omega) fun p4 Ge s4 h4 => ?_
    have s24 := (s2.trans s3).trans s4
    refine ⟨_, rfl, a, us, rfl, .inr (t2.to (But.of (z := z) s24) n2).sq, fun p5 q5 => ?_⟩
    have s5 := same_new (o := HO.lst us) q5
    have zE := s24 _ _ zc
    have n5 : p5 ≠ z := (ne_of_none zE q5).symm
    have h5 : Dv false z (upd Ge p5 (.lst us)) false (.ref p5) (.list ds) := .lst rfl n5 upd_same (DvL.to (But.of (s24.trans s5)) _ _ _ (l2 false)).weak
    refine ⟨_, rfl, by show 1 ≤ sizeLine; decide, fun p6 q6 => ?_⟩
    have s6 := same_new (o := HO.lst [.ref a]) q6
    have zF := s5 _ _ zE
    have h6 : Dv false z (upd (upd Ge p5 (.lst us)) p6 (.lst [.ref a])) false (.ref p6) (.list [.tuple ds]) := .lst rfl (ne_of_none zF q6).symm upd_same (.cons (Dv.to (But.of ((s24.trans s5).trans s6)) _ _ _ (hdc false)).weak .nil)
    have s26 := (s24.trans s5).trans s6
    refine ⟨_, rfl, z, rfl, sc.same s26, fun m v d Gf bf sf hv hbd => ⟨by show 4 ≤ sizeLine; decide, fun p7 q7 => ?_⟩⟩
    obtain ⟨oz7, zf⟩ := sf.some
    refine ⟨_, rfl, z, 4, rfl, sf.new q7, by decide, by decide, fun ix Gh ix0 ix1 bh sh => ?_⟩
    have n7 : p7 ≠ z := (ne_of_none zf q7).symm
    have k7 := bh _ _ n7 NoT.lst (upd_same (H := Gf) (a := p7) (o := HO.lst [.ref p4, .ref p5, .ref p6, v]))
    have bFh : But z Gf Gh := (But.new q7).trans bh
    have bAll : But z H Gh := ((bB.trans bC).trans (But.of s26)).trans (bf.trans bFh)
    obtain ⟨j, rfl⟩ : ∃ j : Nat, ix = j := ⟨ix.toNat, by omega⟩
    have bw : Bd 6 3 (.str wd) := Bd.str hwd
    have hbt : Bd 410 5 (.tuple ([d0, .str wd] ++ cutD ds (some 2) none)) := ((BdA.cons (bd_of hb3 (hD0 true).2) (BdA.cons bw BdA.nil)).app (hb3.cut _ _)).tup.mono (by decide) (by decide)
    have four : j = 0 ∨ j = 1 ∨ j = 2 ∨ j = 3 := by omega
    rcases four with rfl | rfl | rfl | rfl
    · refine ⟨p7, _, _, .ref p4, rfl, rfl, SqL.of k7, atI_nat (j := 0) rfl, ?_⟩
      exact q true false _ _ Gh bAll sh (Dv.to ((But.of (s5.trans s6)).trans (bf.trans bFh)) _ _ _ (h4 true)) (hbt.mono (by decide) (by decide))
    · refine ⟨p7, _, _, .ref p5, rfl, rfl, SqL.of k7, atI_nat (j := 1) rfl, ?_⟩
      exact q false false _ _ Gh bAll sh (Dv.to ((But.of s6).trans (bf.trans bFh)) _ _ _ h5) (hb3.lst.mono (by decide) (by decide))
    · refine ⟨p7, _, _, .ref p6, rfl, rfl, SqL.of k7, atI_nat (j := 2) rfl, ?_⟩
      exact q false false _ _ Gh bAll sh (Dv.to (bf.trans bFh) _ _ _ h6) ((BdA.cons hb3.tup BdA.nil).lst.mono (by decide) (by decide))
    · refine ⟨p7, _, _, v, rfl, rfl, SqL.of k7, atI_nat (j := 3) rfl, ?_⟩
      exact q m true _ _ Gh bAll sh (Dv.to bFh _ _ _ hv) (hbd.mono (by decide) (by decide))
end
end Pl

namespace Pl
open L2 PySem PySem.Spec PyProof.Rows
/-- as FnOk, at places where nothing is being written out -/
structure FnG (P : Program) (w : World) (K : PySem.W.Frag) (mg : Str → Option Value) (base : Heap) (k : Nat) (f : Addr) (fd : FuncData) (ps : List Str) (sp : Sp) : Prop where
  len : ∀ us H Q E, sp us H Q E → us.length = ps.length
  run : ∀ (A : Around) (outer : List Env) (s : Shared) (H : Hp) (args : Args) (us : List Value) (vs : List V) (Q : VK) (E : XK), A.guards = some [] → Room k A → Env0 P w K mg base A outer s H → BindsTo s fd args (ps.zip us) → Vals vs us → sp vs H Q E →
    codeAny (model P w) A (.call (.ref f) args) (CR CX0 outer P w H s Q E) s
section
variable {P : Program} {K : PySem.W.Frag} {w : World} {base : Heap} {mg : Str → Option Value}
theorem okG0 {x qual : Str} {st : Stmt} {f : Addr} {N ps : List Str} {k : Nat} {sp : Sp} {oc kV doc pm cdv ct : Value} {od an : Option Addr} {osl : Array (Option Value)} (lk : K.lookup f = some ⟨oc, od, .func (PySem.W.fnOf x qual (defArgs st) (defBody st) (defScope st) .none kV doc pm an cdv ct), osl⟩) (hcd : PySem.W.codeIn K cdv qual = true)
    (S : FnScope N ps (defScope st)) (len : ∀ vs H Q E, sp vs H Q E → vs.length = ps.length)
    (walk : ∀ (A : Around) (outer : List Env) (s : Shared) (H : Hp) (vs : List V) (Q : VK) (E : XK), A.guards = some [] → Room k (A.deeper (envOfC qual (defScope st) s.heap.objs.size f cdv)) → sp vs H Q E →
      ∃ t, PSs (cxOf CX0 P w K mg base N qual (defScope st) f cdv A outer s H E).nox (defBody st) t ∧ t { nx := fun _ H' => Q .non H', rt := Q } (start N vs) H) : FnG P w K mg base (k + 1) f (PySem.W.fnOf x qual (defArgs st) (defBody st) (defScope st) .none kV doc pm an cdv ct) ps sp := by
  refine ⟨len, ?_⟩
  intro A outer s H args us vs Q E hg room env bind rel want
  have kin : K.In s.heap := env.mod.kin.keeps fun b o e => (env.bs b o e).1
  have nol : s.heap.NoLimit := env.mod.nolimit.keeps fun b o e => (env.bs b o e).1
  obtain ⟨t, ht, goal⟩ := walk A outer s H vs Q E hg (room.deeper _) want
  refine codeAny_call_function room.depth (kin _ _ lk) rfl S.co S.gen rfl (PySem.W.codeRec_of kin hcd) (bind _ _ _ _ (wpAny_newFunctionEnv_cells S.kind (fun y hy => ?_) fun env' ee s1 made => ?_))
  · rcases S.par y.1 (List.of_mem_zip (a := y.1) (b := y.2) hy).1 with h | h
    · exact .inl h
    · exact .inr ⟨h, PySem.W.cellsFrom_some _ _ _ (.inl h)⟩
  · subst ee
    refine ⟨nol.keeps made.toInCall.keep, codeAny_func (wpAny_mono (ht.nox.run [] s1 (start N vs) H _ (inv_start S room.hd env (len _ _ _ _ want) rel made) goal) ?_ fun _ _ h => h)⟩
    intro fl s2 h
    match fl, h with
    | .ret u, ⟨v, σ2, H2, J, rv, q⟩ => exact ⟨v, H2, J.os, J.bare, J.base, J.hok, rv, q⟩
    | .next, ⟨σ2, H2, J, q⟩ => exact ⟨V.non, H2, J.os, J.bare, J.base, J.hok, rfl, q⟩
    | .brk, ⟨_, _, _, q⟩ => exact q.elim
    | .cont, ⟨_, _, _, q⟩ => exact q.elim
theorem okG {x qual : Str} {st : Stmt} {f : Addr} {fd : FuncData} {N ps : List Str} {k : Nat} {sp : Sp} (F : Fun K x qual st f fd) (S : FnScope N ps (defScope st)) (len : ∀ vs H Q E, sp vs H Q E → vs.length = ps.length)
    (walk : ∀ (cdv : Value) (A : Around) (outer : List Env) (s : Shared) (H : Hp) (vs : List V) (Q : VK) (E : XK), A.guards = some [] → Room k (A.deeper (envOfC qual (defScope st) s.heap.objs.size f cdv)) → sp vs H Q E →
      ∃ t, PSs (cxOf CX0 P w K mg base N qual (defScope st) f cdv A outer s H E).nox (defBody st) t ∧ t { nx := fun _ H' => Q .non H', rt := Q } (start N vs) H) : FnG P w K mg base (k + 1) f fd ps sp := by
  obtain ⟨oc, od, kV, doc, pm, an, cdv, ct, osl, rfl, lk, hcd⟩ := F.ex; skip
  exact okG0 lk hcd S len fun A outer s H vs Q E => walk cdv A outer s H vs Q E
/-- a def whose code object is known -/
structure FunC (K : PySem.W.Frag) (x qual : Str) (st : Stmt) (f c : Addr) (fd : FuncData) : Prop where
  ex : ∃ (oc : Value) (od : Option Addr) (kV doc pm : Value) (an : Option Addr) (ct : Value) (osl : Array (Option Value)),
    fd = PySem.W.fnOf x qual (defArgs st) (defBody st) (defScope st) .none kV doc pm an (.ref c) ct ∧ K.lookup f = some ⟨oc, od, .func fd, osl⟩ ∧ PySem.W.codeIn K (.ref c) qual = true
theorem okC {x qual : Str} {st : Stmt} {f c : Addr} {fd : FuncData} {N ps : List Str} {k : Nat} {sp : Sp} (F : FunC K x qual st f c fd) (S : FnScope N ps (defScope st)) (len : ∀ vs H Q E, sp vs H Q E → vs.length = ps.length)
    (walk : ∀ (A : Around) (outer : List Env) (s : Shared) (H : Hp) (vs : List V) (Q : VK) (E : XK), A.guards = some [] → Room k (A.deeper (envOfC qual (defScope st) s.heap.objs.size f (.ref c))) → sp vs H Q E →
      ∃ t, PSs (cxOf CX0 P w K mg base N qual (defScope st) f (.ref c) A outer s H E).nox (defBody st) t ∧ t { nx := fun _ H' => Q .non H', rt := Q } (start N vs) H) : FnG P w K mg base (k + 1) f fd ps sp := by
  obtain ⟨oc, od, kV, doc, pm, an, ct, osl, rfl, lk, hcd⟩ := F.ex
  exact okG0 lk hcd S len walk
end
section
variable {X : Cx} {k i : Nat} {f : Addr} {fd : FuncData} {ps : List Str} {sp : Sp} {x : Str} {p pos : Pos} {e : Expr} {es : List Expr} {t : TA}
def tCallG (sp : Sp) (t : TA) : TE := fun σ H Q => t σ H fun vs H1 => sp vs H1 Q (fun _ _ _ => True)
theorem pe_callG (F : FnG X.prog X.w X.K X.mg X.base k f fd ps sp) (hgd : X.A.guards = some []) (hr : Room k X.A) (hg : Gl X x) (hm : X.mg x = some (.ref f)) (hk : PySem.W.keepIn X.K (.ref f) = true) (hb : Binds X.K fd ps []) (ha : PA X (e :: es) t)
    (hdb : ((x == ("__debug__" : Str)) = false) := by decide) (he : starEach (e :: es) X.env = (false, eval e X.env) :: starEach es X.env := by rfl) (hpl : (backTo pos (starEach es X.env)).any (·.1) = false := by rfl) :
    PE X (.Call (.Name x p) (e :: es) [] pos) (tCallG sp t) := by
  constructor
  intro pins s σ H Q I h
  refine wpAny_Call_Name_kw (ld_glob I hg hm (PySem.W.callWith_K (h₀ := X.base) I.ok.mod.kin hk (thn (ha.run pos pins s σ H _ I h) ?_) he hpl) hdb)
  rintro us s1 ⟨vs, H1, I1, r, q⟩
  refine ⟨I1.kIn, ?_⟩
  have hl : us.length = ps.length := r.length.symm.trans (F.len _ _ _ _ q)
  have b := hb s1 us I1.kIn (by rw [List.append_nil]; exact hl)
  rw [List.append_nil] at b
  refine wpAny_call (codeAny_mono (F.run X.A X.stack s1 H1 ⟨us, []⟩ us vs Q _ hgd hr I1.env0 b r q) ?_)
  intro r s2 hq
  match r, hq with
  | .error _, hq => exact False.elim hq
  | .ok (.ret u), hq => exact I1.after hq
  | .ok .next, hq => exact False.elim hq
  | .ok .brk, hq => exact False.elim hq
  | .ok .cont, hq => exact False.elim hq
/-- a def that may raise, held by a local name -/
structure HeldX (P : Program) (w : World) (K : PySem.W.Frag) (mg : Str → Option Value) (base : Heap) (k : Nat) (f : Addr) (sp : Sp) : Prop where
  ex : ∃ (fd : FuncData) (ps : List Str), FnOk P w K mg base (L2.CX P w) k f fd ps sp ∧ PySem.W.keepIn K (.ref f) = true ∧ Binds K fd ps []
def tCallHX (Hd : Addr → Sp → Prop) (i : Nat) (E : L2.St → XK) (t : TA) : TE := fun σ H Q => ∃ f sp, σ[i]? = some (some (.ref f)) ∧ Hd f sp ∧ t σ H fun vs H1 => sp vs H1 Q (E σ)
theorem pe_callHX {E : L2.St → XK} (hr : Room k X.A) (hN : X.N[i]? = some x) (hv : Vis X.env.scope x) (hx : ∀ σ, PassesAt (L2.CX X.prog X.w) X σ (E σ)) (ha : PA X (e :: es) t) (hdb : (x == ("__debug__" : Str)) = false := by decide) (hcd : (x == ("__classdict__" : Str)) = false := by decide)
    (he : (starEach (e :: es) X.env = (false, eval e X.env) :: starEach es X.env) := by rfl) (hpl : ((backTo pos (starEach es X.env)).any (·.1) = false) := by rfl) :
    PE X (.Call (.Name x p) (e :: es) [] pos) (tCallHX (HeldX X.prog X.w X.K X.mg X.base k) i E t) := by
  constructor
  rintro pins s σ H Q I ⟨f, sp, hs, hH, ht⟩
  obtain ⟨fd, ps, F, hk, hb⟩ := hH.ex
  refine wpAny_Call_Name_kw (thn ((pe_var (pos := p) hN hv hdb hcd).run pins s σ H (fun v H1 => v = .ref f ∧ H1 = H) I ⟨.ref f, hs, rfl, rfl⟩) ?_)
  rintro u s1 ⟨v, H1, I1, r1, rfl, rfl⟩
  cases r1
  exact PySem.W.callWith_K (h₀ := X.base) I.ok.mod.kin hk (thn (ha.run pos pins s1 σ _ _ I1 ht) fun us s2 ⟨vs, H2, I2, r, q⟩ => ⟨I2.kIn, run_fnS F hr hb (hx σ) I2 r q⟩) he hpl
/-- isinstance(the caught error, its own class) -/
def rIsX (a : Addr) (cls : Value) (d : Option Addr) (C : Addr) : List V → Hp → VK → Prop := fun xs H Q => xs = [.ref a, .ref C] ∧ cls = .ref C ∧ (∃ (dd : Addr) (fs : List (Str × V)), d = some dd ∧ H dd = some (.xd fs)) ∧ Q (.bl true) H
theorem call_isX {a C : Addr} {oe : Obj} {cls : Value} {d : Option Addr} {pn : List (Addr × Obj)} (hz : Zc cls d oe) (hf : ∃ vs, oe.data = .fields vs) : CallR (X.suite a ((a, oe) :: pn)) (.builtin "isinstance") (rIsX a cls d C) := by
  rintro pins s σ H xs us Q I r ⟨rfl, rfl, ⟨dd, fs, rfl, hd⟩, q⟩
  obtain ⟨u1, u2, rfl, r1, r2⟩ := vals2 r; skip
  obtain rfl : u1 = Value.ref a := r1
  obtain rfl : u2 = Value.ref C := r2
  obtain ⟨ha, _⟩ := I.pin (a, oe) (List.mem_append_left _ List.mem_cons_self)
  obtain ⟨vs, hv⟩ := hf
  obtain ⟨mA, hns, hr⟩ : ObjOk X.prog X.w H s.heap dd (.xd fs) := I.hok dd _ hd
  obtain ⟨od, ho, hl⟩ := lookIn_ns hns; skip
  have J : PySem.W.InstAt s.heap a oe C (some od) := ⟨ha, hz.1, by unfold PySem.W.notCls; rw [hv] <;> rfl, by rw [hz.2]; exact ho⟩
  refine call_isinstance (S := fun _ R s2 => s2 = s ∧ R (.ok (.ret (.bool true))) s2) ?_ ⟨rfl, .bl true, H, I, rfl, q⟩
  rintro prog w A R s2 ⟨rfl, hR⟩
  refine isinstance_outer ?_ (fun z => by cases z)
  unfold Builtin.«isinstance.nested»; skip
  refine wpAny_bind ((J.type (M := model prog w)).at ?_)
  rw [if_pos (beq_self_eq_true _)]; skip
  first
    | exact wpAny_bind (wpAny_rule (hR))
    | exact wpAny_bind (wpAny_rule (wpAny_pure hR))
    | exact wpAny_pure hR
end
end Pl

namespace Pl
open L2 PySem PySem.Spec PyProof.Rows
/-- what the end says of the errors' classes: S is StoreError, C is NoDeed -/
structure ErrS (K : PySem.W.Frag) (mg : Str → Option Value) (S C : Addr) : Prop where
  gS : mg "StoreError" = some (.ref S)
  gC : mg "NoDeed" = some (.ref C)
  is_ : PySem.W.exmOne K (.ref C) (.ref S) = some true
  xf : XfC K C
  no : PySem.W.findIn K (.ref C) "told" = some none
def spRefused (P : Program) (w : World) (K : PySem.W.Frag) (mg : Str → Option Value) (base : Heap) (C : Addr) : Sp := fun vs H Q _ => ∃ (f : Addr) (r : PyData → V → Hp → VK → Prop) (m : Bool) (z : Addr) (k : Bool) (v : V) (d : PyData), vs = [.ref f, v] ∧ HeldX P w K mg base 10 f (spD C r) ∧ (∃ o, H z = some o) ∧ Dv m z H k v d ∧ Bd 1000 10 d ∧ isDeed d = false ∧ ∀ H', Same H H' → Q (.bl true) H'
section
variable {P : Program} {w : World} {K : PySem.W.Frag} {mg : Str → Option Value} {base : Heap} {S C : Addr}
theorem scRefused : FnScope ["_law_call", "_law_value", "e"] ["_law_call", "_law_value"] (defScope sRefused) := ⟨rfl, rfl, rfl, by decide +kernel, rfl, by decide +kernel, by decide +kernel⟩
theorem ok_refused {f : Addr} {fd : FuncData} (F : Fun K "_law_refused" "_law_refused" sRefused f fd) (T : Cst K mg) (T2 : Cs2 mg) (X : ErrS K mg S C) : FnG P w K mg base 11 f fd ["_law_call", "_law_value"] (spRefused P w K mg base C) := by
  refine okG F scRefused (fun vs H Q E h => ?_) (fun cdv A outer s H vs Q E hgd hr h => ?_)
  · obtain ⟨g, r, m, z, k, v, d, rfl, _⟩ := h
    rfl
  · obtain ⟨g, r, m, z, k, v, d, rfl, hH, hz, hd, hb, no, q⟩ := h
    have hu : (A.deeper (envOfC "_law_refused" (defScope sRefused) s.heap.objs.size f cdv)).units + 64 < cLine := by
      have := hr.un
      omega
    refine ⟨_, pss_cons (ps_try_as (i := 2) rfl rfl scRefused.nd rfl rfl ⟨rfl, by decide, .inl X.gS⟩ takes0
        (fun W pn xe tk _ => pss_one (ps_expr (show PE _ _ (tCallHX (HeldX P w K mg base 10) 0 (WE W) (tCons (tVar 1) tNil)) from pe_callHX (i := 0) (E := WE W) (show Room 10 _ from ⟨hr.hd, hr.dp, hr.un⟩) rfl (Or.inl rfl) (fun σ => passAt tk σ) (pa_cons (pv 1) pa_nil))))
        (fun a oe cls d pn hz hf => pss_one (ps_ret (pe_and (pe_callB (call_isX (C := C) hz hf) (by rfl) T.isi (by decide +kernel) (pa_cons (pv 2) (pa_cons (pe_glob (v := .ref C) (by rfl) X.gC rfl) pa_nil)))
          (pe_one (pe_cmpR op_eq (pe_callB (call_repr hgd hu) (by rfl) T2.rpr (by decide +kernel) (pa_cons (pe_xf X.xf X.no hz hf (pv 2)) pa_nil)) (pe_callB (call_repr hgd hu) (by rfl) T2.rpr (by decide +kernel) (pa_cons (pv 1) pa_nil)) (nomark _)))))))
      (pss_one (ps_ret pe_bl)), ?_⟩
    refine ⟨g, spD C r, rfl, hH, v, rfl, m, z, k, v, d, rfl, hz, hd, hb.w, fun e => ?_, fun _ d' H' s1 hd' => ⟨true, X.is_, fun _ a ha => ?_, fun q => nomatch q⟩⟩
    · rw [no] at e
      cases e
    have hv : Dv m z H' false v d := (Dv.to (But.of s1) _ _ _ hd).weak
    refine ⟨_, rfl, ⟨rfl, rfl, ⟨d', _, rfl, hd'⟩, _, rfl, iteT ?_⟩⟩
    refine ⟨_, rfl, rfl, rfl, d', _, v, rfl, hd', rfl, m, z, v, d, rfl, hv, hb.shw, _, rfl, m, z, v, d, rfl, hv, hb.shw, rfl, ?_⟩
    rw [decide_eq_true rfl]
    exact q H' s1
end
end Pl

namespace Pl
open PySem PySem.Spec PyProof.Rows L2 PySem.W
theorem nodup_inj {α β : Type} {f : α → β} : ∀ {l : List α} {a b : α}, (l.map f).Nodup → a ∈ l → b ∈ l → f a = f b → a = b
  | [], _, _, _, h, _, _ => by cases h
  | c :: l, a, b, n, ha, hb, e => by
    rw [List.map_cons, List.nodup_cons] at n
    rcases List.mem_cons.mp ha with e1 | a2
    · rcases List.mem_cons.mp hb with e2 | b2
      · exact e1.trans e2.symm
      · exact absurd (List.mem_map.mpr ⟨b, b2, by rw [← e, e1]⟩) n.1
    · rcases List.mem_cons.mp hb with e2 | b2
      · exact absurd (List.mem_map.mpr ⟨a, a2, by rw [e, e2]⟩) n.1
      · exact nodup_inj n.2 a2 b2 e
theorem nodup_of_map {α β : Type} {f : α → β} : ∀ {l : List α}, (l.map f).Nodup → l.Nodup
  | [], _ => List.nodup_nil
  | c :: l, n => by
    rw [List.map_cons, List.nodup_cons] at n
    rw [List.nodup_cons]
    exact ⟨fun h => n.1 (List.mem_map.mpr ⟨c, h, rfl⟩), nodup_of_map n.2⟩
theorem toks_pair (s : Str) (n : Int) : keyToks (encP (s, n)) = .inl 1 :: .inr s.cps.toList :: .inl 1 :: .inl n :: [.inl 0] := by
  simp [encP, keyToks, keyToksAll]
theorem lt_pair {a b : PB} (h : a.2.1 ≠ b.2.1) : PyProof.Rows.lexLt itemOrd (keyToks (encP a.2)) (keyToks (encP b.2)) = PyProof.Rows.lexLt itemOrd (keyToks (.str a.2.1)) (keyToks (.str b.2.1)) := by
  obtain ⟨u, s, n⟩ := a
  obtain ⟨v, t, k⟩ := b
  have ne : (Sum.inr s.cps.toList : Int ⊕ List Nat) ≠ .inr t.cps.toList := fun e => h (str_of_cps (Sum.inr.inj e))
  show PyProof.Rows.lexLt itemOrd (keyToks (encP (s, n))) (keyToks (encP (t, k))) = PyProof.Rows.lexLt itemOrd (keyToks (.str s)) (keyToks (.str t))
  rw [toks_pair, toks_pair]
  simp only [keyToks]
  exact (lex_self (O := itemOrd) _ _ _).trans ((lex_diff (O := itemOrd) ne).trans (lex_diff (O := itemOrd) ne).symm)
theorem sort_same {bs : List PB} (nd : (bs.map fun b => b.2.1).Nodup) : bs.mergeSort leN = bs.mergeSort leP := by
  refine sort_congr fun a ha b hb => ?_
  show (!PyProof.Rows.lexLt itemOrd (keyToks (.str b.2.1)) (keyToks (.str a.2.1))) = (!PyProof.Rows.lexLt itemOrd (keyToks (encP b.2)) (keyToks (encP a.2)))
  by_cases h : b.2.1 = a.2.1
  · have := nodup_inj nd hb ha h
    subst this
    have i1 := lex_irrefl (O := itemOrd) (keyToks (.str b.2.1))
    have i2 := lex_irrefl (O := itemOrd) (keyToks (encP b.2))
    rw [i1, i2]
  · rw [lt_pair h]
theorem sK_nodup {ns : List Str} (h : (dst (sK ns)).length = ns.length) : ns.Nodup := by
  have e : (sK ns).length = ns.length := by
    unfold sK
    exact List.length_map ..
  have h2 := (dst_nodup (sK ns)).mp (h.trans e.symm)
  unfold sK at h2
  exact nodup_of_map h2
end Pl

namespace Pl
open L2 PySem PySem.Spec PyProof.Rows
abbrev lamQ : Str := (envOfC "_law_value_right" (defScope sVRight) 0 0 (.ref 0)).qual ++ "<lambda>"
theorem sliceT1 {K : PySem.W.Frag} {m k : Bool} {z a : Addr} {G : Hp} {ds : List PyData} {lo hi : Option Int} {Q : VK} (s : Src z G) (ha : Dv m z G k (.ref a) (.tuple ds)) (hw : ¬ (HT.sIx ds.length 0 lo = 0 ∧ HT.sIx ds.length ds.length hi = ds.length))
    (q : ∀ p G', Same G G' → Dv m z G' false (.ref p) (.tuple (cutD ds lo hi)) → Q (.ref p) G') : rSlT K (.ref a) lo hi G Q := by
  obtain ⟨oz, hz⟩ := s.some
  cases ha with
  | @tup _ _ xs _ n1 t1 l1 =>
  have e1 := l1.len
  refine ⟨a, xs, rfl, t1.sq, by rw [e1]; exact hw, fun p hp => ?_⟩
  refine q p _ (same_new hp) (.tup (ne_of_none hz hp).symm (.any upd_same) ?_)
  have bb := But.new (z := z) (o := HO.tup (cutV xs lo hi)) hp
  show DvL m z _ true ((xs.drop (HT.sIx xs.length 0 lo)).take (HT.sIx xs.length xs.length hi - HT.sIx xs.length 0 lo)) (cutD ds lo hi)
  rw [e1]
  exact ((DvL.to bb _ _ _ l1).drop _).take _
theorem Src.ext {z : Addr} {H G : Hp} (h : Src z H) (e : LamX.ExtN H G) : Src z G := by
  obtain ⟨x, y, hz, r⟩ := h
  exact ⟨x, y, e _ _ hz (fun _ q => by cases q), r⟩
theorem bd_pair {b : PB} {W D : Nat} (h : Bd W D (encP b.2)) : Bd 19 1 (encP b.2) := by
  obtain ⟨u, s, n⟩ := b
  have h1 : lf (.tuple [.str s, .int n]) = true := h.l
  simp only [lf, lfA, Bool.and_eq_true, decide_eq_true_eq, Bool.and_true, and_true] at h1
  exact (BdA.cons (D := 0) (Bd.str h1.1) (BdA.cons (Bd.int h1.2.1 h1.2.2) BdA.nil)).tup.mono (by decide) (by decide)
theorem bd_ord {bs : List PB} {ps : List PyData} {md key : PyData} (e : bs.map (fun b => encP b.2) = ps) (hl : ps.length ≤ 4) (h : Bd 900 6 (.tuple [md, .str "put", key, .tuple ps])) :
    Bd 1000 10 (.tuple [md, .str "put", key, .tuple ((bs.mergeSort leP).map fun b => encP b.2)]) := by
  have hA : BdA 900 5 [md, .str "put", key, .tuple ps] := h.items
  have h3 : BdA 900 5 [md, .str "put", key] := hA.take 3
  have hp : Bd 900 5 (.tuple ps) := bd_of hA (by simp)
  have hpA : BdA 900 4 ps := hp.items
  have hs : BdA ((19 + 1) * ((bs.mergeSort leP).map fun b => encP b.2).length) 1 ((bs.mergeSort leP).map fun b => encP b.2) := BdA.rep fun d hd => by
    obtain ⟨b, hb, rfl⟩ := List.mem_map.mp hd; skip
    refine bd_pair (bd_of hpA ?_)
    rw [← e]
    exact List.mem_map.mpr ⟨b, List.mem_mergeSort.mp hb, rfl⟩
  have hlen : ((bs.mergeSort leP).map fun b => encP b.2).length ≤ 4 := by
    rw [List.length_map, (List.mergeSort_perm _ _).length_eq]
    have := congrArg List.length e
    rw [List.length_map] at this
    omega
  exact (h3.app (BdA.cons ((hs.tup.mono (W' := 80) (D' := 5) (by omega) (by decide))) BdA.nil)).tup.mono (by decide) (by decide)
theorem vr_rest {K : PySem.W.Frag} {C Pt a z : Addr} {N : L2.St → Hp → Prop} {Q : VK} {m k : Bool} {H : Hp} {md p : PyData} {x : Str} {r : List PyData} {fo : List PyData → Bool} {v1 v3 : V} {vr : List V} {rv x2 x3 : Option V} (hz : Src z H) (ne : a ≠ z) (ht : TupAt H k a (v1 :: .str x :: v3 :: vr))
    (h1 : Dv m z H true v1 md) (h3 : Dv m z H true v3 p) (t3 : DvL m z H true vr r) (hT : LamX.Tabs [(Pt, lamQ)] H) (hb : Bd 900 6 (.tuple (md :: .str x :: p :: r))) (hD : isDeed (.tuple (md :: .str x :: p :: r)) = true) (e3 : formP x = some fo) (e4 : fo (p :: r) = true)
    (q : ∀ H', LamX.ExtN H H' → LamX.Tabs [(Pt, lamQ)] H' → Q (.bl true) H') :
    tSeq (tAsg (tVar 0) (gName 2)) (tSeq (tIfS (tTest (tOp rEq (tOp (rIxT K) (tVar 0) (tC (V.int 1))) (tC (V.str "put"))))
      (tAsg (tOp (rCatA K) (tSl (rSlT K) (tVar 0) tNoPart (tPart (tC (V.int 3)))) (tTup (tCons (tCB rTupF (tCons (tSortLam Pt lamQ (tOp (rIxT K) (tVar 0) (tC (V.int 3)))) tNil)) tNil))) (gName 2)) tNext)
      (tRet (tOp rEq (tCB rRepr (tCons (tCall (spD C fun d _ H Q => ∀ m z v' H', Same H H' → Dv m z H' false v' (inOrd d) → Q v' H') [] (fun _ _ _ => False) (tCons (tVar 0) tNil)) tNil)) (tCB rRepr (tCons (tVar 2) tNil)))))
      { nx := N, rt := Q } [some (.ref a), rv, x2, x3] H := by
  have hw : (PyData.tuple (md :: .str x :: p :: r)).weight ≤ 1000 := Nat.le_trans hb.w (by decide)
  have hdv : Dv m z H k (.ref a) (.tuple (md :: .str x :: p :: r)) := .tup ne ht (.cons h1 (.cons (.str _) (.cons h3 t3)))
  have yes : ∀ {P : Prop}, isDeed (.tuple (md :: .str x :: p :: r)) = false → P := fun e => by
    rw [hD] at e
    cases e
  refine ⟨_, rfl, _, rfl, a, _, _, .str x, rfl, rfl, ht.sq, atI_nat (j := 1) rfl, rfl, _, rfl, ?_⟩
  rw [strV_eq]
  refine ite2 (fun e5 => ?_) fun e5 => ?_
  · obtain rfl : x = "put" := of_decide_eq_true e5
    rw [form_put] at e3
    obtain rfl := Option.some.inj e3
    obtain ⟨ps, rfl, e7, e8⟩ := put_inv e4
    have e9 : (dst (sK (ps.map nmOf))).length = ps.length := by
      have h' : (pKey p && arePairs (.tuple ps)) = true := e4
      rw [Bool.and_eq_true] at h'
      have h4 : (decide (ps.length ≤ 4) && ps.all isPair && decide ((dst (sK (ps.map nmOf))).length = ps.length)) = true := h'.2
      rw [Bool.and_eq_true] at h4
      exact of_decide_eq_true h4.2
    cases t3 with
    | @cons _ v4 _ _ _ h4 t4 =>
    cases t4
    obtain ⟨a4, ys, rfl, ne4, ht4, hl4⟩ := h4.tupD
    obtain ⟨bs, eb, ed, hbs⟩ := prs_of hl4 e7
    subst eb
    have nd : (bs.map fun b => b.2.1).Nodup := by
      have en : bs.map (fun b => b.2.1) = ps.map nmOf := by
        rw [← ed, List.map_map]
        rfl
      rw [en]
      refine sK_nodup (e9.trans ?_)
      rw [List.length_map]
    refine ⟨_, rfl, 3, rfl, sliceT1 hz hdv (show ¬ (HT.sIx 4 0 none = 0 ∧ HT.sIx 4 4 (some 3) = 4) by decide) fun p1 G1 s1 hs1 => ?_⟩
    have hc : cutD [md, .str "put", p, .tuple ps] none (some 3) = [md, .str "put", p] := rfl
    rw [hc] at hs1
    have ht1 := ht.to (But.of (z := z) s1) ne
    refine ⟨_, rfl, a, _, _, .ref a4, rfl, rfl, ht1.sq, atI_nat (j := 3) rfl, hT.ext s1, m, z, a4, bs, rfl, ht4.to (But.of (z := z) s1) ne4, hbs.to (But.of s1), fun H2 p2 eN T2 np2 => ?_⟩
    refine ⟨p2, _, rfl, upd_same, fun p3 o3 np3 ho => ⟨by show 1 ≤ sizeLine; decide, fun p4 np4 => ?_⟩⟩
    have eH2 : LamX.ExtN H H2 := (LamX.ExtN.of s1).trans eN
    have hz2 : Src z H2 := hz.ext eH2
    have hp2 : Prs m z H2 bs := fun b hb => Dv.ext eH2 _ _ _ (hbs b hb)
    have hs2 : Dv m z H2 false (.ref p1) (.tuple [md, .str "put", p]) := Dv.ext eN _ _ _ hs1
    rw [sort_same nd] at np3 np4 ⊢
    have hL := dvl_prs (hp2.sorted leP)
    generalize (bs.mergeSort leP).map (·.1) = L at np3 np4 hL ⊢
    have sA : Same H2 (upd H2 p2 (.lst L)) := same_new np2
    have sB : Same (upd H2 p2 (.lst L)) (upd (upd H2 p2 (.lst L)) p3 (.frz o3 (.tup L))) := same_new np3
    have sC : Same (upd (upd H2 p2 (.lst L)) p3 (.frz o3 (.tup L))) (upd (upd (upd H2 p2 (.lst L)) p3 (.frz o3 (.tup L))) p4 (.tup [.ref p3])) := same_new np4
    have sD := (sA.trans sB).trans sC
    obtain ⟨oz, hzo⟩ := hz2.some
    have n3 : p3 ≠ z := (ne_of_none (sA _ _ hzo) np3).symm
    have n4 : p4 ≠ z := (ne_of_none (sB _ _ (sA _ _ hzo)) np4).symm
    refine catT (hz2.same sD) (Dv.to (But.of sD) _ _ _ hs2) (es := [.tuple ((bs.mergeSort leP).map fun b => encP b.2)]) (.tup (k := false) n4 (.any upd_same) (.cons (.tup n3 (.frz (o := o3) (sC _ _ upd_same) ho) (DvL.to (But.of sD) _ _ _ hL)) .nil)) (by show 3 + 1 ≤ 1000; decide) fun p5 G5 s5 hd5 => ?_
    have eH5 : LamX.ExtN H G5 := eH2.trans (LamX.ExtN.of (sD.trans s5))
    have hz5 := hz.ext eH5
    obtain ⟨o5, hz5o⟩ := hz5.some
    have hsw : Shw (.tuple [md, .str "put", p, .tuple ((bs.mergeSort leP).map fun b => encP b.2)]) := (bd_ord ed e8 hb).shw
    have en : inOrd (.tuple [md, .str "put", p, .tuple ps]) = .tuple [md, .str "put", p, .tuple ((bs.mergeSort leP).map fun b => encP b.2)] := by
      rw [sorted_enc ed]
      exact (if_pos (show word (.tuple [md, .str "put", p, .tuple ps]) = "put" from rfl)).trans rfl
    refine ⟨_, rfl, m, z, k, .ref a, _, rfl, ⟨o5, hz5o⟩, Dv.ext eH5 _ _ _ hdv, hw, fun _ m' z' v' H9 s9 hv => ⟨m', z', v', _, rfl, hv, by rw [en]; exact hsw, ?_⟩, yes⟩
    refine ⟨_, rfl, m, z, .ref p5, _, rfl, Dv.to (But.of s9) _ _ _ hd5, hsw, rfl, ?_⟩
    rw [en]
    show Q (V.bl (decide (V.str (PyData.tuple [md, .str "put", p, .tuple ((bs.mergeSort leP).map fun b => encP b.2)]).shown = V.str (PyData.tuple [md, .str "put", p, .tuple ((bs.mergeSort leP).map fun b => encP b.2)]).shown))) H9
    rw [decide_eq_true rfl]
    exact q H9 (eH5.trans (LamX.ExtN.of s9)) (T2.ext ((sD.trans s5).trans s9))
  · obtain ⟨oz, hzo⟩ := hz.some
    have hsw : Shw (.tuple (md :: .str x :: p :: r)) := (hb.mono (by decide) (by decide)).shw
    have en : inOrd (.tuple (md :: .str x :: p :: r)) = .tuple (md :: .str x :: p :: r) := by
      unfold inOrd
      exact if_neg fun h => e5 (decide_eq_true h)
    refine ⟨_, rfl, m, z, k, .ref a, _, rfl, ⟨oz, hzo⟩, hdv, hw, fun _ m' z' v' H9 s9 hv => ⟨m', z', v', _, rfl, hv, by rw [en]; exact hsw, ?_⟩, yes⟩
    refine ⟨_, rfl, m, z, .ref a, _, rfl, (Dv.to (But.of s9) _ _ _ hdv).weak, hsw, rfl, ?_⟩
    rw [en, decide_eq_true rfl]
    exact q H9 (LamX.ExtN.of s9) (hT.ext s9)

def spVR (Pt : Addr) : Sp := fun vs H Q _ => ∃ (m : Bool) (z : Addr) (k : Bool) (v : V) (d : PyData), vs = [v] ∧ Src z H ∧ LamX.Tabs [(Pt, lamQ)] H ∧ Dv m z H k v d ∧ Bd 900 6 d ∧ ∀ H', LamX.ExtN H H' → LamX.Tabs [(Pt, lamQ)] H' → Q (.bl true) H'
section
variable {P : Program} {w : World} {K : PySem.W.Frag} {mg : Str → Option Value} {base : Heap} {S C c Pt : Addr}
theorem scVR : FnScope ["_law_value", "_law_is_row", "_law_due", "_law_call"] ["_law_value"] (defScope sVRight) := ⟨rfl, rfl, rfl, by decide +kernel, rfl, by decide +kernel, by decide +kernel⟩
/-- a def of the text that is called where nothing is being written out -/
structure DfG (P : Program) (w : World) (K : PySem.W.Frag) (mg : Str → Option Value) (base : Heap) (k : Nat) (x : Str) (ps : List Str) (sp : Sp) : Prop where
  ex : ∃ (f : Addr) (fd : FuncData), FnG P w K mg base k f fd ps sp ∧ mg x = some (.ref f) ∧ PySem.W.keepIn K (.ref f) = true ∧ L2.Binds K fd ps []
theorem row_key {md p : PyData} {x : Str} {r : List PyData} {fo : List PyData → Bool} (e3 : formP x = some fo) (e4 : fo (p :: r) = true) :
    inV (.str x) [.str "put", .str "strike"] = (!isAlt (.tuple (md :: .str x :: p :: r))) ∧
    ((isAlt (.tuple (md :: .str x :: p :: r)) = true ∧ keyD (.tuple (md :: .str x :: p :: r)) = .none) ∨ ∃ i, isAlt (.tuple (md :: .str x :: p :: r)) = false ∧ keyD (.tuple (md :: .str x :: p :: r)) = .int i ∧ 0 ≤ i ∧ i ≤ 9 ∧ p = .int i) := by
  have hx : isAlt (.tuple (md :: .str x :: p :: r)) = inV (.str x) altV := rfl
  have key : ∀ {p : PyData}, pKey p = true → ∃ i, p = .int i ∧ 0 ≤ i ∧ i ≤ 9 := fun {p} h => by
    cases p with
    | int i =>
      have h' : (decide (0 ≤ i) && decide (i ≤ 9)) = true := h
      rw [Bool.and_eq_true, decide_eq_true_eq, decide_eq_true_eq] at h'
      exact ⟨i, rfl, h'.1, h'.2⟩
    | _ => cases h
  have kd : ∀ b, isAlt (.tuple (md :: .str x :: p :: r)) = b → keyD (.tuple (md :: .str x :: p :: r)) = if b = true then .none else p := fun b e => by
    unfold keyD
    rw [e]
    rfl
  unfold formP at e3
  by_cases h1 : x = "put"
  · subst h1
    rw [if_pos rfl] at e3
    obtain rfl := Option.some.inj e3
    have ha : isAlt (.tuple (md :: .str "put" :: p :: r)) = false := hx.trans (by decide +kernel)
    refine ⟨by rw [ha]; decide +kernel, .inr ?_⟩
    obtain ⟨ps, rfl, _, _⟩ := put_inv e4
    have h' : (pKey p && arePairs (.tuple ps)) = true := e4
    rw [Bool.and_eq_true] at h'
    obtain ⟨i, rfl, i0, i1⟩ := key h'.1
    exact ⟨i, ha, kd _ ha, i0, i1, rfl⟩
  rw [if_neg h1] at e3
  by_cases h2 : x = "strike"
  · subst h2
    rw [if_pos rfl] at e3
    obtain rfl := Option.some.inj e3
    have ha : isAlt (.tuple (md :: .str "strike" :: p :: r)) = false := hx.trans (by decide +kernel)
    refine ⟨by rw [ha]; decide +kernel, .inr ?_⟩
    cases r with
    | cons => cases e4
    | nil =>
      obtain ⟨i, rfl, i0, i1⟩ := key (p := p) e4
      exact ⟨i, ha, kd _ ha, i0, i1, rfl⟩
  rw [if_neg h2] at e3
  have alt : ∀ y : Str, x = y → inV (.str y) altV = true → inV (.str y) [.str "put", .str "strike"] = false → inV (.str x) [.str "put", .str "strike"] = (!isAlt (.tuple (md :: .str x :: p :: r))) ∧
    ((isAlt (.tuple (md :: .str x :: p :: r)) = true ∧ keyD (.tuple (md :: .str x :: p :: r)) = .none) ∨ ∃ i, isAlt (.tuple (md :: .str x :: p :: r)) = false ∧ keyD (.tuple (md :: .str x :: p :: r)) = .int i ∧ 0 ≤ i ∧ i ≤ 9 ∧ p = .int i) := fun y e a b => by
    subst e
    have ha : isAlt (.tuple (md :: .str x :: p :: r)) = true := hx.trans a
    exact ⟨by rw [ha, b]; rfl, .inl ⟨ha, kd _ ha⟩⟩
  by_cases h3 : x = "add"
  · exact alt _ h3 (by decide +kernel) (by decide +kernel)
  rw [if_neg h3] at e3
  by_cases h4 : x = "drop"
  · exact alt _ h4 (by decide +kernel) (by decide +kernel)
  rw [if_neg h4] at e3
  by_cases h5 : x = "rename"
  · exact alt _ h5 (by decide +kernel) (by decide +kernel)
  rw [if_neg h5] at e3
  cases e3
theorem ok_vright {f : Addr} {fd : FuncData} (F : FunC K "_law_value_right" "_law_value_right" sVRight f c fd) (T : Cst K mg) (T2 : Cs2 mg) (TB : LamX.TabB base mg c Pt) (D1 : Df P w K mg base 7 "is_deed" ["value"] (spP isDeed)) (D2 : Df P w K mg base 3 "_law_is_right" ["_law_value"] (spL isDeed))
    (D3 : DfG P w K mg base 11 "_law_refused" ["_law_call", "_law_value"] (spRefused P w K mg base C))
    (D4 : DfX P w K mg base 9 "is_alter" ["deed"] (spD C fun d _ H Q => ∀ H', Same H H' → Q (.bl (isAlt d)) H')) (D5 : DfX P w K mg base 10 "key_of" ["deed"] (spD C fun d _ H Q => ∀ m z v' H', Same H H' → Dv m z H' true v' (keyD d) → Q v' H'))
    (D6 : DfX P w K mg base 9 "in_order" ["deed"] (spD C fun d _ H Q => ∀ m z v' H', Same H H' → Dv m z H' false v' (inOrd d) → Q v' H')) : FnG P w K mg base 12 f fd ["_law_value"] (spVR Pt) := by
  obtain ⟨g1, fd1, G1, m1, k1, b1⟩ := D1.ex
  obtain ⟨g2, fd2, G2, m2, k2, b2⟩ := D2.ex
  obtain ⟨g3, fd3, G3, m3, k3, b3⟩ := D3.ex
  obtain ⟨g4, fd4, G4, m4, k4, b4⟩ := D4.ex
  obtain ⟨g5, fd5, G5, m5, k5, b5⟩ := D5.ex
  obtain ⟨g6, fd6, G6, m6, k6, b6⟩ := D6.ex
  refine okC F scVR (fun vs H Q E h => ?_) (fun A outer s H vs Q E hgd hr h => ?_)
  · obtain ⟨m, z, k, v, d, rfl, _⟩ := h
    rfl
  · obtain ⟨m, z, k, v, d, rfl, hz, hT, hd, hb, q⟩ := h
    have hu : (A.deeper (envOfC "_law_value_right" (defScope sVRight) s.heap.objs.size f (.ref c))).units + 64 < cLine := by
      have := hr.un
      omega
    refine ⟨_, (pss_cons (ps_if (pt_cmpR op_ne (pe_callB (call_repr hgd hu) (by rfl) T2.rpr (by decide +kernel) (pa_cons (pe_call G1 (hr.mono (by decide)) (by rfl) m1 k1 b1 .nil pass0 (pa_cons (pv 0) pa_nil)) pa_nil)) (pe_callB (call_repr hgd hu) (by rfl) T2.rpr (by decide +kernel) (pa_cons (pe_call G2 (hr.mono (by decide)) (by rfl) m2 k2 b2 .nil pass0 (pa_cons (pv 0) pa_nil)) pa_nil)) (nomark _)) (pss_one (ps_ret pe_bl)) pss_nil)
      (pss_cons (ps_if (pt_not (pt_val (pe_call G2 (hr.mono (by decide)) (by rfl) m2 k2 b2 .nil pass0 (pa_cons (pv 0) pa_nil)))) (pss_one (ps_ret (pe_cmpR (op_eqD hu) (pe_lc (own := [("_law_call", 3)]) (g := gName 3) (tt := _) rfl scVR.nd (pi_list (pe_lst (pa_cons (pe_glob (v := .ref g4) (by rfl) m4 rfl) (pa_cons (pe_glob (v := .ref g5) (by rfl) m5 rfl) (pa_cons (pe_glob (v := .ref g6) (by rfl) m6 rfl) pa_nil))))) (blkOk_by (own := [("_law_call", 3)]) (N := ["_law_value", "_law_is_row", "_law_due", "_law_call"]) (sc := defScope sVRight) (by decide +kernel))
        (fun _ _ _ _ _ => pg_name (i := 3) scVR.nd rfl (Or.inl rfl)) (fun _ _ _ _ _ => pts_one (pt_not (pt_val (pe_callG G3 hgd (show Room 11 _ from ⟨hr.hd, hr.dp, hr.un⟩) (by rfl) m3 k3 b3 (pa_cons (pv 3) (pa_cons (pv 0) pa_nil))))))
        (fun _ _ _ _ _ => pv 3)) (pe_lst pa_nil) (nomark _)))) pss_nil)
      (pss_cons (ps_set (i := 1) scVR.nd rfl (Or.inl rfl) (pe_cmpR op_in_seq (pe_ix (r := rIxT K) ix_tup (pv 0) pe_int (fun _ _ => rfl)) (pe_lst (pa_cons pe_str (pa_cons pe_str pa_nil))) (by rfl)))
      (pss_cons (ps_if (pt_cmpR op_ne (pe_callB (call_repr hgd hu) (by rfl) T2.rpr (by decide +kernel) (pa_cons (pe_lst (pa_cons (pe_call (E := fun _ _ _ => False) G4 (hr.mono (by decide)) (by rfl) m4 k4 b4 .nil (passes_call takes0 fun _ _ _ _ h => h) (pa_cons (pv 0) pa_nil)) (pa_cons (pe_call (E := fun _ _ _ => False) G5 (hr.mono (by decide)) (by rfl) m5 k5 b5 .nil (passes_call takes0 fun _ _ _ _ h => h) (pa_cons (pv 0) pa_nil)) pa_nil))) pa_nil)) (pe_callB (call_repr hgd hu) (by rfl) T2.rpr (by decide +kernel) (pa_cons (pe_lst (pa_cons (pe_not (pv 1)) (pa_cons (pe_ifExp (pt_val (pv 1)) (pe_ix (r := rIxT K) ix_tup (pv 0) pe_int (fun _ _ => rfl)) pe_non) pa_nil))) pa_nil)) (nomark _)) (pss_one (ps_ret pe_bl)) pss_nil)
      (pss_cons (ps_set (i := 2) scVR.nd rfl (Or.inl rfl) (pv 0))
      (pss_cons (ps_if (pt_cmpR op_eq (pe_ix (r := rIxT K) ix_tup (pv 0) pe_int (fun _ _ => rfl)) pe_str (nomark _)) (pss_one (ps_set (i := 2) scVR.nd rfl (Or.inl rfl) (pe_op op_catA (pe_slice sl_tup (pv 0) po_none (po_some pe_int)) (pe_tup (pa_cons (pe_callTy call_tupF (by rfl) T.ttup (by decide +kernel) (pa_cons (pe_sortLam (x := "_law_pair") (c := c) (P := Pt) ⟨rfl, rfl, rfl, rfl, fun _ _ _ _ _ _ => rfl, ⟨_, _, _, _, rfl⟩, by decide⟩ (by rfl) T.srt (pe_ix (r := rIxT K) ix_tup (pv 0) pe_int (fun _ _ => rfl)) TB rfl (hr.mono (by decide))) pa_nil)) pa_nil))))) pss_nil)
      (pss_one (ps_ret (pe_cmpR op_eq (pe_callB (call_repr hgd hu) (by rfl) T2.rpr (by decide +kernel) (pa_cons (pe_call (E := fun _ _ _ => False) G6 (hr.mono (by decide)) (by rfl) m6 k6 b6 .nil (passes_call takes0 fun _ _ _ _ h => h) (pa_cons (pv 0) pa_nil)) pa_nil)) (pe_callB (call_repr hgd hu) (by rfl) T2.rpr (by decide +kernel) (pa_cons (pv 2) pa_nil)) (nomark _)))))))))), ?_⟩
    have shB : ∀ b : Bool, Shw (.bool b) := fun b => Bd.shw ⟨by simp only [lf], by simp only [PyData.weight]; omega, by simp only [PyData.depth]; omega⟩
    have hb10 : Bd 1000 10 d := hb.mono (by decide) (by decide)
    have hw : d.weight ≤ 1000 := hb10.w
    obtain ⟨oz, hzo⟩ := hz.some
    refine ⟨v, rfl, m, z, k, v, d, rfl, hd, hw, fun H1 s1 => ⟨m, z, _, _, rfl, .bl _, shB _, ?_⟩⟩
    have hd1 := Dv.to (But.of s1) _ _ _ hd
    refine ⟨v, rfl, m, z, k, v, d, rfl, hd1, hb10, fun H2 s2 => ⟨m, z, _, _, rfl, .bl _, shB _, rfl, _, rfl, ?_⟩⟩
    rw [decide_eq_true rfl]
    refine iteF ?_
    have hd2 := Dv.to (But.of s2) _ _ _ hd1
    refine ⟨v, rfl, m, z, k, v, d, rfl, hd2, hb10, fun H3 s3 => ⟨_, rfl, ?_⟩⟩
    have s03 := (s1.trans s2).trans s3
    have hd3 : Dv m z H3 k v d := Dv.to (But.of s03) _ _ _ hd
    have hz3 := s03 _ _ hzo
    refine ite2 (fun e => ?_) fun e => ?_
    · have e2 : isDeed d = false := by simpa using e
      refine ⟨by show 3 ≤ sizeLine; decide, fun p1 q1 => ⟨p1, rfl, ⟨_, SqL.of upd_same⟩, fun D hD => ?_⟩⟩
      have s4 := same_new (o := HO.lst [.ref g4, .ref g5, .ref g6]) q1
      have h4p : upd H3 p1 (.lst [.ref g4, .ref g5, .ref g6]) p1 = some (.lst [.ref g4, .ref g5, .ref g6]) := upd_same
      have hd4 := Dv.to (But.of s4) _ _ _ hd3
      have hz4 := s4 _ _ hz3
      have s04 := s03.trans s4
      generalize upd H3 p1 (.lst [.ref g4, .ref g5, .ref g6]) = H4 at s4 h4p hd4 hz4 s04 hD ⊢
      refine lc_list (K := K) (a := p1) (xs := [.ref g4, .ref g5, .ref g6]) (fun i G => Same H4 G ∧ G D = some (.lst [])) ⟨same_new hD, upd_same⟩ (fun i G _ h => SqL.of (h.1 _ _ h4p)) ?_ ?_
      · rintro i y G hy ⟨c1, c2⟩
        have held : ∃ (g : Addr) (r : PyData → V → Hp → VK → Prop), y = .ref g ∧ HeldX P w K mg base 10 g (spD C r) := by
          have hm := List.mem_of_getElem? hy
          simp only [List.mem_cons, List.not_mem_nil, or_false] at hm; skip
          rcases hm with rfl | rfl | rfl
          · exact ⟨g4, _, rfl, ⟨fd4, ["deed"], G4.mono (by decide), k4, b4⟩⟩
          · exact ⟨g5, _, rfl, ⟨fd5, ["deed"], G5.mono (by decide), k5, b5⟩⟩
          · exact ⟨g6, _, rfl, ⟨fd6, ["deed"], G6.mono (by decide), k6, b6⟩⟩
        obtain ⟨g, r, rfl, hh⟩ := held
        refine ⟨rfl, ?_⟩
        refine ⟨_, rfl, _, rfl, g, r, m, z, k, v, d, rfl, hh, ⟨oz, c1 _ _ hz4⟩, Dv.to (But.of c1) _ _ _ hd4, hb10, e2, fun G2 s5 => ⟨_, rfl, iteF ⟨c1.trans s5, s5 _ _ c2⟩⟩⟩
      · rintro G ⟨c1, c2⟩
        refine ⟨by show 0 ≤ sizeLine; decide, fun p2 q2 => ⟨.list [], .list [], .lst (SqL.of ((upd_ne (ne_of_none c2 q2)).trans c2)) .nil, .lst (SqL.of upd_same) .nil, by decide +kernel, by decide +kernel, ?_⟩⟩
        have sE := (s04.trans c1).trans (same_new (o := HO.lst []) q2)
        exact q _ (LamX.ExtN.of sE) (hT.ext sE)
    · have e2 : isDeed d = true := by simpa using e
      obtain ⟨md, x, p, r, fo, rfl, hm, e3, e4⟩ := isDeed_inv e2
      obtain ⟨a, xs, rfl, ne, ht, hl⟩ := hd3.tupD
      cases hl with
      | @cons _ v1 _ _ _ h1 t1 =>
      cases t1 with
      | @cons _ v2 _ _ _ h2 t2 =>
      cases t2 with
      | @cons _ v3 vr _ _ h3 t3 =>
      cases h2
      obtain ⟨hrow, hkey⟩ := row_key (md := md) e3 e4
      refine ⟨_, rfl, a, _, _, .str x, rfl, rfl, ht.sq, atI_nat (j := 1) rfl, by show 2 ≤ sizeLine; decide, fun p1 q1 => ⟨p1, _, rfl, .inl (SqL.of upd_same), rfl, by decide, ?_⟩⟩
      have s4 := same_new (o := HO.lst [.str "put", .str "strike"]) q1
      have s04 := s03.trans s4
      have hd4 := Dv.to (But.of s4) _ _ _ hd3
      have hz4 := s4 _ _ hz3
      generalize upd H3 p1 (.lst [.str "put", .str "strike"]) = H4 at s4 s04 hd4 hz4 ⊢
      have yes : ∀ {P : Prop}, isDeed (.tuple (md :: .str x :: p :: r)) = false → P := fun e => by
        rw [e2] at e
        cases e
      refine ⟨_, rfl, m, z, k, .ref a, _, rfl, ⟨oz, hz4⟩, hd4, hw, fun _ H5 s5 => ?_, yes⟩
      have hd5 := Dv.to (But.of s5) _ _ _ hd4
      refine ⟨_, rfl, m, z, k, .ref a, _, rfl, ⟨oz, s5 _ _ hz4⟩, hd5, hw, fun _ m' z' v' H6 s6 hv' => ?_, yes⟩
      have hz6 := s6 _ _ (s5 _ _ hz4)
      have hkv : ∀ G, Dv false z G false v' (keyD (.tuple (md :: .str x :: p :: r))) := fun G => by
        rcases hkey with ⟨_, hk⟩ | ⟨i, _, hk, _, _⟩ <;> rw [hk] at hv' ⊢ <;> cases hv'
        · exact .non
        · exact .int _
      have bk : Bd 30 1 (.list [.bool (isAlt (.tuple (md :: .str x :: p :: r))), keyD (.tuple (md :: .str x :: p :: r))]) := by
        have b1 : Bd 0 0 (.bool (isAlt (.tuple (md :: .str x :: p :: r)))) := ⟨by simp only [lf], by simp only [PyData.weight]; omega, by simp only [PyData.depth]; omega⟩
        rcases hkey with ⟨_, hk⟩ | ⟨i, _, hk, i0, i1⟩ <;> rw [hk]
        · exact (BdA.cons b1 (BdA.cons (W := 0) ⟨by simp only [lf], by simp only [PyData.weight]; omega, by simp only [PyData.depth]; omega⟩ BdA.nil)).lst.mono (by decide) (by decide)
        · exact (BdA.cons b1 (BdA.cons (Bd.int (by omega) (by omega)) BdA.nil)).lst.mono (by decide) (by decide)
      refine ⟨by show 2 ≤ sizeLine; decide, fun p2 q2 => ?_⟩
      have s7 := same_new (o := HO.lst [.bl (isAlt (.tuple (md :: .str x :: p :: r))), v']) q2
      have hl1 : Dv false z (upd H6 p2 (.lst [.bl (isAlt (.tuple (md :: .str x :: p :: r))), v'])) false (.ref p2) (.list [.bool (isAlt (.tuple (md :: .str x :: p :: r))), keyD (.tuple (md :: .str x :: p :: r))]) :=
        .lst rfl (ne_of_none hz6 q2).symm upd_same (.cons (.bl _) (.cons (hkv _) .nil))
      refine ⟨false, z, .ref p2, _, rfl, hl1, (bk.mono (by decide) (by decide)).shw, ?_⟩
      have s37 := ((s4.trans s5).trans s6).trans s7
      have hz7 := s7 _ _ hz6
      generalize upd H6 p2 (.lst [.bl (isAlt (.tuple (md :: .str x :: p :: r))), v']) = H7 at s7 s37 hz7 ⊢
      have s07 := s03.trans s37
      have ht7 := ht.to (But.of (z := z) s37) ne
      have fin : ∀ (u : V) (p3 : Addr), H7 p3 = none → u = v' → ∀ {N : L2.St → Hp → Prop} {rv x2 x3 : Option V},
          tSeq (tAsg (tVar 0) (gName 2)) (tSeq (tIfS (tTest (tOp rEq (tOp (rIxT K) (tVar 0) (tC (V.int 1))) (tC (V.str "put"))))
            (tAsg (tOp (rCatA K) (tSl (rSlT K) (tVar 0) tNoPart (tPart (tC (V.int 3)))) (tTup (tCons (tCB rTupF (tCons (tSortLam Pt lamQ (tOp (rIxT K) (tVar 0) (tC (V.int 3)))) tNil)) tNil))) (gName 2)) tNext)
            (tRet (tOp rEq (tCB rRepr (tCons (tCall (spD C fun d _ H Q => ∀ m z v' H', Same H H' → Dv m z H' false v' (inOrd d) → Q v' H') [] (fun _ _ _ => False) (tCons (tVar 0) tNil)) tNil)) (tCB rRepr (tCons (tVar 2) tNil)))))
            { nx := N, rt := Q } [some (.ref a), rv, x2, x3] (upd H7 p3 (.lst [.bl (isAlt (.tuple (md :: .str x :: p :: r))), u])) := fun u p3 q3 _ N rv x2 x3 => by
        have s8 := same_new (o := HO.lst [.bl (isAlt (.tuple (md :: .str x :: p :: r))), u]) q3
        have s38 := s37.trans s8
        have s08 := s07.trans s8
        exact vr_rest (hz.same s08) ne (ht.to (But.of (z := z) s38) ne) (Dv.to (But.of s38) _ _ _ h1) (Dv.to (But.of s38) _ _ _ h3) (DvL.to (But.of s38) _ _ _ t3) (hT.ext s08) hb e2 e3 e4 fun H' eN T' => q H' ((LamX.ExtN.of s08).trans eN) T'
      have eq2 : ∀ (u : V) (p3 : Addr), H7 p3 = none → u = v' → Dv false z (upd H7 p3 (.lst [.bl (isAlt (.tuple (md :: .str x :: p :: r))), u])) false (.ref p3) (.list [.bool (isAlt (.tuple (md :: .str x :: p :: r))), keyD (.tuple (md :: .str x :: p :: r))]) := fun u p3 q3 e => by
        subst e
        exact .lst rfl (ne_of_none hz7 q3).symm upd_same (.cons (.bl _) (.cons (hkv _) .nil))
      refine ⟨_, rfl, _, rfl, _, rfl, _, rfl, ?_⟩
      have hR : (if false = true then !inV (V.str x) [.str "put", .str "strike"] else inV (V.str x) [.str "put", .str "strike"]) = !isAlt (.tuple (md :: .str x :: p :: r)) := hrow
      rw [hR, Bool.not_not]
      refine ite2 (fun e => ?_) fun e => ?_
      · rcases hkey with ⟨ha, hk⟩ | ⟨i, ha, hk, i0, i1, hp⟩
        · rw [ha] at e
          cases e
        · have hv : V.int i = v' := by
            rw [hk] at hv'
            cases hv'
            rfl
          have h37 : Dv m z H7 true v3 p := Dv.to (But.of s37) _ _ _ h3
          rw [hp] at h37
          cases h37
          refine ⟨_, rfl, a, _, _, .int i, rfl, rfl, ht7.sq, atI_nat (j := 2) rfl, by show 2 ≤ sizeLine; decide, fun p3 q3 => ⟨false, z, .ref p3, _, rfl, eq2 _ p3 q3 hv, (bk.mono (by decide) (by decide)).shw, rfl, _, rfl, ?_⟩⟩
          rw [decide_eq_true rfl]
          refine iteF ?_
          exact fin _ p3 q3 hv
      · rcases hkey with ⟨ha, hk⟩ | ⟨i, ha, hk, i0, i1, hp⟩
        · have hv : V.non = v' := by
            rw [hk] at hv'
            cases hv'
            rfl
          refine ⟨by show 2 ≤ sizeLine; decide, fun p3 q3 => ⟨false, z, .ref p3, _, rfl, eq2 _ p3 q3 hv, (bk.mono (by decide) (by decide)).shw, rfl, _, rfl, ?_⟩⟩
          rw [decide_eq_true rfl]
          refine iteF ?_
          exact fin _ p3 q3 hv
        · rw [ha] at e
          exact absurd rfl e
end
end Pl

namespace Pl
open L2 PySem PySem.Spec PyProof.Rows
def spLaw (K : PySem.W.Frag) (Pt : Addr) : Sp := fun vs H Q _ => ∃ (a : Addr) (ns : List Int), vs = [.ref a] ∧ SqL K H a (ns.map V.int) ∧ LamX.Tabs [(Pt, lamQ)] H ∧ ∀ H', Q (.bl true) H'
theorem tabs_but {z Pt : Addr} {q : Str} {H G : Hp} (b : But z H G) (s : Src z H) (t : LamX.Tabs [(Pt, q)] H) : LamX.Tabs [(Pt, q)] G := by
  obtain ⟨x, y, hz, _⟩ := s
  intro p hp
  obtain ⟨ps, h1, h2, h3⟩ := t p hp
  have n1 : p.1 ≠ z := fun e => by
    rw [e, hz] at h1
    cases h1
  refine ⟨ps, b _ _ n1 trivial h1, h2, fun pos cv hc => ?_⟩
  obtain ⟨c, e1, e2⟩ := h3 pos cv hc; skip
  have n2 : c ≠ z := fun e => by
    rw [e, hz] at e2
    cases e2
  exact ⟨c, e1, b _ _ n2 trivial e2⟩
theorem ext_but {z : Addr} {H G F : Hp} (e : LamX.ExtN H G) (hz : ∀ b o, H b = some o → (∀ ps, o ≠ .tbl ps) → b ≠ z) (b : But z G F) : LamX.ExtN H F := fun c o h n => b c o (hz c o h n) trivial (e c o h n)
theorem SqL.ext {K : PySem.W.Frag} {H G : Hp} {a : Addr} {xs : List V} (e : LamX.ExtN H G) (h : SqL K H a xs) : SqL K G a xs := by
  rcases h with (h | ⟨o, h⟩) | h; skip
  · exact .inl (.inl (e _ _ h fun _ q => by cases q))
  · exact .inl (.inr ⟨o, e _ _ h fun _ q => by cases q⟩)
  · exact .inr h
theorem DD.ext {z : Addr} {H G : Hp} {v : V} {d : PyData} (h : DD z H v d) (e : LamX.ExtN H G) : DD z G v d := ⟨fun m => Dv.ext e _ _ _ (h.1 m), h.2⟩
section
variable {P : Program} {w : World} {K : PySem.W.Frag} {mg : Str → Option Value} {base : Heap} {S C c Pt : Addr}
theorem scLaw : FnScope ["_law_script", "_law_k", "_law_source", "_law_deed_here", "_law_turn", "_law_value"] ["_law_script"] (defScope sLaw) := ⟨rfl, rfl, rfl, by decide +kernel, rfl, by decide +kernel, by decide +kernel⟩
theorem ok_law {f : Addr} {fd : FuncData} (F : Fun K "law" "law" sLaw f fd) (T2 : Cs2 mg) (DN : Df P w K mg base 1 "is_name" ["value"] (spP isName)) (DE : Df P w K mg base 7 "is_deed" ["value"] (spP isDeed)) (DR : Df P w K mg base 1 "_law_rounds" ["_law_script"] (spRounds K))
    (DP : Df P w K mg base 1 "_law_pool" ["_law_script", "_law_k"] (spPool K)) (DDs : Df P w K mg base 6 "_law_deeds" ["_law_source", "_law_most"] spDeeds) (DB : Df P w K mg base 4 "_law_bent" ["_law_source", "_law_deed_here"] spBent) (DO : Df P w K mg base 3 "_law_odd" ["_law_source"] spOdd)
    (DW : Df P w K mg base 1 "_law_is_word" ["_law_value"] (spL isName)) (DV : DfG P w K mg base 12 "_law_value_right" ["_law_value"] (spVR Pt)) : FnG P w K mg base 13 f fd ["_law_script"] (spLaw K Pt) := by
  obtain ⟨gN, fdN, GN, mN, kN, bN⟩ := DN.ex
  obtain ⟨gE, fdE, GE, mE, kE, bE⟩ := DE.ex
  obtain ⟨gR, fdR, GR, mR, kR, bR⟩ := DR.ex
  obtain ⟨gP, fdP, GP, mP, kP, bP⟩ := DP.ex
  obtain ⟨gD, fdD, GD, mD, kD, bD⟩ := DDs.ex
  obtain ⟨gB, fdB, GB, mB, kB, bB⟩ := DB.ex
  obtain ⟨gO, fdO, GO, mO, kO, bO⟩ := DO.ex
  obtain ⟨gW, fdW, GW, mW, kW, bW⟩ := DW.ex
  obtain ⟨gV, fdV, GV, mV, kV, bV⟩ := DV.ex
  refine okG F scLaw (fun vs H Q E h => ?_) (fun cdv A outer s H vs Q E hgd hr h => ?_)
  · obtain ⟨a, ns, rfl, _⟩ := h
    rfl
  · obtain ⟨a, ns, rfl, hS, hT, q⟩ := h
    have hu : (A.deeper (envOfC "law" (defScope sLaw) s.heap.objs.size f cdv)).units + 64 < cLine := by
      have := hr.un
      omega
    refine ⟨_, (pss_cons (ps_for PassesOwn.never rfl (pi_list (pe_call GR (hr.mono (by decide)) (by rfl) mR kR bR .nil pass0 (pa_cons (pv 0) pa_nil))) (pg_name (i := 1) scLaw.nd rfl (Or.inl rfl)) (pss_cons (ps_set (i := 2) scLaw.nd rfl (Or.inl rfl) (pe_call GP (hr.mono (by decide)) (by rfl) mP kP bP .nil pass0 (pa_cons (pv 0) (pa_cons (pv 1) pa_nil))))
      (pss_cons (ps_for PassesOwn.never rfl (pi_list (pe_call GD (hr.mono (by decide)) (by rfl) mD kD bD .nil pass0 (pa_cons (pv 2) (pa_cons pe_int pa_nil)))) (pg_name (i := 3) scLaw.nd rfl (Or.inl rfl)) (pss_one (ps_if (PW.pt (pw_or (pt_not (pt_val (pe_callG GV hgd (hr.mono (by decide)) (by rfl) mV kV bV (pa_cons (pv 3) pa_nil)))) (pw_or1 (pt_not (pt_val (pe_callG GV hgd (hr.mono (by decide)) (by rfl) mV kV bV (pa_cons (pe_call GB (hr.mono (by decide)) (by rfl) mB kB bB .nil pass0 (pa_cons (pv 2) (pa_cons (pv 3) pa_nil))) pa_nil))))))) (pss_one (ps_ret pe_bl)) pss_nil)))
      (pss_one (ps_for PassesOwn.never rfl (pi_range1 rfl T2.rng (pa_cons pe_int pa_nil)) (pg_name (i := 4) scLaw.nd rfl (Or.inl rfl)) (pss_cons (ps_set (i := 5) scLaw.nd rfl (Or.inl rfl) (pe_call GO (hr.mono (by decide)) (by rfl) mO kO bO .nil pass0 (pa_cons (pv 2) pa_nil)))
      (pss_one (ps_if (PW.pt (pw_or (pt_cmpR op_ne (pe_callB (call_repr hgd hu) (by rfl) T2.rpr (by decide +kernel) (pa_cons (pe_call GN (hr.mono (by decide)) (by rfl) mN kN bN .nil pass0 (pa_cons (pv 5) pa_nil)) pa_nil)) (pe_callB (call_repr hgd hu) (by rfl) T2.rpr (by decide +kernel) (pa_cons (pe_call GW (hr.mono (by decide)) (by rfl) mW kW bW .nil pass0 (pa_cons (pv 5) pa_nil)) pa_nil)) (nomark _)) (pw_or1 (pt_not (pt_val (pe_callG GV hgd (hr.mono (by decide)) (by rfl) mV kV bV (pa_cons (pv 5) pa_nil))))))) (pss_one (ps_ret pe_bl)) pss_nil))))))))
      (pss_cons (ps_if (PW.pt (pw_or (pt_cmpR op_notBl (pe_call GN (hr.mono (by decide)) (by rfl) mN kN bN .nil pass0 (pa_cons pe_str pa_nil)) pe_bl (by rfl)) (pw_or1 (pt_cmpR op_notBl (pe_call GE (hr.mono (by decide)) (by rfl) mE kE bE .nil pass0 (pa_cons (pe_tupF (pa_cons pe_int (pa_cons pe_str (pa_cons pe_int (pa_cons (pe_tupF pa_nil) pa_nil))))) pa_nil)) pe_bl (by rfl))))) (pss_one (ps_ret pe_bl)) pss_nil)
      (pss_one (ps_ret (pe_and (pe_cmpR op_isBl (pe_call GE (hr.mono (by decide)) (by rfl) mE kE bE .nil pass0 (pa_cons (pe_tupF (pa_cons pe_int (pa_cons pe_str (pa_cons pe_str (pa_cons pe_str pa_nil))))) pa_nil)) pe_bl (by rfl)) (pe_one (pe_cmpR op_isBl (pe_call GE (hr.mono (by decide)) (by rfl) mE kE bE .nil pass0 (pa_cons (pe_tupF (pa_cons pe_int (pa_cons pe_str (pa_cons pe_str (pa_cons pe_int pa_nil))))) pa_nil)) pe_bl (by rfl)))))))), ?_⟩
    have shB : ∀ b : Bool, Shw (.bool b) := fun b => Bd.shw ⟨by simp only [lf], by simp only [PyData.weight]; omega, by simp only [PyData.depth]; omega⟩
    refine ⟨_, rfl, a, ns, rfl, hS, fun p0 n H0 hn s0 h0 => ⟨p0, rfl, ⟨_, SqL.of h0⟩, ?_⟩⟩
    have hT0 := hT.ext s0
    have hS0 := s0.seq hS
    refine for_list (K := K) (a := p0) (xs := rgV 0 n) (fun i σ G => (∃ x1 x2 x3 x4 x5, σ = [some (.ref a), x1, x2, x3, x4, x5]) ∧ LamX.ExtN H0 G ∧ LamX.Tabs [(Pt, lamQ)] G) ⟨⟨_, _, _, _, _, rfl⟩, LamX.ExtN.refl _, hT0⟩ (fun i σ G _ h => SqL.of (h.2.1 _ _ h0 fun _ q => by cases q)) ?_ ?_
    · rintro i y σ G hy ⟨⟨x1, x2, x3, x4, x5, rfl⟩, e1, t1⟩
      obtain ⟨kk, rfl, kk0, kk1⟩ : ∃ kk : Int, y = .int kk ∧ 0 ≤ kk ∧ kk ≤ 10 := by
        unfold rgV at hy
        rw [List.getElem?_map] at hy
        cases e : (List.range ((n : Int) - 0).toNat)[i]? with
        | none =>
          rw [e] at hy
          cases hy
        | some j =>
          rw [e] at hy
          have hj := List.mem_range.mp (List.mem_of_getElem? e)
          exact ⟨_, (Option.some.inj hy).symm, by omega, by omega⟩
      refine ⟨_, rfl, _, rfl, a, ns, kk, rfl, SqL.ext e1 hS0, kk0, kk1, fun z G1 nz s1 z1 => ?_⟩
      have eG : LamX.ExtN H0 G1 := e1.trans (LamX.ExtN.of s1)
      have tG := t1.ext s1
      have nz0 : ∀ b o, H0 b = some o → (∀ ps, o ≠ .tbl ps) → b ≠ z := fun b o h no => ne_of_none (e1 _ _ h no) nz
      refine ⟨_, rfl, z, rfl, z1, fun p1 us G2 b2 z2 np1 hp1 hul hus => ?_⟩
      have e2 := ext_but eG nz0 b2
      have t2 := tabs_but b2 z1 tG
      refine ⟨p1, rfl, ⟨_, SqL.of hp1⟩, for_list (K := K) (a := p1) (xs := us) (fun i σ G => (∃ x3 x4 x5, σ = [some (.ref a), some (.int kk), some (.ref z), x3, x4, x5]) ∧ LamX.ExtN H0 G ∧ LamX.Tabs [(Pt, lamQ)] G ∧ Src z G ∧ G p1 = some (.lst us) ∧ ∀ u ∈ us, ∃ d, DD z G u d)
        ⟨⟨_, _, _, rfl⟩, e2, t2, z2, hp1, hus⟩ (fun i σ G _ h => SqL.of h.2.2.2.2.1) ?_ ?_⟩
      · rintro i y σ G hy ⟨⟨x3, x4, x5, rfl⟩, c1, c2, c3, c4, c5⟩
        obtain ⟨d, hd⟩ := c5 y (List.mem_of_getElem? hy)
        obtain ⟨hdv, ds, rfl, l3, l4, hbd⟩ := id hd
        refine ⟨_, rfl, true, z, true, y, _, rfl, c3, c2, hdv true, hbd.tup.mono (by decide) (by decide), fun H' eN T' => ⟨_, rfl, iteF ?_⟩⟩
        refine ⟨_, rfl, _, rfl, z, y, _, rfl, c3.ext eN, hd.ext eN, fun m k v d' G3 b3 s3 hv hb => ?_⟩
        refine ⟨m, z, k, v, d', rfl, s3, tabs_but b3 (c3.ext eN) T', hv, hb, fun H'' eN2 T2 => ⟨_, rfl, iteF ?_⟩⟩
        have hl : ∀ {G' : Hp} {ws : List V}, G' p1 = some (.lst ws) → ∀ {F : Hp}, LamX.ExtN G' F → F p1 = some (.lst ws) := fun h _ e => e _ _ h fun _ q => by cases q
        refine ⟨⟨_, _, _, rfl⟩, (ext_but (c1.trans eN) nz0 b3).trans eN2, T2, s3.ext eN2, hl (b3 _ _ np1 trivial (hl c4 eN)) eN2, fun u hu => ?_⟩
        obtain ⟨du, hdu⟩ := c5 u hu
        exact ⟨du, (((hdu.ext eN).to b3)).ext eN2⟩
      · rintro σ G ⟨⟨x3, x4, x5, rfl⟩, c1, c2, c3, _, _⟩
        refine ⟨4, rfl, by decide, by decide, for_range (n := 4) (fun i σ G => (∃ x3 x4 x5, σ = [some (.ref a), some (.int kk), some (.ref z), x3, x4, x5]) ∧ LamX.ExtN H0 G ∧ LamX.Tabs [(Pt, lamQ)] G ∧ Src z G) ⟨⟨_, _, _, rfl⟩, c1, c2, c3⟩ ?_ ?_⟩
        · rintro i σ G hi ⟨⟨x3, x4, x5, rfl⟩, c1, c2, c3⟩
          refine ⟨_, rfl, z, rfl, c3, fun m v d G3 b3 s3 hv hb => ?_⟩
          have hb10 : Bd 1000 10 d := hb.mono (by decide) (by decide)
          refine ⟨_, rfl, m, z, true, v, d, rfl, hv, hb10.w, fun H4 s4 => ⟨m, z, _, _, rfl, .bl _, shB _, _, rfl, m, z, true, v, d, rfl, Dv.to (But.of s4) _ _ _ hv, hb10, fun H5 s5 => ⟨m, z, _, _, rfl, .bl _, shB _, rfl, _, rfl, ?_⟩⟩⟩
          rw [decide_eq_true rfl]
          refine iteF ?_
          have s45 := s4.trans s5
          refine ⟨_, rfl, m, z, true, v, d, rfl, s3.same s45, (tabs_but b3 c3 c2).ext s45, Dv.to (But.of s45) _ _ _ hv, hb.mono (by decide) (by decide), fun H' eN T' => ⟨_, rfl, iteF ?_⟩⟩
          exact ⟨⟨_, _, _, rfl⟩, ((ext_but c1 nz0 b3).trans (LamX.ExtN.of s45)).trans eN, T', (s3.same s45).ext eN⟩
        · rintro σ G ⟨⟨x3, x4, x5, rfl⟩, c1, c2, c3⟩
          exact ⟨⟨_, _, _, _, _, rfl⟩, c1, c2⟩
    · rintro σ G ⟨⟨x1, x2, x3, x4, x5, rfl⟩, e1, t1⟩
      have w4 : ∀ {d : PyData}, (decide (d.weight ≤ 1000)) = true → d.weight ≤ 1000 := fun h => of_decide_eq_true h
      refine ⟨true, 0, true, _, .str "abcd", rfl, .str _, w4 (by decide +kernel), fun G1 s1 => ⟨_, _, rfl, rfl, _, rfl, ?_⟩⟩
      rw [show isName (.str "abcd") = true from by decide +kernel]
      refine iteF ?_
      refine ⟨by show 0 ≤ sizeLine; decide, fun p o e ho => ⟨by show 4 ≤ sizeLine; decide, fun p2 o2 q2 ho2 => ?_⟩⟩
      have lt1 : p ≠ p + p2 + 1 := Nat.ne_of_lt (Nat.lt_succ_of_le (Nat.le_add_right p p2))
      have lt2 : p2 ≠ p + p2 + 1 := Nat.ne_of_lt (Nat.lt_succ_of_le (Nat.le_add_left p2 p))
      have sp : Same (upd G1 p (.frz o (.tup []))) (upd (upd G1 p (.frz o (.tup []))) p2 (.frz o2 (.tup [.int 1, .str "put", .int 9, .ref p]))) := same_new q2
      refine ⟨true, p + p2 + 1, true, .ref p2, .tuple [.int 1, .str "put", .int 9, .tuple []], rfl, .tup lt2 (.frz upd_same ho2) (.cons (.int _) (.cons (.str _) (.cons (.int _) (.cons (.tup lt1 (.frz (sp _ _ upd_same) ho) .nil) .nil)))), w4 (by decide +kernel), fun G2 s2 => ⟨_, _, rfl, rfl, _, rfl, ?_⟩⟩
      rw [show isDeed (.tuple [.int 1, .str "put", .int 9, .tuple []]) = true from by decide +kernel]
      refine iteF ?_
      refine ⟨by show 4 ≤ sizeLine; decide, fun p3 o3 q3 ho3 => ⟨true, p3 + 1, true, .ref p3, .tuple [.int 999, .str "rename", .str "a", .str "a"], rfl, .tup (Nat.ne_of_lt (Nat.lt_succ_self p3)) (.frz upd_same ho3) (.cons (.int _) (.cons (.str _) (.cons (.str _) (.cons (.str _) .nil)))), w4 (by decide +kernel), fun G3 s3 => ⟨_, _, rfl, rfl, _, rfl, ?_⟩⟩⟩
      rw [show isDeed (.tuple [.int 999, .str "rename", .str "a", .str "a"]) = true from by decide +kernel]
      refine iteT ?_
      refine ⟨by show 4 ≤ sizeLine; decide, fun p4 o4 q4 ho4 => ⟨true, p4 + 1, true, .ref p4, .tuple [.int 1, .str "add", .str "zzzz", .int 99], rfl, .tup (Nat.ne_of_lt (Nat.lt_succ_self p4)) (.frz upd_same ho4) (.cons (.int _) (.cons (.str _) (.cons (.str _) (.cons (.int _) .nil)))), w4 (by decide +kernel), fun G4 s4 => ⟨_, _, rfl, rfl, ?_⟩⟩⟩
      rw [show isDeed (.tuple [.int 1, .str "add", .str "zzzz", .int 99]) = true from by decide +kernel]
      exact q G4
end
end Pl

namespace Pl
open L2 PySem PySem.Spec PyProof.Rows
/-- the law is entered: one table (of the code object c) stands at Pt, nothing is being written out -/
theorem law_callG {P : Program} {w : World} {K : PySem.W.Frag} {mg mb : Str → Option Value} {k : Nat} {fa a c Pt : Addr} {fd : FuncData} {x : Str} {sp : Sp} {t : Shared} {us : List Value} {ns : List Int}
    (kin : K.In t.heap) (gns : t.heap.Ns mainGlobals mg) (bns : t.heap.Ns builtinsNs mb) (bbt : ∀ y : Str, y ≠ "__name__" → mb y = bootBuiltins y) (nol : t.heap.NoLimit) (gen : t.gens = #[])
    (tab : t.heap.get? Pt = some { cls := .none, data := .fields #[] }) (notK : K.lookup Pt = none) (hc : PySem.W.CodeHd t.heap c Pt)
    (bmn : ∃ (bm : Addr) (ob : Obj), mg "__builtins__" = some (.ref bm) ∧ bm ≠ builtinsNs ∧ t.heap.get? bm = some ob ∧ ob.cls = .type "module" ∧ ob.dict = some builtinsNs ∧ ob.data = .plain)
    (la : t.heap.get? a = some { cls := .type "list", data := .seq us.toArray }) (nums : IntsAre us ns) (short : ns.length ≤ sizeLine) (room : Room k callerA)
    (fn : ∀ base : Heap, K.In base → base.Ns mainGlobals mg → LamX.TabB base mg c Pt → FnG P w K mg base k fa fd [x] sp) (bind : ∀ (s : Shared) (u : Value), BindsTo s fd ⟨[u], []⟩ [(x, u)])
    (want : ∀ H : Hp, H Pt = some (.tbl #[]) → SqL K H a (ns.map V.int) → sp [.ref a] H (fun v _ => v = .bl true) fun _ _ _ => True) :
    codeAny (model P w) callerA (.call (.ref fa) ⟨[.ref a], []⟩) (fun r s2 => r = .ok (.ret (.bool true)) ∧ OldK t.heap s2.heap ∧ s2.os = t.os ∧ AllBare s2.gens) t := by
  have rel := vals_ints nums
  have count := nums.length
  have aPt : a ≠ Pt := fun e => by
    rw [e, tab] at la
    have z : Data.fields #[] = Data.seq us.toArray := congrArg Obj.data (Option.some.inj la)
    cases z
  have main : ∀ H : Hp, H Pt = some (.tbl #[]) → (∀ b, H b = none ∨ b = Pt ∨ ∃ o xs, H b = some (.frz o (.lst xs))) → SqL K H a (ns.map V.int) → HOk P w H t.heap → (∀ b, H b ≠ none → b = a ∨ b = Pt) → (H a ≠ none → K.lookup a = none) →
      codeAny (model P w) callerA (.call (.ref fa) ⟨[.ref a], []⟩) (fun r s2 => r = .ok (.ret (.bool true)) ∧ OldK t.heap s2.heap ∧ s2.os = t.os ∧ AllBare s2.gens) t := by
    intro H hPt kinds seq ok only free
    have look : ∀ {b : Addr} {o : Obj}, t.heap.get? b = some o → H b = none → (hidT t.heap H).get? b = some o := fun {b o} e n => hidT_get e n
    have off : ∀ {b : Addr} {o : Obj}, t.heap.get? b = some o → (∀ ws n, o.data ≠ .seq ws n) → o.data ≠ .fields #[] → H b = none := fun {b o} e n1 n2 => by
      cases hb : H b with
      | none => rfl
      | some u =>
        rcases only b (by rw [hb]; simp) with rfl | rfl
        · rw [la] at e
          cases e
          exact absurd rfl (n1 _ _)
        · rw [tab] at e
          cases e
          exact absurd rfl n2
    have nspace : ∀ {b : Addr} {m : Str → Option Value}, t.heap.Ns b m → (hidT t.heap H).Ns b m := fun {b m} ⟨o, es, ep, e, d, r⟩ =>
      ⟨o, es, ep, look e (off e (fun ws n z => by rw [d] at z; cases z) fun z => by rw [d] at z; cases z), d, r⟩
    have kbase : K.In (hidT t.heap H) := fun b o e => look (kin b o e) (by
      cases hb : H b with
      | none => rfl
      | some u =>
        rcases only b (by rw [hb]; simp) with rfl | rfl
        · rw [free (by rw [hb]; simp)] at e
          cases e
        · rw [notK] at e
          cases e)
    obtain ⟨mc, l1, l2⟩ := nol
    have modu : L2.Mod K mg (hidT t.heap H) := ⟨kbase, nspace gns, ⟨mb, nspace bns, bbt⟩, mc, nspace l1, l2⟩
    have tabs : LamX.TabB (hidT t.heap H) mg c Pt := by
      obtain ⟨oc, fs, file, tf, flags, tg, inF, text, tt, e1, r1, r2, r3, r4, r5, r6, r7, r8, r9⟩ := id hc
      obtain ⟨bm, ob, b1, b2, b3, b4, b5, b6⟩ := bmn
      obtain ⟨og, eg, epg, g1, g2, _⟩ := id gns
      refine ⟨⟨oc, fs, file, tf, flags, tg, inF, text, tt, look e1 (off e1 (fun ws n z => ?_) fun z => ?_), r1, r2, r3, r4, r5, r6, r7, r8, r9⟩, ⟨bm, ob, b1, b2, fun z => ?_, fun z => ?_, look b3 (off b3 (fun ws n z => ?_) fun z => ?_), b4, b5, b6⟩, fun z => ?_⟩
      · rw [r2] at z
        cases z
      · rw [r2] at z
        cases z
        simp at r3
      · rw [z, g1] at b3
        cases b3
        rw [g2] at b6
        cases b6
      · rw [z, tab] at b3
        cases b3
        cases b6
      · rw [b6] at z
        cases z
      · rw [b6] at z
        cases z
      · rw [z, tab] at g1
        cases g1
        cases g2
    have env : Env0 P w K mg (hidT t.heap H) callerA [] t H := ⟨rfl, modu, fun b o e => of_hidT e, Nat.le_of_eq (hidT_size _ _), trivial, (fun b hb => absurd (show b ∈ ([] : List Addr) from hb) List.not_mem_nil), ok, .of_eq gen⟩
    refine codeAny_mono ((fn _ kbase (nspace gns) tabs).run callerA [] t H ⟨[.ref a], []⟩ [.ref a] [.ref a] _ _ rfl room env (bind t (.ref a)) (.cons rfl .nil) (want H hPt seq)) ?_
    intro r s2 hr
    match r, hr with
    | .error _, hr => exact False.elim hr
    | .ok .next, hr => exact False.elim hr
    | .ok .brk, hr => exact False.elim hr
    | .ok .cont, hr => exact False.elim hr
    | .ok (.ret u), ⟨v, H2, os, bare, un, ok2, ru, ev⟩ =>
      obtain rfl : v = .bl true := ev
      obtain rfl : u = Value.bool true := ru
      have stay : ∀ b o, b ≠ Pt → t.heap.get? b = some o → s2.heap.get? b = some o := fun b o nb e => by
        rcases kinds b with hb | hb | ⟨ob, xs, hb⟩
        · exact un.keep b o e hb (fun z => absurd (show b ∈ ([] : List Addr) from z) List.not_mem_nil) (by simp)
        · exact absurd hb nb
        · obtain ⟨i1, _⟩ := ok b _ hb
          obtain ⟨i2, _⟩ := ok2 b _ (un.frzs b ob _ hb)
          rw [e] at i1
          cases i1
          exact i2
      obtain ⟨more, grow⟩ := un.tbls Pt #[] hPt
      have now : s2.heap.get? Pt = some { cls := .none, data := .fields (#[] ++ more) } := ok2 Pt _ grow
      refine ⟨rfl, ⟨fun b o e => ?_, fun b o e => ?_⟩, os, bare⟩; skip
      · by_cases hb : b = Pt
        · subst hb
          rw [tab] at e
          cases e
          exact .inr (.inl ⟨(hc.tab tab).isCodeTable, rfl, #[], more, rfl, now⟩)
        · exact .inl (stay b o hb e)
      · by_cases hb : b = Pt
        · subst hb
          exact ⟨_, now⟩
        · exact ⟨o, stay b o hb e⟩
  cases hk : K.lookup a with
  | some o =>
    have e := kin a o hk
    rw [la] at e
    cases e
    refine main (fun b => if b = Pt then some (.tbl #[]) else none) (if_pos rfl) (fun b => ?_) (.inr ⟨_, us.toArray, _, hk, rfl, rfl, rfl, by rw [List.size_toArray, count]; exact short, by simpa using rel⟩) (fun b u z => ?_) (fun b z => ?_) fun z => absurd (if_neg aPt) z
    · by_cases hb : b = Pt
      · exact .inr (.inl hb)
      · exact .inl (if_neg hb)
    · by_cases hb : b = Pt
      · have z2 := (if_pos hb).symm.trans z
        cases z2
        rw [hb]
        exact tab
      · have z2 := (if_neg hb).symm.trans z
        cases z2
    · by_cases hb : b = Pt
      · exact .inr hb
      · exact absurd (if_neg hb) z
  | none =>
    refine main (fun b => if b = a then some (.frz { cls := .type "list", data := .seq us.toArray } (.lst (ns.map V.int))) else if b = Pt then some (.tbl #[]) else none) ((if_neg aPt.symm).trans (if_pos rfl)) (fun b => ?_) (.inl (.inr ⟨_, if_pos rfl⟩)) (fun b u z => ?_) (fun b z => ?_) fun _ => hk
    · by_cases h1 : b = a
      · exact .inr (.inr ⟨_, _, if_pos h1⟩)
      · by_cases h2 : b = Pt
        · exact .inr (.inl h2)
        · exact .inl ((if_neg h1).trans (if_neg h2))
    · by_cases h1 : b = a
      · have z2 := (if_pos h1).symm.trans z
        cases z2
        rw [h1]
        exact ⟨la, by rw [List.length_map]; exact short, us, _, rel, la⟩
      · have z2 := (if_neg h1).symm.trans z
        by_cases h2 : b = Pt
        · have z3 := (if_pos h2).symm.trans z2
          cases z3
          rw [h2]
          exact tab
        · have z3 := (if_neg h2).symm.trans z2
          cases z3
    · by_cases h1 : b = a
      · exact .inl h1
      · by_cases h2 : b = Pt
        · exact .inr h2
        · exact absurd ((if_neg h1).trans (if_neg h2)) z
/-- what the top leaves of the law -/
def LawG (l : PySem.W.OpenLaw) (w : World) (K : PySem.W.Frag) (mg : Str → Option Value) (fa : Addr) (h : Heap) : Prop :=
  ∃ (fd : FuncData) (c Pt : Addr), h.get? Pt = some { cls := .none, data := .fields #[] } ∧ K.lookup Pt = none ∧ PySem.W.CodeHd h c Pt ∧ (∀ (s : Shared) (u : Value), BindsTo s fd ⟨[u], []⟩ [("_law_script", u)]) ∧
    ∀ base : Heap, K.In base → base.Ns mainGlobals mg → LamX.TabB base mg c Pt → FnG l.prog w K mg base 13 fa fd ["_law_script"] (spLaw K Pt)
theorem walkG {l : PySem.W.OpenLaw} {n : Nat} {qp : Program} {loose : List Str} {XP : (Str → Option Value) → Heap → Prop} {YP : World → Heap → Prop} {d : DefRec} {K : Params → PySem.W.Frag}
    (hn : l.most = some n) (hn2 : n ≤ sizeLine) (hdf : d.params.defaults = []) (hY : ∀ (w : World) (h : Heap), YP w h → (K w.params).In h)
    (F : ∀ (w : World) (mg : Str → Option Value) (fa : Addr) (h : Heap), YP w h → (K w.params).In h → h.Ns mainGlobals mg → mg d.name = some (.ref fa) → LawG l w (K w.params) mg fa h) :
    PySem.W.WalkO qp loose XP YP l.row.toRowW d [] (fun f vs => PySem.call f vs) := by
  refine Att.attach_callB hn hdf ?_
  intro w s₀ s₁ mg mb fa o pm cd doc a vs ns G Y ho hd hcd hmg hobj hints hlen hbits hg
  obtain ⟨fd, c, Pt, tab, notK, hc, bind, fn⟩ := F w mg fa _ Y (hY w _ Y) G.T.g hmg
  exact law_callG (hY w _ Y) G.T.g G.T.b G.T.builtins G.T.nolimit hg tab notK hc G.T.bmain hobj hints (Nat.le_trans hlen hn2) ⟨rfl, by decide, by decide⟩ fn bind fun H hPt seq => ⟨a, ns, rfl, seq, fun p hp => by
    rw [List.mem_singleton] at hp
    subst hp
    exact LamX.TabS.nil hPt, fun _ => rfl⟩
end Pl

namespace Pl
open L2 PySem PySem.Spec PyProof.Rows
/-- a def of the top, under its name -/
def AtD (K : PySem.W.Frag) (x : Str) (st : Stmt) : Prop := ∃ (f : Addr) (fd : FuncData), PySem.W.nsIn K mainGlobals x = some (some (.ref f)) ∧ Fun K x x st f fd
theorem forms_get {K : PySem.W.Frag} {d g1 g2 g3 g4 g5 : Addr} {n : Nat} {i1 i2 i3 i4 i5 : Int} {q1 q2 q3 q4 q5 : Tok} (l : K.lookup d = some ⟨.type "dict", none, .dict #[⟨i1, .str "put" q1, .ref g1⟩, ⟨i2, .str "strike" q2, .ref g2⟩, ⟨i3, .str "add" q3, .ref g3⟩, ⟨i4, .str "drop" q4, .ref g4⟩, ⟨i5, .str "rename" q5, .ref g5⟩] n, #[]⟩) (x : Str) :
    PySem.W.nsIn K d x = some (if x = "put" then some (.ref g1) else if x = "strike" then some (.ref g2) else if x = "add" then some (.ref g3) else if x = "drop" then some (.ref g4) else if x = "rename" then some (.ref g5) else none) := by
  unfold PySem.W.nsIn
  rw [l]
  by_cases h1 : x = "put"
  · subst h1
    rfl
  by_cases h2 : x = "strike"
  · subst h2
    rfl
  by_cases h3 : x = "add"
  · subst h3
    rfl
  by_cases h4 : x = "drop"
  · subst h4
    rfl
  by_cases h5 : x = "rename"
  · subst h5
    rfl
  rw [if_neg h1, if_neg h2, if_neg h3, if_neg h4, if_neg h5]
  have no : ∀ (y : Str) (q : Tok), ¬ x = y → (Value.str y q).isStr x = false := fun y q h => by
    have e : (Value.str y q).isStr x = (y == x) := rfl
    rw [e]
    exact beq_eq_false_iff_ne.mpr fun z => h z.symm
  simp only [List.find?, no _ _ h1, no _ _ h2, no _ _ h3, no _ _ h4, no _ _ h5]
  rfl
theorem all_mk {l : PySem.W.OpenLaw} {w : World} {K : PySem.W.Frag} {h : Heap} {mg : Str → Option Value} {fa : Addr} (X : K.In h) (G : h.Ns mainGlobals mg) (hfa : mg "law" = some (.ref fa))
    {t1 t2 t3 t4 t5 t6 : Tok} {f37 c37 Pt aK aA dF g1 g2 g3 g4 g5 S C fI : Addr} {od37 an37 odI anI odc : Option Addr} {sl37 slI slc slK slA : Array (Option Value)} {oc37 kV37 dc37 pm37 ct37 ocI kVI dcI pmI cdI ctI : Value} {vsC : Array Value} {odK odA : Option Addr} {nK nA nF : Nat} {u0 u1 u2 u3 u4 u5 u6 u7 u8 u9 v0 v1 v2 : Tok} {hF1 hF2 hF3 hF4 hF5 : Int} {q1 q2 q3 q4 q5 : Tok} {xnm xq : Str} {xN : Addr} {xbs xsub : List Value} {xsn : List Str} {xab : Bool} {xcol : Option Bool} {xdd : Option Addr} {y0 y1 y2 y3 y5 : Option Value}
    (A0 : AtD K "is_number" sIsNumber)
    (A1 : AtD K "is_within" sIsWithin)
    (A2 : AtD K "is_moment" sIsMoment)
    (A3 : AtD K "is_value" sIsValue)
    (A4 : AtD K "is_key" sIsKey)
    (A5 : AtD K "is_name" sIsName)
    (A6 : AtD K "_is_pair" sIsPair)
    (A7 : AtD K "_are_pairs" sArePairs)
    (A8 : AtD K "_is_put" sIsPut)
    (A9 : AtD K "_is_strike" sIsStrike)
    (A10 : AtD K "_is_add" sIsAdd)
    (A11 : AtD K "_is_drop" sIsDrop)
    (A12 : AtD K "_is_rename" sIsRename)
    (A13 : AtD K "is_deed" sIsDeed)
    (A14 : AtD K "_check_deed" sCheck)
    (A15 : AtD K "is_alter" sIsAlter)
    (A16 : AtD K "key_of" sKeyOf)
    (A17 : AtD K "in_order" sInOrder)
    (A18 : AtD K "_law_pool" sPool)
    (A19 : AtD K "_law_take" sTake)
    (A20 : AtD K "_law_one" sOne)
    (A21 : AtD K "_law_turned" sTurned)
    (A22 : AtD K "_law_rounds" sRounds)
    (A23 : AtD K "_law_called" sCalled)
    (A24 : AtD K "_law_number" sNumber)
    (A25 : AtD K "_law_pairs" sPairs)
    (A26 : AtD K "_law_deed" sDeed)
    (A27 : AtD K "_law_deeds" sDeeds)
    (A28 : AtD K "_law_is_number" sLIsNumber)
    (A29 : AtD K "_law_is_word" sLIsWord)
    (A30 : AtD K "_law_are_pairs" sLArePairs)
    (A31 : AtD K "_law_is_right" sLIsRight)
    (A32 : AtD K "_law_odd" sOdd)
    (A33 : AtD K "_law_bent" sBent)
    (A34 : AtD K "_law_refused" sRefused)
    (A35 : AtD K "law" sLaw)
    (z_isinstance : PySem.W.nsIn K mainGlobals "isinstance" = some none)
    (z_len : PySem.W.nsIn K mainGlobals "len" = some none)
    (z_all : PySem.W.nsIn K mainGlobals "all" = some none)
    (z_set : PySem.W.nsIn K mainGlobals "set" = some none)
    (z_int : PySem.W.nsIn K mainGlobals "int" = some none)
    (z_bool : PySem.W.nsIn K mainGlobals "bool" = some none)
    (z_str : PySem.W.nsIn K mainGlobals "str" = some none)
    (z_tuple : PySem.W.nsIn K mainGlobals "tuple" = some none)
    (z_sorted : PySem.W.nsIn K mainGlobals "sorted" = some none)
    (z_max : PySem.W.nsIn K mainGlobals "max" = some none)
    (z_min : PySem.W.nsIn K mainGlobals "min" = some none)
    (z_list : PySem.W.nsIn K mainGlobals "list" = some none)
    (z_range : PySem.W.nsIn K mainGlobals "range" = some none)
    (z_repr : PySem.W.nsIn K mainGlobals "repr" = some none)
    (z_dict : PySem.W.nsIn K mainGlobals "dict" = some none)
    (g_FIRST_MOMENT : PySem.W.nsIn K mainGlobals "FIRST_MOMENT" = some (some (.int 1 t1)))
    (g_LAST_MOMENT : PySem.W.nsIn K mainGlobals "LAST_MOMENT" = some (some (.int 999 t2)))
    (g_LAST_VALUE : PySem.W.nsIn K mainGlobals "LAST_VALUE" = some (some (.int 99 t3)))
    (g_LONGEST_NAME : PySem.W.nsIn K mainGlobals "LONGEST_NAME" = some (some (.int 4 t4)))
    (g_MOST_PAIRS : PySem.W.nsIn K mainGlobals "MOST_PAIRS" = some (some (.int 4 t5)))
    (g_LETTERS : PySem.W.nsIn K mainGlobals "LETTERS" = some (some (.str LET t6)))
    (n37 : PySem.W.nsIn K mainGlobals "_law_value_right" = some (some (.ref f37)))
    (l37 : K.lookup f37 = some ⟨oc37, od37, .func (PySem.W.fnOf "_law_value_right" "_law_value_right" (defArgs sVRight) (defBody sVRight) (defScope sVRight) .none kV37 dc37 pm37 an37 (.ref c37) ct37), sl37⟩)
    (c37_ : PySem.W.codeIn K (.ref c37) "_law_value_right" = true)
    (k37 : PySem.W.keepIn K (.ref f37) = true)
    (lc : K.lookup c37 = some ⟨.type "code", odc, .fields vsC, slc⟩)
    (hP : vsC[11]? = some (.ref Pt))
    (hcd : PySem.W.codeHdIn K c37 Pt = true)
    (notK : K.lookup Pt = none)
    (tab : h.get? Pt = some { cls := .none, data := .fields #[] })
    (nK_ : PySem.W.nsIn K mainGlobals "KEYS" = some (some (.ref aK)))
    (lK : K.lookup aK = some ⟨.type "tuple", odK, .seq #[.int 0 u0, .int 1 u1, .int 2 u2, .int 3 u3, .int 4 u4, .int 5 u5, .int 6 u6, .int 7 u7, .int 8 u8, .int 9 u9] nK, slK⟩)
    (nA_ : PySem.W.nsIn K mainGlobals "ALTERS" = some (some (.ref aA)))
    (lA : K.lookup aA = some ⟨.type "tuple", odA, .seq #[.str "add" v0, .str "drop" v1, .str "rename" v2] nA, slA⟩)
    (nF_ : PySem.W.nsIn K mainGlobals "FORMS" = some (some (.ref dF)))
    (lF : K.lookup dF = some ⟨.type "dict", none, .dict #[⟨hF1, .str "put" q1, .ref g1⟩, ⟨hF2, .str "strike" q2, .ref g2⟩, ⟨hF3, .str "add" q3, .ref g3⟩, ⟨hF4, .str "drop" q4, .ref g4⟩, ⟨hF5, .str "rename" q5, .ref g5⟩] nF, #[]⟩)
    (litF : PySem.W.KeysLit w.params [⟨hF1, .str "put" q1, .ref g1⟩, ⟨hF2, .str "strike" q2, .ref g2⟩, ⟨hF3, .str "add" q3, .ref g3⟩, ⟨hF4, .str "drop" q4, .ref g4⟩, ⟨hF5, .str "rename" q5, .ref g5⟩])
    (lowF : (dF == sysModules) = false)
    (m1 : PySem.W.nsIn K mainGlobals "_is_put" = some (some (.ref g1)))
    (m2 : PySem.W.nsIn K mainGlobals "_is_strike" = some (some (.ref g2)))
    (m3 : PySem.W.nsIn K mainGlobals "_is_add" = some (some (.ref g3)))
    (m4 : PySem.W.nsIn K mainGlobals "_is_drop" = some (some (.ref g4)))
    (m5 : PySem.W.nsIn K mainGlobals "_is_rename" = some (some (.ref g5)))
    (nS_ : PySem.W.nsIn K mainGlobals "StoreError" = some (some (.ref S)))
    (nC_ : PySem.W.nsIn K mainGlobals "NoDeed" = some (some (.ref C)))
    (xL : K.lookup C = some (excClassObj xnm xq C xN xbs [.ref S, .type "ValueError", .type "Exception", .type "BaseException", .type "object"] true xsn xsub xab xcol xdd y0 y1 y2 y3 y5 "ValueError.__new__"))
    (x5 : PySem.W.findIn K (.ref C) "__setattr__" = some (some (.builtin "object.__setattr__")))
    (x6 : PySem.W.typeIn K (.ref C) = some (.type "type"))
    (x7 : PySem.W.keepIn K (.ref C) = true)
    (iI : PySem.W.findIn K (.ref C) "__init__" = some (some (.ref fI)))
    (tI : PySem.W.typeIn K (.ref fI) = some (.type "function"))
    (nT : PySem.W.findIn K (.ref C) "told" = some none)
    (lI : K.lookup fI = some ⟨ocI, odI, .func (PySem.W.fnOf "__init__" "NoDeed.__init__" (defArgs sInit) (defBody sInit) (defScope sInit) .none kVI dcI pmI anI cdI ctI), slI⟩)
    (cI : PySem.W.codeIn K cdI "NoDeed.__init__" = true)
    (kI : PySem.W.keepIn K (.ref fI) = true)
    (s1 : PySem.W.subIn K (.ref S) (.type "BaseException") = some true)
    (s2 : PySem.W.hasDictIn K S = true)
    (s3 : PySem.W.typeIn K (.ref S) = some (.type "type"))
    (s4 : PySem.W.subIn K (.ref C) (.ref S) = some true)
    (x1 : PySem.W.findIn K (.ref C) "__getattribute__" = some (some (.builtin "BaseException.__getattribute__")))
    (x2 : PySem.W.findIn K (.ref C) "__getattr__" = some none)
    (x3 : PySem.W.subIn K (.ref C) (.type "BaseException") = some true)
    (x4 : PySem.W.hasDictIn K C = true) : LawG l w K mg fa h := by
  obtain ⟨f0, fd0, n0_, F0⟩ := A0
  obtain ⟨f1, fd1, n1_, F1⟩ := A1
  obtain ⟨f2, fd2, n2_, F2⟩ := A2
  obtain ⟨f3, fd3, n3_, F3⟩ := A3
  obtain ⟨f4, fd4, n4_, F4⟩ := A4
  obtain ⟨f5, fd5, n5_, F5⟩ := A5
  obtain ⟨f6, fd6, n6_, F6⟩ := A6
  obtain ⟨f7, fd7, n7_, F7⟩ := A7
  obtain ⟨f8, fd8, n8_, F8⟩ := A8
  obtain ⟨f9, fd9, n9_, F9⟩ := A9
  obtain ⟨f10, fd10, n10_, F10⟩ := A10
  obtain ⟨f11, fd11, n11_, F11⟩ := A11
  obtain ⟨f12, fd12, n12_, F12⟩ := A12
  obtain ⟨f13, fd13, n13_, F13⟩ := A13
  obtain ⟨f14, fd14, n14_, F14⟩ := A14
  obtain ⟨f15, fd15, n15_, F15⟩ := A15
  obtain ⟨f16, fd16, n16_, F16⟩ := A16
  obtain ⟨f17, fd17, n17_, F17⟩ := A17
  obtain ⟨f18, fd18, n18_, F18⟩ := A18
  obtain ⟨f19, fd19, n19_, F19⟩ := A19
  obtain ⟨f20, fd20, n20_, F20⟩ := A20
  obtain ⟨f21, fd21, n21_, F21⟩ := A21
  obtain ⟨f22, fd22, n22_, F22⟩ := A22
  obtain ⟨f23, fd23, n23_, F23⟩ := A23
  obtain ⟨f24, fd24, n24_, F24⟩ := A24
  obtain ⟨f25, fd25, n25_, F25⟩ := A25
  obtain ⟨f26, fd26, n26_, F26⟩ := A26
  obtain ⟨f27, fd27, n27_, F27⟩ := A27
  obtain ⟨f28, fd28, n28_, F28⟩ := A28
  obtain ⟨f29, fd29, n29_, F29⟩ := A29
  obtain ⟨f30, fd30, n30_, F30⟩ := A30
  obtain ⟨f31, fd31, n31_, F31⟩ := A31
  obtain ⟨f32, fd32, n32_, F32⟩ := A32
  obtain ⟨f33, fd33, n33_, F33⟩ := A33
  obtain ⟨f34, fd34, n34_, F34⟩ := A34
  obtain ⟨f35, fd35, n35_, F35⟩ := A35
  have M0 := PySem.W.mg_of X G n0_
  have b0 := F0.binds (ps := ["value"]) fun _ _ _ _ _ _ us hl => match us, hl with | [_], _ => rfl
  have M1 := PySem.W.mg_of X G n1_
  have b1 := F1.binds (ps := ["value", "least", "most"]) fun _ _ _ _ _ _ us hl => match us, hl with | [_, _, _], _ => rfl
  have M2 := PySem.W.mg_of X G n2_
  have b2 := F2.binds (ps := ["value"]) fun _ _ _ _ _ _ us hl => match us, hl with | [_], _ => rfl
  have M3 := PySem.W.mg_of X G n3_
  have b3 := F3.binds (ps := ["value"]) fun _ _ _ _ _ _ us hl => match us, hl with | [_], _ => rfl
  have M4 := PySem.W.mg_of X G n4_
  have b4 := F4.binds (ps := ["value"]) fun _ _ _ _ _ _ us hl => match us, hl with | [_], _ => rfl
  have M5 := PySem.W.mg_of X G n5_
  have b5 := F5.binds (ps := ["value"]) fun _ _ _ _ _ _ us hl => match us, hl with | [_], _ => rfl
  have M6 := PySem.W.mg_of X G n6_
  have b6 := F6.binds (ps := ["value"]) fun _ _ _ _ _ _ us hl => match us, hl with | [_], _ => rfl
  have M7 := PySem.W.mg_of X G n7_
  have b7 := F7.binds (ps := ["value"]) fun _ _ _ _ _ _ us hl => match us, hl with | [_], _ => rfl
  have M8 := PySem.W.mg_of X G n8_
  have b8 := F8.binds (ps := ["parts"]) fun _ _ _ _ _ _ us hl => match us, hl with | [_], _ => rfl
  have M9 := PySem.W.mg_of X G n9_
  have b9 := F9.binds (ps := ["parts"]) fun _ _ _ _ _ _ us hl => match us, hl with | [_], _ => rfl
  have M10 := PySem.W.mg_of X G n10_
  have b10 := F10.binds (ps := ["parts"]) fun _ _ _ _ _ _ us hl => match us, hl with | [_], _ => rfl
  have M11 := PySem.W.mg_of X G n11_
  have b11 := F11.binds (ps := ["parts"]) fun _ _ _ _ _ _ us hl => match us, hl with | [_], _ => rfl
  have M12 := PySem.W.mg_of X G n12_
  have b12 := F12.binds (ps := ["parts"]) fun _ _ _ _ _ _ us hl => match us, hl with | [_], _ => rfl
  have M13 := PySem.W.mg_of X G n13_
  have b13 := F13.binds (ps := ["value"]) fun _ _ _ _ _ _ us hl => match us, hl with | [_], _ => rfl
  have M14 := PySem.W.mg_of X G n14_
  have b14 := F14.binds (ps := ["value"]) fun _ _ _ _ _ _ us hl => match us, hl with | [_], _ => rfl
  have M15 := PySem.W.mg_of X G n15_
  have b15 := F15.binds (ps := ["deed"]) fun _ _ _ _ _ _ us hl => match us, hl with | [_], _ => rfl
  have M16 := PySem.W.mg_of X G n16_
  have b16 := F16.binds (ps := ["deed"]) fun _ _ _ _ _ _ us hl => match us, hl with | [_], _ => rfl
  have M17 := PySem.W.mg_of X G n17_
  have b17 := F17.binds (ps := ["deed"]) fun _ _ _ _ _ _ us hl => match us, hl with | [_], _ => rfl
  have M18 := PySem.W.mg_of X G n18_
  have b18 := F18.binds (ps := ["_law_script", "_law_k"]) fun _ _ _ _ _ _ us hl => match us, hl with | [_, _], _ => rfl
  have M19 := PySem.W.mg_of X G n19_
  have b19 := F19.binds (ps := ["_law_source", "_law_top"]) fun _ _ _ _ _ _ us hl => match us, hl with | [_, _], _ => rfl
  have M20 := PySem.W.mg_of X G n20_
  have b20 := F20.binds (ps := ["_law_source", "_law_things"]) fun _ _ _ _ _ _ us hl => match us, hl with | [_, _], _ => rfl
  have M21 := PySem.W.mg_of X G n21_
  have b21 := F21.binds (ps := ["_law_source", "_law_things"]) fun _ _ _ _ _ _ us hl => match us, hl with | [_, _], _ => rfl
  have M22 := PySem.W.mg_of X G n22_
  have b22 := F22.binds (ps := ["_law_script"]) fun _ _ _ _ _ _ us hl => match us, hl with | [_], _ => rfl
  have M23 := PySem.W.mg_of X G n23_
  have b23 := F23.binds (ps := ["_law_source"]) fun _ _ _ _ _ _ us hl => match us, hl with | [_], _ => rfl
  have M24 := PySem.W.mg_of X G n24_
  have b24 := F24.binds (ps := ["_law_source"]) fun _ _ _ _ _ _ us hl => match us, hl with | [_], _ => rfl
  have M25 := PySem.W.mg_of X G n25_
  have b25 := F25.binds (ps := ["_law_source", "_law_names"]) fun _ _ _ _ _ _ us hl => match us, hl with | [_, _], _ => rfl
  have M26 := PySem.W.mg_of X G n26_
  have b26 := F26.binds (ps := ["_law_source", "_law_moment", "_law_names", "_law_keys"]) fun _ _ _ _ _ _ us hl => match us, hl with | [_, _, _, _], _ => rfl
  have M27 := PySem.W.mg_of X G n27_
  have b27 := F27.binds (ps := ["_law_source", "_law_most"]) fun _ _ _ _ _ _ us hl => match us, hl with | [_, _], _ => rfl
  have M28 := PySem.W.mg_of X G n28_
  have b28 := F28.binds (ps := ["_law_value", "_law_low", "_law_high"]) fun _ _ _ _ _ _ us hl => match us, hl with | [_, _, _], _ => rfl
  have M29 := PySem.W.mg_of X G n29_
  have b29 := F29.binds (ps := ["_law_value"]) fun _ _ _ _ _ _ us hl => match us, hl with | [_], _ => rfl
  have M30 := PySem.W.mg_of X G n30_
  have b30 := F30.binds (ps := ["_law_value"]) fun _ _ _ _ _ _ us hl => match us, hl with | [_], _ => rfl
  have M31 := PySem.W.mg_of X G n31_
  have b31 := F31.binds (ps := ["_law_value"]) fun _ _ _ _ _ _ us hl => match us, hl with | [_], _ => rfl
  have M32 := PySem.W.mg_of X G n32_
  have b32 := F32.binds (ps := ["_law_source"]) fun _ _ _ _ _ _ us hl => match us, hl with | [_], _ => rfl
  have M33 := PySem.W.mg_of X G n33_
  have b33 := F33.binds (ps := ["_law_source", "_law_deed_here"]) fun _ _ _ _ _ _ us hl => match us, hl with | [_, _], _ => rfl
  have M34 := PySem.W.mg_of X G n34_
  have b34 := F34.binds (ps := ["_law_call", "_law_value"]) fun _ _ _ _ _ _ us hl => match us, hl with | [_, _], _ => rfl
  have M35 := PySem.W.mg_of X G n35_
  have b35 := F35.binds (ps := ["_law_script"]) fun _ _ _ _ _ _ us hl => match us, hl with | [_], _ => rfl
  have e := hfa.symm.trans M35
  cases e
  have T : Cst K mg := ⟨(PySem.W.mg_none_of X G z_isinstance), (PySem.W.mg_none_of X G z_len), (PySem.W.mg_none_of X G z_all), (PySem.W.mg_none_of X G z_set), (PySem.W.mg_none_of X G z_int), (PySem.W.mg_none_of X G z_bool), (PySem.W.mg_none_of X G z_str), (PySem.W.mg_none_of X G z_tuple), (PySem.W.mg_none_of X G z_sorted), ⟨_, PySem.W.mg_of X G g_FIRST_MOMENT⟩, ⟨_, PySem.W.mg_of X G g_LAST_MOMENT⟩, ⟨_, PySem.W.mg_of X G g_LAST_VALUE⟩, ⟨_, PySem.W.mg_of X G g_LONGEST_NAME⟩, ⟨_, PySem.W.mg_of X G g_MOST_PAIRS⟩, ⟨_, PySem.W.mg_of X G g_LETTERS⟩⟩
  have T2 : Cs2 mg := ⟨(PySem.W.mg_none_of X G z_max), (PySem.W.mg_none_of X G z_min), (PySem.W.mg_none_of X G z_list), (PySem.W.mg_none_of X G z_range), (PySem.W.mg_none_of X G z_repr), (PySem.W.mg_none_of X G z_dict)⟩
  have sKe : ∀ H : Hp, SqT K H aK keysV := fun H => .inr ⟨_, _, nK, lK, rfl, rfl, (by show 10 ≤ sizeLine; decide), .cons ⟨_, rfl⟩ (.cons ⟨_, rfl⟩ (.cons ⟨_, rfl⟩ (.cons ⟨_, rfl⟩ (.cons ⟨_, rfl⟩ (.cons ⟨_, rfl⟩ (.cons ⟨_, rfl⟩ (.cons ⟨_, rfl⟩ (.cons ⟨_, rfl⟩ (.cons ⟨_, rfl⟩ (.nil))))))))))⟩
  have sAl : ∀ H : Hp, SqT K H aA altV := fun H => .inr ⟨_, _, nA, lA, rfl, rfl, (by show 3 ≤ sizeLine; decide), .cons ⟨_, rfl⟩ (.cons ⟨_, rfl⟩ (.cons ⟨_, rfl⟩ .nil))⟩
  have TF : FormsT K w mg dF g1 g2 g3 g4 g5 := ⟨PySem.W.mg_of X G nF_, ⟨_, nF, lF, litF, lowF⟩, fun x => forms_get lF x⟩
  have ox : OexC K C := ⟨⟨_, _, _, _, _, _, _, _, _, _, _, _, _, _, _, xL, by rfl⟩, x5, x3, x6, x7⟩
  have TE : ErrT K mg C fI := ⟨ox, PySem.W.mg_of X G nC_, iI, tI, nT⟩
  have TS : ErrS K mg S C := ⟨PySem.W.mg_of X G nS_, PySem.W.mg_of X G nC_, PySem.W.exm_ref s1 s2 s3 s4, ⟨x1, x2, x3, x4⟩, nT⟩
  have FI := fun_mk (st := sInit) lI cI kI
  have bI := FI.binds (ps := ["self", "told"]) fun _ _ _ _ _ _ us hl => match us, hl with | [_, _], _ => rfl
  obtain ⟨oc', od', kV', doc', pm', an', cdv', ct', osl', rfl, lk', hcd'⟩ := F35.ex
  have FL := fun_mk (st := sLaw) lk' hcd' F35.kp
  refine ⟨PySem.W.fnOf "law" "law" (defArgs sLaw) (defBody sLaw) (defScope sLaw) .none kV' doc' pm' an' cdv' ct', c37, Pt, tab, notK, PySem.W.codeHd_of_K X hcd, fun s v => .of_eq rfl, fun base _ _ TB => ?_⟩
  have D0 : Df l.prog w K mg base 1 "is_number" ["value"] (spP isNum) := ⟨f0, fd0, ok_number F0 T, M0, F0.kp, b0⟩
  have D1 : Df l.prog w K mg base 2 "is_within" ["value", "least", "most"] spW := ⟨f1, fd1, ok_within F1 D0, M1, F1.kp, b1⟩
  have D2 : Df l.prog w K mg base 3 "is_moment" ["value"] (spP pMom) := ⟨f2, fd2, ok_moment F2 T D1, M2, F2.kp, b2⟩
  have D3 : Df l.prog w K mg base 3 "is_value" ["value"] (spP pVal) := ⟨f3, fd3, ok_value F3 T D1, M3, F3.kp, b3⟩
  have D4 : Df l.prog w K mg base 2 "is_key" ["value"] (spP pKey) := ⟨f4, fd4, ok_key F4 (PySem.W.mg_of X G nK_) sKe D0, M4, F4.kp, b4⟩
  have D5 : Df l.prog w K mg base 1 "is_name" ["value"] (spP isName) := ⟨f5, fd5, ok_name F5 T, M5, F5.kp, b5⟩
  have D6 : Df l.prog w K mg base 4 "_is_pair" ["value"] (spP isPair) := ⟨f6, fd6, ok_pair F6 T D5 D3, M6, F6.kp, b6⟩
  have D7 : Df l.prog w K mg base 5 "_are_pairs" ["value"] (spP arePairs) := ⟨f7, fd7, ok_are F7 T D6, M7, F7.kp, b7⟩
  have q1_ : g1 = f8 := Value.ref.inj (Option.some.inj (Option.some.inj (m1.symm.trans n8_)))
  have h1_ : Held l.prog w K mg base 6 g1 _ := ⟨fd8, ["parts"], q1_ ▸ (ok_put F8 T D4 D7).mono (by decide), q1_ ▸ F8.kp, b8⟩
  have q2_ : g2 = f9 := Value.ref.inj (Option.some.inj (Option.some.inj (m2.symm.trans n9_)))
  have h2_ : Held l.prog w K mg base 6 g2 _ := ⟨fd9, ["parts"], q2_ ▸ (ok_strike F9 T D4).mono (by decide), q2_ ▸ F9.kp, b9⟩
  have q3_ : g3 = f10 := Value.ref.inj (Option.some.inj (Option.some.inj (m3.symm.trans n10_)))
  have h3_ : Held l.prog w K mg base 6 g3 _ := ⟨fd10, ["parts"], q3_ ▸ (ok_add F10 T D5 D3).mono (by decide), q3_ ▸ F10.kp, b10⟩
  have q4_ : g4 = f11 := Value.ref.inj (Option.some.inj (Option.some.inj (m4.symm.trans n11_)))
  have h4_ : Held l.prog w K mg base 6 g4 _ := ⟨fd11, ["parts"], q4_ ▸ (ok_drop F11 T D5).mono (by decide), q4_ ▸ F11.kp, b11⟩
  have q5_ : g5 = f12 := Value.ref.inj (Option.some.inj (Option.some.inj (m5.symm.trans n12_)))
  have h5_ : Held l.prog w K mg base 6 g5 _ := ⟨fd12, ["parts"], q5_ ▸ (ok_rename F12 T D5 D5).mono (by decide), q5_ ▸ F12.kp, b12⟩
  have D13 : Df l.prog w K mg base 7 "is_deed" ["value"] (spP isDeed) := ⟨f13, fd13, ok_deed F13 T D2 TF (form_of TF h1_ h2_ h3_ h4_ h5_), M13, F13.kp, b13⟩
  have GI := ok_init (P := l.prog) (w := w) (mg := mg) (base := base) FI
  have D14 : DfX l.prog w K mg base 8 "_check_deed" ["value"] (spD C fun _ _ H Q => ∀ H', Same H H' → Q .non H') := ⟨f14, fd14, ok_check F14 TE GI bI D13, M14, F14.kp, b14⟩
  have D15 : DfX l.prog w K mg base 9 "is_alter" ["deed"] (spD C fun d _ H Q => ∀ H', Same H H' → Q (.bl (isAlt d)) H') := ⟨f15, fd15, ok_alter F15 (PySem.W.mg_of X G nA_) sAl D14, M15, F15.kp, b15⟩
  have D16 : DfX l.prog w K mg base 10 "key_of" ["deed"] (spD C fun d _ H Q => ∀ m z v' H', Same H H' → Dv m z H' true v' (keyD d) → Q v' H') := ⟨f16, fd16, ok_keyof F16 D15, M16, F16.kp, b16⟩
  have D17 : DfX l.prog w K mg base 9 "in_order" ["deed"] (spD C fun d _ H Q => ∀ m z v' H', Same H H' → Dv m z H' false v' (inOrd d) → Q v' H') := ⟨f17, fd17, ok_inorder F17 T D14, M17, F17.kp, b17⟩
  have D18 : Df l.prog w K mg base 1 "_law_pool" ["_law_script", "_law_k"] (spPool K) := ⟨f18, fd18, ok_pool F18 T T2, M18, F18.kp, b18⟩
  have D19 : Df l.prog w K mg base 1 "_law_take" ["_law_source", "_law_top"] spTake := ⟨f19, fd19, ok_take F19 T, M19, F19.kp, b19⟩
  have D20 : Df l.prog w K mg base 2 "_law_one" ["_law_source", "_law_things"] spOne := ⟨f20, fd20, ok_one F20 T D19, M20, F20.kp, b20⟩
  have D21 : Df l.prog w K mg base 2 "_law_turned" ["_law_source", "_law_things"] spTurned := ⟨f21, fd21, ok_turned F21 T T2 D19, M21, F21.kp, b21⟩
  have D22 : Df l.prog w K mg base 1 "_law_rounds" ["_law_script"] (spRounds K) := ⟨f22, fd22, ok_rounds F22 T T2, M22, F22.kp, b22⟩
  have D23 : Df l.prog w K mg base 3 "_law_called" ["_law_source"] spCalled := ⟨f23, fd23, ok_called F23 D20, M23, F23.kp, b23⟩
  have D24 : Df l.prog w K mg base 3 "_law_number" ["_law_source"] spNumber := ⟨f24, fd24, ok_drawn F24 D20, M24, F24.kp, b24⟩
  have D25 : Df l.prog w K mg base 4 "_law_pairs" ["_law_source", "_law_names"] spPairs := ⟨f25, fd25, ok_pairs F25 T D19 D21 D24, M25, F25.kp, b25⟩
  have D26 : Df l.prog w K mg base 5 "_law_deed" ["_law_source", "_law_moment", "_law_names", "_law_keys"] spDeed := ⟨f26, fd26, ok_drawdeed F26 D20 D24 D25, M26, F26.kp, b26⟩
  have D27 : Df l.prog w K mg base 6 "_law_deeds" ["_law_source", "_law_most"] spDeeds := ⟨f27, fd27, ok_deeds F27 T2 D19 D20 D24 D23 D26, M27, F27.kp, b27⟩
  have D28 : Df l.prog w K mg base 1 "_law_is_number" ["_law_value", "_law_low", "_law_high"] spW := ⟨f28, fd28, ok_lnum F28 T, M28, F28.kp, b28⟩
  have D29 : Df l.prog w K mg base 1 "_law_is_word" ["_law_value"] (spL isName) := ⟨f29, fd29, ok_lword F29 T, M29, F29.kp, b29⟩
  have D30 : Df l.prog w K mg base 2 "_law_are_pairs" ["_law_value"] (spLK arePairs) := ⟨f30, fd30, ok_lare F30 T T2 D29 D28, M30, F30.kp, b30⟩
  have D31 : Df l.prog w K mg base 3 "_law_is_right" ["_law_value"] (spL isDeed) := ⟨f31, fd31, ok_lright F31 T D29 D28 D30, M31, F31.kp, b31⟩
  have D32 : Df l.prog w K mg base 3 "_law_odd" ["_law_source"] spOdd := ⟨f32, fd32, ok_odd F32 D20, M32, F32.kp, b32⟩
  have D33 : Df l.prog w K mg base 4 "_law_bent" ["_law_source", "_law_deed_here"] spBent := ⟨f33, fd33, ok_bent F33 T T2 D19 D20 D32, M33, F33.kp, b33⟩
  have D34 : DfG l.prog w K mg base 11 "_law_refused" ["_law_call", "_law_value"] (spRefused l.prog w K mg base C) := ⟨f34, fd34, ok_refused F34 T T2 TS, M34, F34.kp, b34⟩
  have DV : DfG l.prog w K mg base 12 "_law_value_right" ["_law_value"] (spVR Pt) := ⟨f37, _, ok_vright ⟨oc37, od37, kV37, dc37, pm37, an37, ct37, sl37, rfl, l37, c37_⟩ T T2 TB D13 D31 D34 D15 D16 D17, PySem.W.mg_of X G n37, k37, .all fun us hl => match us, hl with | [_], _ => rfl⟩
  exact ok_law FL T2 D5 D13 D22 D18 D27 D33 D32 D29 DV
end Pl

open PyProof.Rows PySem PySem.W in
set_option maxRecDepth 100001 in
set_option maxHeartbeats 0 in
theorem PySem.Challenge.cw_plainstore_k01_deeds_and_names_holds : PySem.Challenge.rw_plainstore_k01_deeds_and_names.Holds := by
  (w_on; o_law; k_head); (case hw => w_witness2)
  k_fill
  refine Pl.walkG (l := PySem.Challenge.rw_plainstore_k01_deeds_and_names) rfl (by decide) rfl (fun w h Y => km_in_of Y) ?F
  case F =>
    intro w mg fa h Y KX G hmg
    refine' Pl.all_mk KX G hmg ?A0 ?A1 ?A2 ?A3 ?A4 ?A5 ?A6 ?A7 ?A8 ?A9 ?A10 ?A11 ?A12 ?A13 ?A14 ?A15 ?A16 ?A17 ?A18 ?A19 ?A20 ?A21 ?A22 ?A23 ?A24 ?A25 ?A26 ?A27 ?A28 ?A29 ?A30 ?A31 ?A32 ?A33 ?A34 ?A35 ?z_isinstance ?z_len ?z_all ?z_set ?z_int ?z_bool ?z_str ?z_tuple ?z_sorted ?z_max ?z_min ?z_list ?z_range ?z_repr ?z_dict ?g_FIRST_MOMENT ?g_LAST_MOMENT ?g_LAST_VALUE ?g_LONGEST_NAME ?g_MOST_PAIRS ?g_LETTERS ?n37 ?l37 ?c37_ ?k37 ?lc ?hP ?hcd ?notK ?tab ?nK_ ?lK ?nA_ ?lA ?nF_ ?lF ?litF ?lowF ?m1 ?m2 ?m3 ?m4 ?m5 ?nS_ ?nC_ ?xL ?x5 ?x6 ?x7 ?iI ?tI ?nT ?lI ?cI ?kI ?s1 ?s2 ?s3 ?s4 ?x1 ?x2 ?x3 ?x4
    (case A0 => (refine' ⟨_, _, ?a, L2.fun_mk ?l ?c ?k⟩; (case a => k_is); (case l => k_is); (case c => k_is); (case k => k_is)))
    (case A1 => (refine' ⟨_, _, ?a, L2.fun_mk ?l ?c ?k⟩; (case a => k_is); (case l => k_is); (case c => k_is); (case k => k_is)))
    (case A2 => (refine' ⟨_, _, ?a, L2.fun_mk ?l ?c ?k⟩; (case a => k_is); (case l => k_is); (case c => k_is); (case k => k_is)))
    (case A3 => (refine' ⟨_, _, ?a, L2.fun_mk ?l ?c ?k⟩; (case a => k_is); (case l => k_is); (case c => k_is); (case k => k_is)))
    (case A4 => (refine' ⟨_, _, ?a, L2.fun_mk ?l ?c ?k⟩; (case a => k_is); (case l => k_is); (case c => k_is); (case k => k_is)))
    (case A5 => (refine' ⟨_, _, ?a, L2.fun_mk ?l ?c ?k⟩; (case a => k_is); (case l => k_is); (case c => k_is); (case k => k_is)))
    (case A6 => (refine' ⟨_, _, ?a, L2.fun_mk ?l ?c ?k⟩; (case a => k_is); (case l => k_is); (case c => k_is); (case k => k_is)))
    (case A7 => (refine' ⟨_, _, ?a, L2.fun_mk ?l ?c ?k⟩; (case a => k_is); (case l => k_is); (case c => k_is); (case k => k_is)))
    (case A8 => (refine' ⟨_, _, ?a, L2.fun_mk ?l ?c ?k⟩; (case a => k_is); (case l => k_is); (case c => k_is); (case k => k_is)))
    (case A9 => (refine' ⟨_, _, ?a, L2.fun_mk ?l ?c ?k⟩; (case a => k_is); (case l => k_is); (case c => k_is); (case k => k_is)))
    (case A10 => (refine' ⟨_, _, ?a, L2.fun_mk ?l ?c ?k⟩; (case a => k_is); (case l => k_is); (case c => k_is); (case k => k_is)))
    (case A11 => (refine' ⟨_, _, ?a, L2.fun_mk ?l ?c ?k⟩; (case a => k_is); (case l => k_is); (case c => k_is); (case k => k_is)))
    (case A12 => (refine' ⟨_, _, ?a, L2.fun_mk ?l ?c ?k⟩; (case a => k_is); (case l => k_is); (case c => k_is); (case k => k_is)))
    (case A13 => (refine' ⟨_, _, ?a, L2.fun_mk ?l ?c ?k⟩; (case a => k_is); (case l => k_is); (case c => k_is); (case k => k_is)))
    (case A14 => (refine' ⟨_, _, ?a, L2.fun_mk ?l ?c ?k⟩; (case a => k_is); (case l => k_is); (case c => k_is); (case k => k_is)))
    (case A15 => (refine' ⟨_, _, ?a, L2.fun_mk ?l ?c ?k⟩; (case a => k_is); (case l => k_is); (case c => k_is); (case k => k_is)))
    (case A16 => (refine' ⟨_, _, ?a, L2.fun_mk ?l ?c ?k⟩; (case a => k_is); (case l => k_is); (case c => k_is); (case k => k_is)))
    (case A17 => (refine' ⟨_, _, ?a, L2.fun_mk ?l ?c ?k⟩; (case a => k_is); (case l => k_is); (case c => k_is); (case k => k_is)))
    (case A18 => (refine' ⟨_, _, ?a, L2.fun_mk ?l ?c ?k⟩; (case a => k_is); (case l => k_is); (case c => k_is); (case k => k_is)))
    (case A19 => (refine' ⟨_, _, ?a, L2.fun_mk ?l ?c ?k⟩; (case a => k_is); (case l => k_is); (case c => k_is); (case k => k_is)))
    (case A20 => (refine' ⟨_, _, ?a, L2.fun_mk ?l ?c ?k⟩; (case a => k_is); (case l => k_is); (case c => k_is); (case k => k_is)))
    (case A21 => (refine' ⟨_, _, ?a, L2.fun_mk ?l ?c ?k⟩; (case a => k_is); (case l => k_is); (case c => k_is); (case k => k_is)))
    (case A22 => (refine' ⟨_, _, ?a, L2.fun_mk ?l ?c ?k⟩; (case a => k_is); (case l => k_is); (case c => k_is); (case k => k_is)))
    (case A23 => (refine' ⟨_, _, ?a, L2.fun_mk ?l ?c ?k⟩; (case a => k_is); (case l => k_is); (case c => k_is); (case k => k_is)))
    (case A24 => (refine' ⟨_, _, ?a, L2.fun_mk ?l ?c ?k⟩; (case a => k_is); (case l => k_is); (case c => k_is); (case k => k_is)))
    (case A25 => (refine' ⟨_, _, ?a, L2.fun_mk ?l ?c ?k⟩; (case a => k_is); (case l => k_is); (case c => k_is); (case k => k_is)))
    (case A26 => (refine' ⟨_, _, ?a, L2.fun_mk ?l ?c ?k⟩; (case a => k_is); (case l => k_is); (case c => k_is); (case k => k_is)))
    (case A27 => (refine' ⟨_, _, ?a, L2.fun_mk ?l ?c ?k⟩; (case a => k_is); (case l => k_is); (case c => k_is); (case k => k_is)))
    (case A28 => (refine' ⟨_, _, ?a, L2.fun_mk ?l ?c ?k⟩; (case a => k_is); (case l => k_is); (case c => k_is); (case k => k_is)))
    (case A29 => (refine' ⟨_, _, ?a, L2.fun_mk ?l ?c ?k⟩; (case a => k_is); (case l => k_is); (case c => k_is); (case k => k_is)))
    (case A30 => (refine' ⟨_, _, ?a, L2.fun_mk ?l ?c ?k⟩; (case a => k_is); (case l => k_is); (case c => k_is); (case k => k_is)))
    (case A31 => (refine' ⟨_, _, ?a, L2.fun_mk ?l ?c ?k⟩; (case a => k_is); (case l => k_is); (case c => k_is); (case k => k_is)))
    (case A32 => (refine' ⟨_, _, ?a, L2.fun_mk ?l ?c ?k⟩; (case a => k_is); (case l => k_is); (case c => k_is); (case k => k_is)))
    (case A33 => (refine' ⟨_, _, ?a, L2.fun_mk ?l ?c ?k⟩; (case a => k_is); (case l => k_is); (case c => k_is); (case k => k_is)))
    (case A34 => (refine' ⟨_, _, ?a, L2.fun_mk ?l ?c ?k⟩; (case a => k_is); (case l => k_is); (case c => k_is); (case k => k_is)))
    (case A35 => (refine' ⟨_, _, ?a, L2.fun_mk ?l ?c ?k⟩; (case a => k_is); (case l => k_is); (case c => k_is); (case k => k_is)))
    (case z_isinstance => k_is)
    (case z_len => k_is)
    (case z_all => k_is)
    (case z_set => k_is)
    (case z_int => k_is)
    (case z_bool => k_is)
    (case z_str => k_is)
    (case z_tuple => k_is)
    (case z_sorted => k_is)
    (case z_max => k_is)
    (case z_min => k_is)
    (case z_list => k_is)
    (case z_range => k_is)
    (case z_repr => k_is)
    (case z_dict => k_is)
    (case g_FIRST_MOMENT => k_is)
    (case g_LAST_MOMENT => k_is)
    (case g_LAST_VALUE => k_is)
    (case g_LONGEST_NAME => k_is)
    (case g_MOST_PAIRS => k_is)
    (case g_LETTERS => k_is)
    (case n37 => k_is)
    (case l37 => k_is)
    (case c37_ => k_is)
    (case k37 => k_is)
    (case lc => k_is)
    (case hP => rfl)
    (case hcd => kernel_rfl)
    (case notK => kernel_rfl)
    (case tab => exact PySem.W.km_tabs_of Y _ (by simp))
    (case nK_ => k_is)
    (case lK => k_is)
    (case nA_ => k_is)
    (case lA => k_is)
    (case nF_ => k_is)
    (case lF => k_is)
    (case litF => exact ⟨⟨_, _, rfl, rfl⟩, ⟨_, _, rfl, rfl⟩, ⟨_, _, rfl, rfl⟩, ⟨_, _, rfl, rfl⟩, ⟨_, _, rfl, rfl⟩, trivial⟩)
    (case lowF => decide)
    (case m1 => k_is)
    (case m2 => k_is)
    (case m3 => k_is)
    (case m4 => k_is)
    (case m5 => k_is)
    (case nS_ => k_is)
    (case nC_ => k_is)
    (case xL => k_is)
    (case x5 => k_is)
    (case x6 => k_is)
    (case x7 => k_is)
    (case iI => k_is)
    (case tI => k_is)
    (case nT => k_is)
    (case lI => k_is)
    (case cI => k_is)
    (case kI => k_is)
    (case s1 => k_is)
    (case s2 => k_is)
    (case s3 => k_is)
    (case s4 => k_is)
    (case x1 => k_is)
    (case x2 => k_is)
    (case x3 => k_is)
    (case x4 => k_is)

