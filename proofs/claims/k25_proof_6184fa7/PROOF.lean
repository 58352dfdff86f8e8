import PyProof.Rows.All
import Wide.All
import OpenK.AllK
import Wide.FinOn
import HandS.ForMost
import PyProof.ReprLen
import PyProof.ReprRoads
import HandS.IsInst
import HandS.TupAny
import HandS.TupMul
import HandS.TupSets
import HandS.Conv
import HandS.Style
import HandS.ExcInit
import HandS.ExcIs
import HandS.ExcField
import HandS.CallLocal
import HandS.CallSlots
import HandS.TryOnly
import HandS.ExcOwn
import HandS.WordsExc
import HandS.More
import HandS.NoneIn
import HandS.Defaults
import HandS.Lambda
import HandS.EndTab
import KE.KNestM
import PySem.Challenge.RW_plainstore_k25_counts_of_reads
set_option Elab.async false
set_option linter.all false
set_option maxRecDepth 100000
set_option maxHeartbeats 8000000
namespace Pl
open L2 PySem PySem.Spec PyProof.Rows
/-- what a tracked tuple's items read as: known to its object (which has no dict), or longer than four, or (k = false) any -/
inductive TupAt (H : Hp) : Bool → Addr → List V → Prop
  | frz {k : Bool} {a : Addr} {o : Obj} {xs : List V} (h : H a = some (.frz o (.tup xs))) (d : o.dict = none) : TupAt H k a xs
  | big {k : Bool} {a : Addr} {xs : List V} (h : H a = some (.tup xs)) (l : 4 < xs.length) : TupAt H k a xs
  | any {a : Addr} {xs : List V} (h : H a = some (.tup xs)) : TupAt H false a xs
mutual
/-- m: dicts (true) or lists (false) stand in it; z: an address that it keeps away from; k: its own tuple is known -/
inductive Dv (m : Bool) (z : Addr) (H : Hp) : Bool → V → PyData → Prop
  | non {k : Bool} : Dv m z H k .non .none
  | bl {k : Bool} (b : Bool) : Dv m z H k (.bl b) (.bool b)
  | int {k : Bool} (i : Int) : Dv m z H k (.int i) (.int i)
  | str {k : Bool} (x : Str) : Dv m z H k (.str x) (.str x)
  | lst {k : Bool} {a : Addr} {xs : List V} {ds : List PyData} (hm : m = false) (ne : a ≠ z) (h : H a = some (.lst xs)) (t : DvL m z H false xs ds) : Dv m z H k (.ref a) (.list ds)
  | tup {k : Bool} {a : Addr} {xs : List V} {ds : List PyData} (ne : a ≠ z) (h : TupAt H k a xs) (t : DvL m z H true xs ds) : Dv m z H k (.ref a) (.tuple ds)
  | dct {k : Bool} {a : Addr} (hm : m = true) (ne : a ≠ z) (h : H a = some (.dK [])) : Dv m z H k (.ref a) (.dict [])
inductive DvL (m : Bool) (z : Addr) (H : Hp) : Bool → List V → List PyData → Prop
  | nil {k : Bool} : DvL m z H k [] []
  | cons {k : Bool} {v : V} {vs : List V} {d : PyData} {ds : List PyData} (a : Dv m z H k v d) (t : DvL m z H k vs ds) : DvL m z H k (v :: vs) (d :: ds)
end
theorem TupAt.weak {H : Hp} {k : Bool} {a : Addr} {xs : List V} (h : TupAt H k a xs) : TupAt H false a xs := by
  cases h with
  | frz h d => exact .frz h d
  | big h l => exact .any h
  | any h => exact .any h
theorem TupAt.sq {K : PySem.W.Frag} {H : Hp} {k : Bool} {a : Addr} {xs : List V} (h : TupAt H k a xs) : SqT K H a xs := by
  cases h with
  | frz h d => exact .inl (.inr ⟨_, h⟩)
  | big h l => exact .inl (.inl h)
  | any h => exact .inl (.inl h)
/-- (any object) -/
def NoT (_ : HO) : Prop := True
theorem NoT.lst {xs : List V} : NoT (.lst xs) := trivial
theorem NoT.tup {xs : List V} : NoT (.tup xs) := trivial
theorem NoT.dK {kvs : List (Key × V)} : NoT (.dK kvs) := trivial
theorem NoT.frz {o : Obj} {u : HO} : NoT (.frz o u) := trivial
/-- all but z stands -/
def But (z : Addr) (H G : Hp) : Prop := ∀ b o, b ≠ z → NoT o → H b = some o → G b = some o
/-- all stands -/
def Sam (H G : Hp) : Prop := ∀ b o, NoT o → H b = some o → G b = some o
theorem Sam.refl (H : Hp) : Sam H H := fun _ _ _ e => e
theorem Sam.of {H G : Hp} (s : Same H G) : Sam H G := fun b o _ e => s b o e
theorem Sam.trans {H G F : Hp} (a : Sam H G) (b : Sam G F) : Sam H F := fun c o n e => b c o n (a c o n e)
theorem Sam.but {H G : Hp} {z : Addr} (s : Sam H G) : But z H G := fun b o _ n e => s b o n e
theorem But.of {H G : Hp} {z : Addr} (s : Same H G) : But z H G := fun b o _ _ e => s b o e
theorem But.refl (z : Addr) (H : Hp) : But z H H := fun _ _ _ _ e => e
theorem But.trans {z : Addr} {H G F : Hp} (a : But z H G) (b : But z G F) : But z H F := fun c o n t e => b c o n t (a c o n t e)
theorem But.upd {z : Addr} {H : Hp} {o : HO} : But z H (L2.upd H z o) := fun b u n _ e => (upd_ne n).trans e
theorem But.new {z p : Addr} {H : Hp} {o : HO} (f : H p = none) : But z H (L2.upd H p o) := fun b u _ _ e => (upd_ne (ne_of_none e f)).trans e
theorem same_new {p : Addr} {H : Hp} {o : HO} (f : H p = none) : Same H (L2.upd H p o) := fun b u e => (upd_ne (ne_of_none e f)).trans e
theorem TupAt.to {H G : Hp} {z : Addr} {k : Bool} {a : Addr} {xs : List V} (e : But z H G) (ne : a ≠ z) (h : TupAt H k a xs) : TupAt G k a xs := by
  cases h with
  | frz h d => exact .frz (e _ _ ne NoT.frz h) d
  | big h l => exact .big (e _ _ ne NoT.tup h) l
  | any h => exact .any (e _ _ ne NoT.tup h)
section
variable {m : Bool} {z : Addr} {H G : Hp}
mutual
theorem Dv.to (e : But z H G) : ∀ (k : Bool) (d : PyData) (v : V), Dv m z H k v d → Dv m z G k v d
  | _, .none, _, h => by cases h; exact .non
  | _, .bool _, _, h => by cases h; exact .bl _
  | _, .int _, _, h => by cases h; exact .int _
  | _, .str _, _, h => by cases h; exact .str _
  | _, .list ds, _, h => by
    cases h with
    | lst hm ne h t => exact .lst hm ne (e _ _ ne NoT.lst h) (DvL.to e _ ds _ t)
  | _, .tuple ds, _, h => by
    cases h with
    | tup ne h t => exact .tup ne (h.to e ne) (DvL.to e _ ds _ t)
  | _, .dict _, _, h => by
    cases h with
    | dct hm ne h => exact .dct hm ne (e _ _ ne NoT.dK h)
theorem DvL.to (e : But z H G) : ∀ (k : Bool) (ds : List PyData) (vs : List V), DvL m z H k vs ds → DvL m z G k vs ds
  | _, [], _, h => by cases h; exact .nil
  | _, d :: ds, _, h => by
    cases h with
    | cons a t => exact .cons (Dv.to e _ d _ a) (DvL.to e _ ds _ t)
end
theorem Dv.weak {k : Bool} {v : V} {d : PyData} (h : Dv m z H k v d) : Dv m z H false v d := by
  cases h with
  | non => exact .non
  | bl b => exact .bl b
  | int i => exact .int i
  | str x => exact .str x
  | lst hm ne h t => exact .lst hm ne h t
  | tup ne h t => exact .tup ne h.weak t
  | dct hm ne h => exact .dct hm ne h
theorem DvL.weak {k : Bool} : ∀ {vs : List V} {ds : List PyData}, DvL m z H k vs ds → DvL m z H false vs ds
  | _, _, .nil => .nil
  | _, _, .cons a t => .cons a.weak t.weak
theorem DvL.len {k : Bool} : ∀ {vs : List V} {ds : List PyData}, DvL m z H k vs ds → vs.length = ds.length
  | _, _, .nil => rfl
  | _, _, .cons _ t => congrArg Nat.succ t.len
theorem DvL.at {k : Bool} : ∀ {vs : List V} {ds : List PyData} {i : Nat} {d : PyData}, DvL m z H k vs ds → ds[i]? = some d → ∃ v, vs[i]? = some v ∧ Dv m z H k v d
  | _, _, _, _, .nil, e => absurd e (by simp)
  | _, _, 0, _, .cons a _, e => by simp at e; subst e; exact ⟨_, rfl, a⟩
  | _, _, i + 1, _, .cons _ t, e => by
    obtain ⟨v, h1, h2⟩ := DvL.at (i := i) t (by simpa using e)
    exact ⟨v, by simpa using h1, h2⟩
theorem DvL.at' {k : Bool} : ∀ {vs : List V} {ds : List PyData} {i : Nat} {v : V}, DvL m z H k vs ds → vs[i]? = some v → ∃ d, ds[i]? = some d ∧ Dv m z H k v d
  | _, _, _, _, .nil, e => absurd e (by simp)
  | _, _, 0, _, .cons a _, e => by simp at e; subst e; exact ⟨_, rfl, a⟩
  | _, _, i + 1, _, .cons _ t, e => by
    obtain ⟨v, h1, h2⟩ := DvL.at' (i := i) t (by simpa using e)
    exact ⟨v, by simpa using h1, h2⟩
theorem DvL.app {k : Bool} : ∀ {vs ws : List V} {ds es : List PyData}, DvL m z H k vs ds → DvL m z H k ws es → DvL m z H k (vs ++ ws) (ds ++ es)
  | _, _, _, _, .nil, h => h
  | _, _, _, _, .cons a t, h => .cons a (t.app h)
theorem DvL.take {k : Bool} : ∀ {vs : List V} {ds : List PyData} (n : Nat), DvL m z H k vs ds → DvL m z H k (vs.take n) (ds.take n)
  | _, _, 0, _ => by rw [List.take_zero, List.take_zero]; exact .nil
  | _, _, _ + 1, .nil => .nil
  | _, _, n + 1, .cons a t => .cons a (t.take n)
theorem DvL.drop {k : Bool} : ∀ {vs : List V} {ds : List PyData} (n : Nat), DvL m z H k vs ds → DvL m z H k (vs.drop n) (ds.drop n)
  | _, _, 0, h => h
  | _, _, _ + 1, .nil => .nil
  | _, _, n + 1, .cons _ t => t.drop n
end
section
variable {X : Cx} {pins : List (Addr × Obj)} {σ : L2.St} {H : Hp} {s : Shared} {m : Bool} {z : Addr}
theorem vals_list {a : Addr} {xs : List V} (I : Inv X pins σ H s) (h : H a = some (.lst xs)) : ∃ o vs n, s.heap.get? a = some o ∧ o.cls = .type "list" ∧ o.data = .seq vs n ∧ Vals xs vs.toList := by
  obtain ⟨_, its, n, r, e⟩ := I.hok a _ h
  exact ⟨_, its.toArray, n, e, rfl, rfl, by simpa using r⟩
theorem TupAt.obj {k : Bool} {a : Addr} {xs : List V} (I : Inv X pins σ H s) (h : TupAt H k a xs) : xs.length ≤ sizeLine ∧ ∃ its : List Value, Vals xs its ∧ IsTup s.heap a its.toArray := by
  cases h with
  | frz h d => exact (I.hok _ _ h).2
  | big h l => exact I.hok _ _ h
  | any h => exact I.hok _ _ h
mutual
theorem Dv.rd (I : Inv X pins σ H s) : ∀ (k : Bool) (d : PyData) (v : V) (u : Value), Dv m z H k v d → RelV v u → ∃ as, Reads s.heap u d as ∧ (m = true → sysModules ∉ as)
  | _, .none, _, _, h, r => by cases h; cases r; exact ⟨_, .none, fun _ => List.not_mem_nil⟩
  | _, .bool b, _, _, h, r => by cases h; cases r; exact ⟨_, .bool b, fun _ => List.not_mem_nil⟩
  | _, .int i, _, _, h, r => by
    cases h
    obtain ⟨t, rfl⟩ := r
    exact ⟨_, .int i t, fun _ => List.not_mem_nil⟩
  | _, .str x, _, _, h, r => by
    cases h
    obtain ⟨t, rfl⟩ := r
    exact ⟨_, .str x t, fun _ => List.not_mem_nil⟩
  | _, .list ds, _, _, h, r => by
    cases h with
    | lst hm ne h t =>
      cases r
      obtain ⟨o, vs, n, e1, e2, e3, rv⟩ := vals_list I h
      obtain ⟨as, q, _⟩ := DvL.rd I _ ds _ _ t rv
      exact ⟨_, .list e1 e2 e3 q, fun e => absurd (hm.symm.trans e) (by decide)⟩
  | _, .tuple ds, _, _, h, r => by
    cases h with
    | tup ne h t =>
      cases r
      obtain ⟨_, its, rv, o, e1, e2, n, e3⟩ := h.obj I
      obtain ⟨as, q, kk⟩ := DvL.rd I _ ds _ its t rv
      exact ⟨_, .tuple e1 e2 e3 (by simpa using q), kk⟩
  | _, .dict kvs, _, _, h, r => by
    cases h with
    | @dct _ a hm ne h =>
      cases r
      obtain ⟨_, lo, vs, rel, o, es, n, e1, e2, e3, _, e4, _⟩ := I.hok _ _ h
      cases rel
      obtain ⟨l⟩ := es
      have e5 : l = [] := by
        cases l with
        | nil => rfl
        | cons x l => cases e4
      subst e5
      refine ⟨[a] ++ [], .dict (as := []) (bs := []) e1 e2.1 e3 .nil .nil, fun _ hm => ?_⟩
      rw [List.append_nil, List.mem_singleton] at hm
      subst hm
      simp at lo
theorem DvL.rd (I : Inv X pins σ H s) : ∀ (k : Bool) (ds : List PyData) (vs : List V) (us : List Value), DvL m z H k vs ds → Vals vs us → ∃ as, ReadsAll s.heap us ds as ∧ (m = true → sysModules ∉ as)
  | _, [], _, _, h, r => by cases h; cases r; exact ⟨_, .nil, fun _ => List.not_mem_nil⟩
  | _, d :: ds, _, _, h, r => by
    cases h with
    | cons a t =>
      cases r with
      | cons r1 r2 =>
        obtain ⟨as, q1, k1⟩ := Dv.rd I _ d _ _ a r1
        obtain ⟨bs, q2, k2⟩ := DvL.rd I _ ds _ _ t r2
        exact ⟨_, .cons q1 q2, fun e hm => (List.mem_append.mp hm).elim (k1 e) (k2 e)⟩
end
mutual
theorem Dv.nod (e : m = false) : ∀ (k : Bool) (d : PyData) (v : V), Dv m z H k v d → d.hasDict = false
  | _, .none, _, _ => by simp only [PyData.hasDict]
  | _, .bool _, _, _ => by simp only [PyData.hasDict]
  | _, .int _, _, _ => by simp only [PyData.hasDict]
  | _, .str _, _, _ => by simp only [PyData.hasDict]
  | _, .list ds, _, h => by
    cases h with
    | lst hm ne h t => simp only [PyData.hasDict]; exact DvL.nod e _ ds _ t
  | _, .tuple ds, _, h => by
    cases h with
    | tup ne h t => simp only [PyData.hasDict]; exact DvL.nod e _ ds _ t
  | _, .dict _, _, h => by
    cases h with
    | dct hm ne h => exact absurd (hm.symm.trans e) (by decide)
theorem DvL.nod (e : m = false) : ∀ (k : Bool) (ds : List PyData) (vs : List V), DvL m z H k vs ds → PyData.hasDictAll ds = false
  | _, [], _, _ => by simp only [PyData.hasDictAll]
  | _, d :: ds, _, h => by
    cases h with
    | cons a t => simp only [PyData.hasDictAll, Dv.nod e _ d _ a, DvL.nod e _ ds _ t, Bool.or_self]
end
/-- what can be written out -/
structure Shw (d : PyData) : Prop where
  sh : d.showable = true
  dp : d.depth ≤ 10
  sz : d.shown.length ≤ sizeLine
def rRepr : List V → Hp → VK → Prop := fun xs H Q => ∃ (m : Bool) (z : Addr) (v : V) (d : PyData), xs = [v] ∧ Dv m z H false v d ∧ Shw d ∧ Q (.str d.shown) H
theorem call_repr (hg : X.A.guards = some []) (hu : X.A.units + 64 < cLine) : CallR X (.builtin "repr") rRepr := by
  intro pins s σ H xs us Q I r h; skip
  obtain ⟨m, z, v, d, rfl, hd, S, q⟩ := h
  obtain ⟨u, rfl, ru⟩ := vals1 r; skip
  obtain ⟨as, rd, lo⟩ := Dv.rd I _ d v u hd ru
  have fin : ∀ (a : Addr), u = .ref a → wpAny (model X.prog X.w) X.A (call (.builtin "repr") [u]) (EP X pins σ Q) X.xe s := fun a e => by
    subst e
    refine repr_of_reads' rd S.sh (fun hd2 => ?_) hg (by have := S.dp; omega) (fun _ _ e => e) (fun h' w tk k => ?_) S.sz
    · cases m with
      | true => exact lo rfl
      | false => exact absurd (hd2.symm.trans (Dv.nod rfl _ d v hd)) (by decide)
    · exact ⟨.str d.shown, H, I.kept k, ⟨w, rfl⟩, q⟩
  cases rd with
  | none => exact P.repr_of_none ⟨.str _, H, I.tok _, ⟨_, rfl⟩, by simpa only [PyData.shown] using q⟩
  | bool b => exact P.repr_of_bool ⟨.str _, H, I.tok _, ⟨_, rfl⟩, by cases b <;> simpa only [PyData.shown] using q⟩
  | int i t =>
    have e : decide (i.natAbs.log2 < 1920) = true := by simpa only [PyData.showable] using S.sh
    exact P.repr_of_int (of_decide_eq_true e) ⟨.str _, H, I.tok _, ⟨_, rfl⟩, by simpa only [PyData.shown] using q⟩
  | str x t => exact P.repr_of_str ⟨.str _, H, I.tok _, ⟨_, rfl⟩, by simpa only [PyData.shown] using q⟩ (by simpa only [PyData.shown] using S.sz)
  | list => exact fin _ rfl
  | tuple => exact fin _ rfl
  | dict => exact fin _ rfl
end
end Pl

namespace Pl
open L2 PySem PySem.Spec PyProof.Rows
/-- as FnOk, at places where nothing is being written out -/
structure FnG (P : Program) (w : World) (K : PySem.W.Frag) (mg : Str → Option Value) (base : Heap) (k : Nat) (f : Addr) (fd : FuncData) (ps : List Str) (sp : Sp) : Prop where
  len : ∀ us H Q E, sp us H Q E → us.length = ps.length
  run : ∀ (A : Around) (outer : List Env) (s : Shared) (H : Hp) (args : Args) (us : List Value) (vs : List V) (Q : VK) (E : XK), A.guards = some [] → Room k A → Env0 P w K mg base A outer s H → BindsTo s fd args (ps.zip us) → Vals vs us → sp vs H Q E →
    codeAny (model P w) A (.call (.ref f) args) (CR CX0 outer P w H s Q E) s
section
variable {P : Program} {K : PySem.W.Frag} {w : World} {base : Heap} {mg : Str → Option Value}
theorem okG0 {x qual : Str} {st : Stmt} {f : Addr} {N ps : List Str} {k : Nat} {sp : Sp} {oc kV doc pm cdv ct : Value} {od an : Option Addr} {osl : Array (Option Value)} (lk : K.lookup f = some ⟨oc, od, .func (PySem.W.fnOf x qual (defArgs st) (defBody st) (defScope st) .none kV doc pm an cdv ct), osl⟩) (hcd : PySem.W.codeIn K cdv qual = true)
    (S : FnScope N ps (defScope st)) (len : ∀ vs H Q E, sp vs H Q E → vs.length = ps.length)
    (walk : ∀ (A : Around) (outer : List Env) (s : Shared) (H : Hp) (vs : List V) (Q : VK) (E : XK), A.guards = some [] → Room k (A.deeper (envOfC qual (defScope st) s.heap.objs.size f cdv)) → sp vs H Q E →
      ∃ t, PSs (cxOf CX0 P w K mg base N qual (defScope st) f cdv A outer s H E).nox (defBody st) t ∧ t { nx := fun _ H' => Q .non H', rt := Q } (start N vs) H) : FnG P w K mg base (k + 1) f (PySem.W.fnOf x qual (defArgs st) (defBody st) (defScope st) .none kV doc pm an cdv ct) ps sp := by
  refine ⟨len, ?_⟩
  intro A outer s H args us vs Q E hg room env bind rel want
  have kin : K.In s.heap := env.mod.kin.keeps fun b o e => (env.bs b o e).1
  have nol : s.heap.NoLimit := env.mod.nolimit.keeps fun b o e => (env.bs b o e).1
  obtain ⟨t, ht, goal⟩ := walk A outer s H vs Q E hg (room.deeper _) want
  refine codeAny_call_function room.depth (kin _ _ lk) rfl S.co S.gen rfl (PySem.W.codeRec_of kin hcd) (bind _ _ _ _ (wpAny_newFunctionEnv_cells S.kind (fun y hy => ?_) fun env' ee s1 made => ?_))
  · rcases S.par y.1 (List.of_mem_zip (a := y.1) (b := y.2) hy).1 with h | h
    · exact .inl h
    · exact .inr ⟨h, PySem.W.cellsFrom_some _ _ _ (.inl h)⟩
  · subst ee
    refine ⟨nol.keeps made.toInCall.keep, codeAny_func (wpAny_mono (ht.nox.run [] s1 (start N vs) H _ (inv_start S room.hd env (len _ _ _ _ want) rel made) goal) ?_ fun _ _ h => h)⟩
    intro fl s2 h
    match fl, h with
    | .ret u, ⟨v, σ2, H2, J, rv, q⟩ => exact ⟨v, H2, J.os, J.bare, J.base, J.hok, rv, q⟩
    | .next, ⟨σ2, H2, J, q⟩ => exact ⟨V.non, H2, J.os, J.bare, J.base, J.hok, rfl, q⟩
    | .brk, ⟨_, _, _, q⟩ => exact q.elim
    | .cont, ⟨_, _, _, q⟩ => exact q.elim
theorem okG {x qual : Str} {st : Stmt} {f : Addr} {fd : FuncData} {N ps : List Str} {k : Nat} {sp : Sp} (F : Fun K x qual st f fd) (S : FnScope N ps (defScope st)) (len : ∀ vs H Q E, sp vs H Q E → vs.length = ps.length)
    (walk : ∀ (cdv : Value) (A : Around) (outer : List Env) (s : Shared) (H : Hp) (vs : List V) (Q : VK) (E : XK), A.guards = some [] → Room k (A.deeper (envOfC qual (defScope st) s.heap.objs.size f cdv)) → sp vs H Q E →
      ∃ t, PSs (cxOf CX0 P w K mg base N qual (defScope st) f cdv A outer s H E).nox (defBody st) t ∧ t { nx := fun _ H' => Q .non H', rt := Q } (start N vs) H) : FnG P w K mg base (k + 1) f fd ps sp := by
  obtain ⟨oc, od, kV, doc, pm, an, cdv, ct, osl, rfl, lk, hcd⟩ := F.ex; skip
  exact okG0 lk hcd S len fun A outer s H vs Q E => walk cdv A outer s H vs Q E
/-- a def whose code object is known -/
structure FunC (K : PySem.W.Frag) (x qual : Str) (st : Stmt) (f c : Addr) (fd : FuncData) : Prop where
  ex : ∃ (oc : Value) (od : Option Addr) (kV doc pm : Value) (an : Option Addr) (ct : Value) (osl : Array (Option Value)),
    fd = PySem.W.fnOf x qual (defArgs st) (defBody st) (defScope st) .none kV doc pm an (.ref c) ct ∧ K.lookup f = some ⟨oc, od, .func fd, osl⟩ ∧ PySem.W.codeIn K (.ref c) qual = true
theorem okC {x qual : Str} {st : Stmt} {f c : Addr} {fd : FuncData} {N ps : List Str} {k : Nat} {sp : Sp} (F : FunC K x qual st f c fd) (S : FnScope N ps (defScope st)) (len : ∀ vs H Q E, sp vs H Q E → vs.length = ps.length)
    (walk : ∀ (A : Around) (outer : List Env) (s : Shared) (H : Hp) (vs : List V) (Q : VK) (E : XK), A.guards = some [] → Room k (A.deeper (envOfC qual (defScope st) s.heap.objs.size f (.ref c))) → sp vs H Q E →
      ∃ t, PSs (cxOf CX0 P w K mg base N qual (defScope st) f (.ref c) A outer s H E).nox (defBody st) t ∧ t { nx := fun _ H' => Q .non H', rt := Q } (start N vs) H) : FnG P w K mg base (k + 1) f fd ps sp := by
  obtain ⟨oc, od, kV, doc, pm, an, ct, osl, rfl, lk, hcd⟩ := F.ex
  exact okG0 lk hcd S len walk
end
section
variable {X : Cx} {k i : Nat} {f : Addr} {fd : FuncData} {ps : List Str} {sp : Sp} {x : Str} {p pos : Pos} {e : Expr} {es : List Expr} {t : TA}
def tCallG (sp : Sp) (t : TA) : TE := fun σ H Q => t σ H fun vs H1 => sp vs H1 Q (fun _ _ _ => True)
theorem pe_callG (F : FnG X.prog X.w X.K X.mg X.base k f fd ps sp) (hgd : X.A.guards = some []) (hr : Room k X.A) (hg : Gl X x) (hm : X.mg x = some (.ref f)) (hk : PySem.W.keepIn X.K (.ref f) = true) (hb : Binds X.K fd ps []) (ha : PA X (e :: es) t)
    (hdb : ((x == ("__debug__" : Str)) = false) := by decide) (he : starEach (e :: es) X.env = (false, eval e X.env) :: starEach es X.env := by rfl) (hpl : (backTo pos (starEach es X.env)).any (·.1) = false := by rfl) :
    PE X (.Call (.Name x p) (e :: es) [] pos) (tCallG sp t) := by
  constructor
  intro pins s σ H Q I h
  refine wpAny_Call_Name_kw (ld_glob I hg hm (PySem.W.callWith_K (h₀ := X.base) I.ok.mod.kin hk (thn (ha.run pos pins s σ H _ I h) ?_) he hpl) hdb)
  rintro us s1 ⟨vs, H1, I1, r, q⟩
  refine ⟨I1.kIn, ?_⟩
  have hl : us.length = ps.length := r.length.symm.trans (F.len _ _ _ _ q)
  have b := hb s1 us I1.kIn (by rw [List.append_nil]; exact hl)
  rw [List.append_nil] at b
  refine wpAny_call (codeAny_mono (F.run X.A X.stack s1 H1 ⟨us, []⟩ us vs Q _ hgd hr I1.env0 b r q) ?_)
  intro r s2 hq
  match r, hq with
  | .error _, hq => exact False.elim hq
  | .ok (.ret u), hq => exact I1.after hq
  | .ok .next, hq => exact False.elim hq
  | .ok .brk, hq => exact False.elim hq
  | .ok .cont, hq => exact False.elim hq
/-- a def that may raise, held by a local name -/
structure HeldX (P : Program) (w : World) (K : PySem.W.Frag) (mg : Str → Option Value) (base : Heap) (k : Nat) (f : Addr) (sp : Sp) : Prop where
  ex : ∃ (fd : FuncData) (ps : List Str), FnOk P w K mg base (L2.CX P w) k f fd ps sp ∧ PySem.W.keepIn K (.ref f) = true ∧ Binds K fd ps []
def tCallHX (Hd : Addr → Sp → Prop) (i : Nat) (E : L2.St → XK) (t : TA) : TE := fun σ H Q => ∃ f sp, σ[i]? = some (some (.ref f)) ∧ Hd f sp ∧ t σ H fun vs H1 => sp vs H1 Q (E σ)
theorem pe_callHX {E : L2.St → XK} (hr : Room k X.A) (hN : X.N[i]? = some x) (hv : Vis X.env.scope x) (hx : ∀ σ, PassesAt (L2.CX X.prog X.w) X σ (E σ)) (ha : PA X (e :: es) t) (hdb : (x == ("__debug__" : Str)) = false := by decide) (hcd : (x == ("__classdict__" : Str)) = false := by decide)
    (he : (starEach (e :: es) X.env = (false, eval e X.env) :: starEach es X.env) := by rfl) (hpl : ((backTo pos (starEach es X.env)).any (·.1) = false) := by rfl) :
    PE X (.Call (.Name x p) (e :: es) [] pos) (tCallHX (HeldX X.prog X.w X.K X.mg X.base k) i E t) := by
  constructor
  rintro pins s σ H Q I ⟨f, sp, hs, hH, ht⟩
  obtain ⟨fd, ps, F, hk, hb⟩ := hH.ex
  refine wpAny_Call_Name_kw (thn ((pe_var (pos := p) hN hv hdb hcd).run pins s σ H (fun v H1 => v = .ref f ∧ H1 = H) I ⟨.ref f, hs, rfl, rfl⟩) ?_)
  rintro u s1 ⟨v, H1, I1, r1, rfl, rfl⟩
  cases r1
  exact PySem.W.callWith_K (h₀ := X.base) I.ok.mod.kin hk (thn (ha.run pos pins s1 σ _ _ I1 ht) fun us s2 ⟨vs, H2, I2, r, q⟩ => ⟨I2.kIn, run_fnS F hr hb (hx σ) I2 r q⟩) he hpl
/-- isinstance(the caught error, its own class) -/
def rIsX (a : Addr) (cls : Value) (d : Option Addr) (C : Addr) : List V → Hp → VK → Prop := fun xs H Q => xs = [.ref a, .ref C] ∧ cls = .ref C ∧ (∃ (dd : Addr) (fs : List (Str × V)), d = some dd ∧ H dd = some (.xd fs)) ∧ Q (.bl true) H
theorem call_isX {a C : Addr} {oe : Obj} {cls : Value} {d : Option Addr} {pn : List (Addr × Obj)} (hz : Zc cls d oe) (hf : ∃ vs, oe.data = .fields vs) : CallR (X.suite a ((a, oe) :: pn)) (.builtin "isinstance") (rIsX a cls d C) := by
  rintro pins s σ H xs us Q I r ⟨rfl, rfl, ⟨dd, fs, rfl, hd⟩, q⟩
  obtain ⟨u1, u2, rfl, r1, r2⟩ := vals2 r; skip
  obtain rfl : u1 = Value.ref a := r1
  obtain rfl : u2 = Value.ref C := r2
  obtain ⟨ha, _⟩ := I.pin (a, oe) (List.mem_append_left _ List.mem_cons_self)
  obtain ⟨vs, hv⟩ := hf
  obtain ⟨mA, hns, hr⟩ : ObjOk X.prog X.w H s.heap dd (.xd fs) := I.hok dd _ hd
  obtain ⟨od, ho, hl⟩ := lookIn_ns hns; skip
  have J : PySem.W.InstAt s.heap a oe C (some od) := ⟨ha, hz.1, by unfold PySem.W.notCls; rw [hv] <;> rfl, by rw [hz.2]; exact ho⟩
  refine call_isinstance (S := fun _ R s2 => s2 = s ∧ R (.ok (.ret (.bool true))) s2) ?_ ⟨rfl, .bl true, H, I, rfl, q⟩
  rintro prog w A R s2 ⟨rfl, hR⟩
  refine isinstance_outer ?_ (fun z => by cases z)
  unfold Builtin.«isinstance.nested»; skip
  refine wpAny_bind ((J.type (M := model prog w)).at ?_)
  rw [if_pos (beq_self_eq_true _)]; skip
  first
    | exact wpAny_bind (wpAny_rule (hR))
    | exact wpAny_bind (wpAny_rule (wpAny_pure hR))
    | exact wpAny_pure hR
end
end Pl

namespace Pl
open L2 PySem PySem.Spec PyProof.Rows
/-! ### the text by places -/
def top (i : Nat) : Stmt := PySem.Challenge.pw_plainstore_k25_counts_of_reads.main.body.getD i (.Pass ⟨0, 0, 0, 0⟩)
abbrev sInit : Stmt := inClass (top 2) 0
abbrev sIsNumber : Stmt := top 4
abbrev sIsWithin : Stmt := top 5
abbrev sCommon : Stmt := top 8
abbrev sSafe : Stmt := top 11
abbrev sLost : Stmt := top 12
abbrev sUnruly : Stmt := top 13
abbrev sCounts : Stmt := top 14
abbrev sCheck : Stmt := top 15
abbrev sPool : Stmt := top 17
abbrev sTake : Stmt := top 18
abbrev sOne : Stmt := top 19
abbrev sLots : Stmt := top 20
abbrev sTried : Stmt := top 21
abbrev sLSafe : Stmt := top 22
abbrev sRight : Stmt := top 23
abbrev sRefused : Stmt := top 24
abbrev sLaw : Stmt := top 25
/-- what the top has left of constants and built-ins -/
structure Cst (mg : Str → Option Value) : Prop where
  isi : mg "isinstance" = none
  len : mg "len" = none
  tint : mg "int" = none
  tbool : mg "bool" = none
  ttup : mg "tuple" = none
  srt : mg "sorted" = none
  rng : mg "range" = none
  max_ : mg "max" = none
  min_ : mg "min" = none
  rpr : mg "repr" = none
  copies : ∃ t, mg "MOST_COPIES" = some (.int 5 t)
  pages : ∃ t, mg "MOST_PAGES" = some (.int 6 t)
/-- a def of the text as its callers see it -/
structure Df (P : Program) (w : World) (K : PySem.W.Frag) (mg : Str → Option Value) (base : Heap) (k : Nat) (x : Str) (ps : List Str) (sp : Sp) : Prop where
  ex : ∃ (f : Addr) (fd : FuncData), FnOk P w K mg base CX0 k f fd ps sp ∧ mg x = some (.ref f) ∧ PySem.W.keepIn K (.ref f) = true ∧ Binds K fd ps []
/-- one that may raise -/
structure DfX (P : Program) (w : World) (K : PySem.W.Frag) (mg : Str → Option Value) (base : Heap) (k : Nat) (x : Str) (ps : List Str) (sp : Sp) : Prop where
  ex : ∃ (f : Addr) (fd : FuncData), FnOk P w K mg base (L2.CX P w) k f fd ps sp ∧ mg x = some (.ref f) ∧ PySem.W.keepIn K (.ref f) = true ∧ Binds K fd ps []
/-- a flat value and what it is -/
inductive Fl : V → PyData → Prop
  | non : Fl .non .none
  | bl (b : Bool) : Fl (.bl b) (.bool b)
  | int (i : Int) : Fl (.int i) (.int i)
  | str (x : Str) : Fl (.str x) (.str x)
theorem Fl.dv {v : V} {d : PyData} {m : Bool} {z : Addr} {H : Hp} {k : Bool} (h : Fl v d) : Dv m z H k v d := by
  cases h with
  | non => exact .non
  | bl b => exact .bl b
  | int i => exact .int i
  | str x => exact .str x
def kindOf : PyData → String
  | .none => "NoneType"
  | .bool _ => "bool"
  | .int _ => "int"
  | _ => "str"
theorem Fl.ty {K : PySem.W.Frag} {H : Hp} {v : V} {d : PyData} (h : Fl v d) : TyX K H v (.type (kindOf d)) := by
  cases h with
  | non => exact .base .non
  | bl b => exact .base (.bl b)
  | int i => exact .base (.int i)
  | str x => exact .base (.str x)
def isIB : PyData → Bool
  | .int _ => true
  | .bool _ => true
  | _ => false
theorem kit_int {K : PySem.W.Frag} {v : V} {d : PyData} (h : Fl v d) : PySem.W.kitOne K (.type (kindOf d)) (.type "int") = some (isIB d) := by
  cases h with
  | non => exact kit_ty (show kitB "NoneType" "int" = some false from by decide +kernel)
  | bl b => exact kit_ty (show kitB "bool" "int" = some true from by decide +kernel)
  | int i => exact kit_ty (show kitB "int" "int" = some true from by decide +kernel)
  | str x => exact kit_ty (show kitB "str" "int" = some false from by decide +kernel)
def isB : PyData → Bool
  | .bool _ => true
  | _ => false
theorem kit_bool {K : PySem.W.Frag} {v : V} {d : PyData} (h : Fl v d) : PySem.W.kitOne K (.type (kindOf d)) (.type "bool") = some (isB d) := by
  cases h with
  | non => exact kit_ty (show kitB "NoneType" "bool" = some false from by decide +kernel)
  | bl b => exact kit_ty (show kitB "bool" "bool" = some true from by decide +kernel)
  | int i => exact kit_ty (show kitB "int" "bool" = some false from by decide +kernel)
  | str x => exact kit_ty (show kitB "str" "bool" = some false from by decide +kernel)
def isNum : PyData → Bool
  | .int _ => true
  | _ => false
def within (d : PyData) (lo hi : Int) : Bool := match d with
  | .int i => decide (lo ≤ i) && decide (i ≤ hi)
  | _ => false
theorem within_no {d : PyData} {lo hi : Int} (h : isNum d = false) : within d lo hi = false := by
  cases d <;> first | rfl | cases h
theorem within_inv {v : V} {d : PyData} {lo hi : Int} (f : Fl v d) (h : within d lo hi = true) : ∃ i, v = .int i ∧ d = .int i ∧ lo ≤ i ∧ i ≤ hi := by
  cases f with
  | int i =>
    have h' : (decide (lo ≤ i) && decide (i ≤ hi)) = true := h
    rw [Bool.and_eq_true, decide_eq_true_eq, decide_eq_true_eq] at h'
    exact ⟨i, rfl, rfl, h'.1, h'.2⟩
  | non => cases h
  | bl b => cases h
  | str x => cases h
def spN : Sp := fun vs H Q _ => ∃ (v : V) (d : PyData), vs = [v] ∧ Fl v d ∧ Q (.bl (isNum d)) H
def spW : Sp := fun vs H Q _ => ∃ (v : V) (d : PyData) (lo hi : Int), vs = [v, .int lo, .int hi] ∧ Fl v d ∧ Q (.bl (within d lo hi)) H
section
variable {P : Program} {K : PySem.W.Frag} {w : World} {base : Heap} {mg : Str → Option Value} {C fI : Addr}
theorem scIsNumber : FnScope ["value"] ["value"] (defScope sIsNumber) := ⟨rfl, rfl, rfl, by decide +kernel, rfl, by decide +kernel, by decide +kernel⟩
theorem ok_number {f : Addr} {fd : FuncData} (F : Fun K "is_number" "is_number" sIsNumber f fd) (T : Cst mg) : FnOk P w K mg base CX0 1 f fd ["value"] spN := by
  refine F.ok scIsNumber (fun vs H Q E h => ?_) (fun cdv A outer s H vs Q E hr h => ?_)
  · obtain ⟨v, d, rfl, _⟩ := h
    rfl
  · obtain ⟨v, d, rfl, hd, q⟩ := h
    refine ⟨_, pss_one (ps_ret (pe_and (pe_callB call_isi (by rfl) T.isi (by decide +kernel) (pa_cons (pv 0) (pa_cons (pe_bltn (v := .ty "int") (by rfl) T.tint (by decide +kernel) rfl) pa_nil)))
      (pe_one (pe_not (pe_callB call_isi (by rfl) T.isi (by decide +kernel) (pa_cons (pv 0) (pa_cons (pe_bltn (v := .ty "bool") (by rfl) T.tbool (by decide +kernel) rfl) pa_nil))))))), ?_⟩
    refine ⟨_, rfl, v, _, _, _, _, rfl, .ty _, hd.ty, kit_int hd, _, rfl, ?_⟩
    refine ite2 (fun e => ?_) fun e => ?_
    · refine ⟨_, rfl, v, _, _, _, _, rfl, .ty _, hd.ty, kit_bool hd, _, rfl, ?_⟩
      cases hd <;> first | exact q | cases e
    · cases hd <;> first | exact q | exact absurd rfl e
theorem scIsWithin : FnScope ["value", "least", "most"] ["value", "least", "most"] (defScope sIsWithin) := ⟨rfl, rfl, rfl, by decide +kernel, rfl, by decide +kernel, by decide +kernel⟩
theorem ok_within {f : Addr} {fd : FuncData} (F : Fun K "is_within" "is_within" sIsWithin f fd) (D : Df P w K mg base 1 "is_number" ["value"] spN) : FnOk P w K mg base CX0 2 f fd ["value", "least", "most"] spW := by
  obtain ⟨fN, fdN, GN, mN, kN, bN⟩ := D.ex
  refine F.ok scIsWithin (fun vs H Q E h => ?_) (fun cdv A outer s H vs Q E hr h => ?_)
  · obtain ⟨v, d, lo, hi, rfl, _⟩ := h
    rfl
  · obtain ⟨v, d, lo, hi, rfl, hd, q⟩ := h
    refine ⟨_, pss_one (ps_ret (pe_and (pe_call GN hr (by rfl) mN kN bN .nil pass0 (pa_cons (pv 0) pa_nil)) (pe_one (pe_chain op_le op_le (pv 1) (pv 0) (pv 2))))), ?_⟩
    refine ⟨v, rfl, v, d, rfl, hd, ⟨_, rfl, ?_⟩⟩
    refine ite2 (fun e => ?_) fun e => ?_
    · cases hd with
      | int i =>
        refine ⟨_, rfl, _, rfl, _, _, rfl, rfl, _, rfl, ?_⟩; skip
        have q2 : Q (.bl (decide (lo ≤ i) && decide (i ≤ hi))) H := q
        refine ite2 (fun e => ?_) fun e => ?_
        · refine ⟨_, rfl, _, _, rfl, rfl, ?_⟩
          rw [show decide (lo ≤ i) = true from e, Bool.true_and] at q2
          exact q2
        · rw [show decide (lo ≤ i) = false from Bool.eq_false_iff.mpr e, Bool.false_and] at q2
          exact q2
      | non => cases e
      | bl b => cases e
      | str x => cases e
    · rw [within_no (Bool.eq_false_iff.mpr e)] at q
      exact q
/-- what the written part says of the error's class: C, made by the def at fI -/
structure ErrT (K : PySem.W.Frag) (mg : Str → Option Value) (C fI : Addr) : Prop where
  ox : OexC K C
  gC : mg "NoCount" = some (.ref C)
  iC : PySem.W.findIn K (.ref C) "__init__" = some (some (.ref fI))
  tI : PySem.W.typeIn K (.ref fI) = some (.type "function")
  no : PySem.W.findIn K (.ref C) "told" = some none
def spInit (K : PySem.W.Frag) : Sp := fun vs H Q _ => ∃ (a C : Addr) (y : V), vs = [.ref a, y] ∧ OexC K C ∧ PySem.W.findIn K (.ref C) "told" = some none ∧ H a = some (exo a C none) ∧ ∀ dx, H dx = none → dx ≠ a → Q .non (upd (upd H dx (exd dx [("told", y)])) a (exo a C (some dx)))
/-- C(v) leaves -/
def Rais (C : Addr) (v : V) (H : Hp) (E : XK) : Prop := ∀ (d : Addr) (H' : Hp), Same H H' → H' d = some (.xd [("told", v)]) → E (.ref C) (some d) H'
theorem Rais.same {C : Addr} {v : V} {H G : Hp} {E : XK} (r : Rais C v H E) (s : Same H G) : Rais C v G E := fun d H' s' h => r d H' (s.trans s') h
/-- v is checked -/
def Ck (C : Addr) (v : V) (d : PyData) (lo hi : Int) (H : Hp) (E : XK) (G : Prop) : Prop := Fl v d ∧ (within d lo hi = true → G) ∧ (within d lo hi = false → Rais C v H E)
def spCk (C : Addr) : Sp := fun vs H Q E => ∃ (v : V) (d : PyData) (lo hi : Int), vs = [v, .int lo, .int hi] ∧ Ck C v d lo hi H E (Q .non H)
theorem scInit : FnScope ["self", "told"] ["self", "told"] (defScope sInit) := ⟨rfl, rfl, rfl, by decide +kernel, rfl, by decide +kernel, by decide +kernel⟩
theorem ok_init {f : Addr} {fd : FuncData} (F : Fun K "__init__" "NoCount.__init__" sInit f fd) : FnOk P w K mg base CX0 1 f fd ["self", "told"] (spInit K) := by
  refine F.ok scInit (fun vs H Q E h => ?_) (fun cdv A outer s H vs Q E hr h => ?_)
  · obtain ⟨a, C, y, rfl, _⟩ := h
    rfl
  · obtain ⟨a, C, y, rfl, T, no, ha, q⟩ := h
    exact ⟨_, pss_one (ps_ost (pv 0) (pv 1)), y, rfl, .ref a, rfl, a, C, rfl, T, no, .inl ⟨ha, q⟩⟩
theorem scCheck : FnScope ["value", "least", "most"] ["value", "least", "most"] (defScope sCheck) := ⟨rfl, rfl, rfl, by decide +kernel, rfl, by decide +kernel, by decide +kernel⟩
theorem ok_check {f : Addr} {fd fdI : FuncData} (F : Fun K "_check_count" "_check_count" sCheck f fd) (T : ErrT K mg C fI) (GI : FnOk P w K mg base CX0 1 fI fdI ["self", "told"] (spInit K)) (bI : Binds K fdI ["self", "told"] [])
    (D1 : Df P w K mg base 2 "is_within" ["value", "least", "most"] spW) : FnOk P w K mg base (L2.CX P w) 3 f fd ["value", "least", "most"] (spCk C) := by
  obtain ⟨e1, fd1, G1, m1, k1, b1⟩ := D1.ex
  refine F.okX scCheck (fun vs H Q E h => ?_) (fun cdv A outer s H vs Q E hr h => ?_)
  · obtain ⟨v, d, lo, hi, rfl, _⟩ := h
    rfl
  · obtain ⟨v, d, lo, hi, rfl, hd, q1, q2⟩ := h
    refine ⟨_, pss_one (ps_if (pt_not (pt_val (pe_call G1 hr (by rfl) m1 k1 b1 .nil pass0 (pa_cons (pv 0) (pa_cons (pv 1) (pa_cons (pv 2) pa_nil))))))
      (pss_one (ps_raise rfl (takes_of rfl rfl rfl rfl) (pmk_oex T.ox T.iC T.tI GI (hr.mono (by decide)) bI .nil pass0 (by rfl) T.gC (pa_cons (pv 0) pa_nil)))) pss_nil), ?_⟩
    refine ⟨v, rfl, _, rfl, _, rfl, v, d, lo, hi, rfl, hd, ⟨_, rfl, ?_⟩⟩
    refine ite2 (fun e => ?_) fun e => ?_
    · have e2 : within d lo hi = false := by simpa using e
      refine ⟨v, rfl, by simp, fun a ha => ?_⟩
      refine ⟨a, C, v, rfl, T.ox, T.no, upd_same, fun dx hdx ne => ⟨rfl, dx, [(("told" : Str), v)], upd_same, ?_, ?_, ?_⟩⟩
      · rw [upd_ne ne, upd_same]
      · rw [upd_ne ne] at hdx
        exact hdx
      · have hdG : H dx = none := by
          rw [upd_ne ne] at hdx
          exact hdx
        refine q2 e2 dx _ (fun b o hb => ?_) upd_same
        have n1 : b ≠ dx := ne_of_none hb hdG
        have n2 : b ≠ a := ne_of_none hb ha
        rw [upd_ne n1, del_ne n2, upd_ne n2, upd_ne n1, upd_ne n2]
        exact hb
    · have e2 : within d lo hi = true := by simpa using e
      exact q1 e2
/-- five counts, checked one behind another -/
def Cks (C : Addr) (v1 v2 v3 v4 v5 : V) (H : Hp) (E : XK) (G : Int → Int → Int → Int → Int → Prop) : Prop :=
  ∃ d1, Ck C v1 d1 1 5 H E (∀ c, v1 = .int c → 1 ≤ c → c ≤ 5 → ∃ d2, Ck C v2 d2 1 c H E (∀ r, v2 = .int r → 1 ≤ r → r ≤ c → ∃ d3, Ck C v3 d3 1 c H E (∀ w, v3 = .int w → 1 ≤ w → w ≤ c → ∃ d4, Ck C v4 d4 0 c H E (∀ u, v4 = .int u → 0 ≤ u → u ≤ c → ∃ d5, Ck C v5 d5 1 6 H E
    (∀ p, v5 = .int p → 1 ≤ p → p ≤ 6 → G c r w u p)))))
def spCks (C : Addr) (g : Int → Int → Int → Int → Int → Hp → VK → Prop) : Sp := fun vs H Q E => ∃ v1 v2 v3 v4 v5, vs = [v1, v2, v3, v4, v5] ∧ Cks C v1 v2 v3 v4 v5 H E fun c r w u p => g c r w u p H Q
theorem scCounts : FnScope ["count", "reads", "writes", "unruly", "pages"] ["count", "reads", "writes", "unruly", "pages"] (defScope sCounts) := ⟨rfl, rfl, rfl, by decide +kernel, rfl, by decide +kernel, by decide +kernel⟩
theorem ok_counts {f : Addr} {fd : FuncData} (F : Fun K "check_counts" "check_counts" sCounts f fd) (T : Cst mg) (D1 : DfX P w K mg base 3 "_check_count" ["value", "least", "most"] (spCk C)) :
    FnOk P w K mg base (L2.CX P w) 4 f fd ["count", "reads", "writes", "unruly", "pages"] (spCks C fun _ _ _ _ _ H Q => Q .non H) := by
  obtain ⟨e1, fd1, G1, m1, k1, b1⟩ := D1.ex
  obtain ⟨t1, hc⟩ := T.copies
  obtain ⟨t2, hp⟩ := T.pages
  refine F.okX scCounts (fun vs H Q E h => ?_) (fun cdv A outer s H vs Q E hr h => ?_)
  · obtain ⟨v1, v2, v3, v4, v5, rfl, _⟩ := h
    rfl
  · obtain ⟨v1, v2, v3, v4, v5, rfl, d1, f1, q1, r1⟩ := h
    refine ⟨_, pss_cons (ps_expr (pe_call (E := E) G1 hr (by rfl) m1 k1 b1 .nil (passes_call (takes_of rfl rfl rfl rfl) fun _ _ _ _ h => h) (pa_cons (pv 0) (pa_cons pe_int (pa_cons (pe_glob (v := .int 5) (by rfl) hc ⟨_, rfl⟩) pa_nil)))))
      (pss_cons (ps_expr (pe_call (E := E) G1 hr (by rfl) m1 k1 b1 .nil (passes_call (takes_of rfl rfl rfl rfl) fun _ _ _ _ h => h) (pa_cons (pv 1) (pa_cons pe_int (pa_cons (pv 0) pa_nil)))))
      (pss_cons (ps_expr (pe_call (E := E) G1 hr (by rfl) m1 k1 b1 .nil (passes_call (takes_of rfl rfl rfl rfl) fun _ _ _ _ h => h) (pa_cons (pv 2) (pa_cons pe_int (pa_cons (pv 0) pa_nil)))))
      (pss_cons (ps_expr (pe_call (E := E) G1 hr (by rfl) m1 k1 b1 .nil (passes_call (takes_of rfl rfl rfl rfl) fun _ _ _ _ h => h) (pa_cons (pv 3) (pa_cons pe_int (pa_cons (pv 0) pa_nil)))))
      (pss_one (ps_expr (pe_call (E := E) G1 hr (by rfl) m1 k1 b1 .nil (passes_call (takes_of rfl rfl rfl rfl) fun _ _ _ _ h => h) (pa_cons (pv 4) (pa_cons pe_int (pa_cons (pe_glob (v := .int 6) (by rfl) hp ⟨_, rfl⟩) pa_nil))))))))), ?_⟩
    refine ⟨v1, rfl, v1, d1, 1, 5, rfl, f1, fun i1 => ?_, r1⟩
    obtain ⟨c, rfl, _, c0, c1⟩ := within_inv f1 i1
    obtain ⟨d2, f2, q2, r2⟩ := q1 i1 c rfl c0 c1
    refine ⟨v2, rfl, _, rfl, v2, d2, 1, c, rfl, f2, fun i2 => ?_, r2⟩
    obtain ⟨r, rfl, _, c0, c1⟩ := within_inv f2 i2
    obtain ⟨d3, f3, q3, r3⟩ := q2 i2 r rfl c0 c1
    refine ⟨v3, rfl, _, rfl, v3, d3, 1, c, rfl, f3, fun i3 => ?_, r3⟩
    obtain ⟨w, rfl, _, c0, c1⟩ := within_inv f3 i3
    obtain ⟨d4, f4, q4, r4⟩ := q3 i3 w rfl c0 c1
    refine ⟨v4, rfl, _, rfl, v4, d4, 0, c, rfl, f4, fun i4 => ?_, r4⟩
    obtain ⟨u, rfl, _, c0, c1⟩ := within_inv f4 i4
    obtain ⟨d5, f5, q5, r5⟩ := q4 i4 u rfl c0 c1
    refine ⟨v5, rfl, v5, d5, 1, 6, rfl, f5, fun i5 => ?_, r5⟩
    obtain ⟨p, rfl, _, c0, c1⟩ := within_inv f5 i5
    exact q5 i5 p rfl c0 c1
end
end Pl

namespace Pl
open L2 PySem PySem.Spec PyProof.Rows
def rgI (a b : Int) : List Int := (List.range (b - a).toNat).map fun i => a + (i : Nat)
theorem rgV_int (a b : Int) : rgV a b = (rgI a b).map V.int := by
  unfold rgV rgI
  rw [List.map_map]
  rfl
theorem rgI_len (a b : Int) : (rgI a b).length = (b - a).toNat := by
  unfold rgI
  rw [List.length_map, List.length_range]; skip
def com (xs ys : List Int) : List Int := xs.filter fun x => decide (x ∈ ys)
theorem inV_ints (x : Int) : ∀ ys : List Int, inV (.int x) (ys.map V.int) = decide (x ∈ ys)
  | [] => by simp [inV]
  | y :: ys => by
    have ih := inV_ints x ys
    unfold inV at ih ⊢
    rw [List.map_cons, List.any_cons, ih]
    have e : eqV (V.int y) (V.int x) = decide (y = x) := by
      show (y == x) = decide (y = x)
      by_cases h : y = x <;> simp [h]
    rw [e]
    by_cases h : y = x
    · subst h
      simp
    · by_cases h2 : x ∈ ys
      · simp [h, h2]
      · have h3 : ¬ x = y := fun z => h z.symm
        simp [h, h2, h3]
theorem flat_ints (ys : List Int) : (ys.map V.int).all flatV = true := by
  rw [List.all_eq_true]
  intro v hv
  obtain ⟨y, _, rfl⟩ := List.mem_map.mp hv; skip
  rfl
theorem takeS {α : Type} {xs : List α} {i : Nat} {x : α} (h : xs[i]? = some x) : xs.take (i + 1) = xs.take i ++ [x] := by
  rw [List.take_add_one, h]
  rfl
theorem tpS {K : PySem.W.Frag} {H G : Hp} {a : Addr} {xs : List V} (s : Same H G) (h : SqT K H a xs) : SqT K G a xs := by
  rcases h with (h | ⟨o, h⟩) | h; skip
  · exact .inl (.inl (s _ _ h))
  · exact .inl (.inr ⟨o, s _ _ h⟩)
  · exact .inr h
theorem same_up {p : Addr} {H : Hp} {o : HO} (f : H p = none) : Same H (L2.upd H p o) := fun b u e => (upd_ne (ne_of_none e f)).trans e
theorem mapI_get {xs : List Int} {i : Nat} {y : V} (h : (xs.map V.int)[i]? = some y) : ∃ x, xs[i]? = some x ∧ y = .int x := by
  rw [List.getElem?_map] at h
  cases e : xs[i]? with
  | none =>
    rw [e] at h
    cases h
  | some x =>
    rw [e] at h
    exact ⟨x, rfl, (Option.some.inj h).symm⟩
theorem com_snoc {xs ys : List Int} {i : Nat} {x : Int} (h : xs[i]? = some x) : com (xs.take (i + 1)) ys = com (xs.take i) ys ++ (if decide (x ∈ ys) = true then [x] else []) := by
  unfold com
  rw [takeS h, List.filter_append, List.filter_cons]
  by_cases e : decide (x ∈ ys) = true
  · rw [if_pos e, if_pos e]
    rfl
  · rw [if_neg e, if_neg e]
    rfl
theorem com_len {xs ys : List Int} : (com xs ys).length ≤ xs.length := List.length_filter_le _ _
/-- a turn of the comprehension over what is in common -/
theorem com_turn {xs ys : List Int} {H G : Hp} {D : Addr} {i : Nat} {x : Int} {R : Hp → Prop} (hi : xs[i]? = some x) (hl : xs.length ≤ 1000) (hD : H D = none) (s : Same H G) (h : G D = some (.lst ((com (xs.take i) ys).map V.int)))
    (q : ∀ G', Same H G' → G' D = some (.lst ((com (xs.take (i + 1)) ys).map V.int)) → R G') :
    if inV (.int x) (ys.map V.int) = true then (∃ acc, G D = some (.lst acc) ∧ acc.length < sizeLine ∧ R (upd G D (.lst (acc ++ [.int x])))) else R G := by
  rw [inV_ints]
  refine ite2 (fun e => ?_) fun e => ?_
  · refine ⟨_, h, ?_, q _ (fun b o hb => ?_) ?_⟩
    · rw [List.length_map]
      have h1 : (com (xs.take i) ys).length ≤ (xs.take i).length := com_len
      have h2 : (xs.take i).length ≤ xs.length := by
        rw [List.length_take]
        exact Nat.min_le_right _ _
      exact small1000 (Nat.le_trans h1 (Nat.le_trans h2 hl))
    · rw [upd_ne (ne_of_none hb hD)]
      exact s b o hb
    · rw [upd_same, com_snoc hi, if_pos e, List.map_append]
      rfl
  · refine q _ s ?_
    rw [com_snoc hi, if_neg e, List.append_nil]
    exact h
def spCommon (K : PySem.W.Frag) : Sp := fun vs H Q _ => ∃ (a b : Addr) (xs ys : List Int), vs = [.ref a, .ref b] ∧ SqT K H a (xs.map V.int) ∧ SqT K H b (ys.map V.int) ∧ xs.length ≤ 1000 ∧ ∀ t H', Same H H' → H t = none → H' t = some (.tup ((com xs ys).map V.int)) → Q (.ref t) H'
def safeB (c r w u p : Int) : Bool := decide (r + w > c + (if decide (p > 1) = true then u else 0))
abbrev gSafe : Int → Int → Int → Int → Int → Hp → VK → Prop := fun c r w u p H Q => Q (.bl (safeB c r w u p)) H
abbrev gLost : Int → Int → Int → Int → Int → Hp → VK → Prop := fun c r w u p H Q => (safeB c r w u p = true → Q .non H) ∧ (safeB c r w u p = false → ∀ a b t H', Same H H' → H' a = some (.tup (rgV 0 r)) → H' b = some (.tup (rgV (c - w) c)) → H' t = some (.tup [.ref a, .ref b]) → Q (.ref t) H')
abbrev gUnruly : Int → Int → Int → Int → Int → Hp → VK → Prop := fun c r w u p H Q => (safeB c r w u p = true → Q .non H) ∧ (safeB c r w u p = false → ∀ t H', Same H H' → H' t = some (.tup ((com (rgI 0 r) (rgI (c - w) c)).map V.int)) → Q (.ref t) H')
abbrev psC : List Str := ["count", "reads", "writes", "unruly", "pages"]
/-- a def with the default 2, as its callers see it -/
structure DfP (P : Program) (w : World) (K : PySem.W.Frag) (mg : Str → Option Value) (base : Heap) (k : Nat) (x : Str) (sp : Sp) : Prop where
  ex : ∃ (f : Addr) (fd : FuncData) (ds : List Value), FnOk P w K mg base (L2.CX P w) k f fd psC sp ∧ mg x = some (.ref f) ∧ PySem.W.keepIn K (.ref f) = true ∧ Binds K fd psC [] ∧ Binds K fd psC ds ∧ Vals [.int 2] ds
abbrev FunP (K : PySem.W.Frag) (x : Str) (st : Stmt) (f : Addr) (fd : FuncData) : Prop := FunD K x x (defArgs st) (defBody st) (defScope st) [.int 2] [] f fd
section
variable {P : Program} {K : PySem.W.Frag} {w : World} {base : Heap} {mg : Str → Option Value} {C fI : Addr}
theorem dfP {x : Str} {st : Stmt} {f : Addr} {fd : FuncData} {k : Nat} {sp : Sp} (F : FunP K x st f fd) (ok : FnOk P w K mg base (L2.CX P w) k f fd psC sp) (m : mg x = some (.ref f))
    (h5 : ∀ (T : Addr) (kV doc pm : Value) (an : Option Addr) (cdv ct : Value) (us its : List Value), us.length = 5 → its.length = 1 → ∃ k, bindArgs (PySem.W.fnOf x x (defArgs st) (defBody st) (defScope st) (.ref T) kV doc pm an cdv ct) ⟨us, []⟩ = seqItems? (.ref T) >>= k ∧ k (some its.toArray) = pure (psC.zip (us ++ its.drop 1)))
    (h4 : ∀ (T : Addr) (kV doc pm : Value) (an : Option Addr) (cdv ct : Value) (us its : List Value), us.length = 4 → its.length = 1 → ∃ k, bindArgs (PySem.W.fnOf x x (defArgs st) (defBody st) (defScope st) (.ref T) kV doc pm an cdv ct) ⟨us, []⟩ = seqItems? (.ref T) >>= k ∧ k (some its.toArray) = pure (psC.zip (us ++ its.drop 0))) : DfP P w K mg base k x sp := by
  obtain ⟨ds5, v5, b5⟩ := F.binds1 (ps := psC) 5 1 (by simp) rfl h5
  obtain ⟨ds4, v4, b4⟩ := F.binds1 (ps := psC) 4 0 (by simp) rfl h4
  have e : ds5 = [] := by
    have : ([] : List V).length = ds5.length := Vals.length v5
    exact List.length_eq_zero_iff.mp this.symm
  subst e
  exact ⟨f, fd, ds4, ok, m, F.kp, b5, b4, v4⟩
theorem scCommon : FnScope ["one", "other", "copy"] ["one", "other"] (defScope sCommon) := ⟨rfl, rfl, rfl, by decide +kernel, rfl, by decide +kernel, by decide +kernel⟩
theorem ok_common {f : Addr} {fd : FuncData} (F : Fun K "in_common" "in_common" sCommon f fd) (T : Cst mg) : FnOk P w K mg base CX0 1 f fd ["one", "other"] (spCommon K) := by
  refine F.ok scCommon (fun vs H Q E h => ?_) (fun cdv A outer s H vs Q E hr h => ?_)
  · obtain ⟨a, b, xs, ys, rfl, _⟩ := h
    rfl
  · obtain ⟨a, b, xs, ys, rfl, hA, hB, hl, q⟩ := h
    refine ⟨_, pss_one (ps_ret (pe_callTy call_tuple_of (by rfl) T.ttup (by decide +kernel) (pa_cons (pe_lc (own := [("copy", 2)]) (g := gName 2) (tt := _) rfl scCommon.nd (pi_tup (pv 0)) (blkOk_by (own := [("copy", 2)]) (N := ["one", "other", "copy"]) (sc := defScope sCommon) (by decide +kernel))
      (fun _ _ _ _ _ => pg_name (i := 2) scCommon.nd rfl (Or.inl rfl)) (fun _ _ _ _ _ => pts_one (pt_cmpR (show OpR _ (compareOp .In) (rIn K false) from op_in_seq) (pv 2) (pv 1) (by rfl))) (fun _ _ _ _ _ => pv 2)) pa_nil))), ?_⟩
    refine ⟨_, rfl, a, rfl, ⟨_, hA⟩, fun D hD => lc_tup (K := K) (a := a) (xs := xs.map V.int) (fun i G => Same H G ∧ G D = some (.lst ((com (xs.take i) ys).map V.int))) ⟨same_up hD, upd_same⟩ (fun i G _ h => tpS h.1 hA) ?_ ?_⟩
    · rintro i y G hy ⟨s1, h1⟩
      obtain ⟨x, hx, rfl⟩ := mapI_get hy
      refine ⟨rfl, _, rfl, _, rfl, b, _, rfl, .inr (tpS s1 hB), rfl, flat_ints ys, _, rfl, ?_⟩
      have t := com_turn (R := fun G' => Same H G' ∧ G' D = some (.lst ((com (xs.take (i + 1)) ys).map V.int))) hx hl hD s1 h1 fun G' a b => ⟨a, b⟩
      refine ite2 (fun e => ?_) fun e => ?_
      · rw [if_pos (show inV _ _ = true from e)] at t
        exact ⟨_, rfl, t⟩
      · rw [if_neg (show ¬ inV _ _ = true from e)] at t
        exact t
    · rintro G ⟨s1, h1⟩
      rw [List.length_map, List.take_length] at h1
      refine ⟨D, _, rfl, .inl ⟨SqL.of h1, fun t ht => ?_⟩⟩
      exact q t _ (s1.trans (same_up ht)) (s1.free ht) upd_same
theorem scSafe : FnScope psC psC (defScope sSafe) := ⟨rfl, rfl, rfl, by decide +kernel, rfl, by decide +kernel, by decide +kernel⟩
theorem Cks.imp {C : Addr} {v1 v2 v3 v4 v5 : V} {H : Hp} {E : XK} {g1 g2 : Int → Int → Int → Int → Int → Prop} (h : Cks C v1 v2 v3 v4 v5 H E g1)
    (i : ∀ c r w u p, v1 = .int c → v2 = .int r → v3 = .int w → v4 = .int u → v5 = .int p → 1 ≤ c → c ≤ 5 → 1 ≤ r → r ≤ c → 1 ≤ w → w ≤ c → 0 ≤ u → u ≤ c → 1 ≤ p → p ≤ 6 → g1 c r w u p → g2 c r w u p) : Cks C v1 v2 v3 v4 v5 H E g2 := by
  obtain ⟨d1, f1, q1, r1⟩ := h
  refine ⟨d1, f1, fun i1 c e1 a1 b1 => ?_, r1⟩
  obtain ⟨d2, f2, q2, r2⟩ := q1 i1 c e1 a1 b1
  refine ⟨d2, f2, fun i2 r e2 a2 b2 => ?_, r2⟩
  obtain ⟨d3, f3, q3, r3⟩ := q2 i2 r e2 a2 b2
  refine ⟨d3, f3, fun i3 w e3 a3 b3 => ?_, r3⟩
  obtain ⟨d4, f4, q4, r4⟩ := q3 i3 w e3 a3 b3
  refine ⟨d4, f4, fun i4 u e4 a4 b4 => ?_, r4⟩
  obtain ⟨d5, f5, q5, r5⟩ := q4 i4 u e4 a4 b4
  exact ⟨d5, f5, fun i5 p e5 a5 b5 => i c r w u p e1 e2 e3 e4 e5 a1 b1 a2 b2 a3 b3 a4 b4 a5 b5 (q5 i5 p e5 a5 b5), r5⟩
theorem ok_safe {f : Addr} {fd : FuncData} (F : FunP K "is_safe" sSafe f fd) (D1 : DfX P w K mg base 4 "check_counts" psC (spCks C fun _ _ _ _ _ H Q => Q .non H)) : FnOk P w K mg base (L2.CX P w) 5 f fd psC (spCks C gSafe) := by
  obtain ⟨e1, fd1, G1, m1, k1, b1⟩ := D1.ex
  refine F.ok scSafe (fun vs H Q E h => ?_) (fun cdv A outer s H vs Q E hr h => ?_)
  · obtain ⟨v1, v2, v3, v4, v5, rfl, _⟩ := h
    rfl
  · obtain ⟨v1, v2, v3, v4, v5, rfl, h⟩ := h
    refine ⟨_, pss_cons (ps_expr (pe_call (E := E) G1 hr (by rfl) m1 k1 b1 .nil (passes_call (takes_of rfl rfl rfl rfl) fun _ _ _ _ h => h) (pa_cons (pv 0) (pa_cons (pv 1) (pa_cons (pv 2) (pa_cons (pv 3) (pa_cons (pv 4) pa_nil)))))))
      (pss_one (ps_ret (pe_cmpR op_gt (pe_op op_add (pv 1) (pv 2)) (pe_op op_add (pv 0) (pe_ifExp (pt_cmpR op_gt (pv 4) pe_int (nomark _)) (pv 3) pe_int)) (nomark _)))), ?_⟩
    refine ⟨v1, rfl, v2, rfl, v3, rfl, v4, rfl, v5, rfl, v1, v2, v3, v4, v5, rfl, h.imp ?_⟩
    rintro c r w u p rfl rfl rfl rfl rfl _ _ _ _ _ _ _ _ _ _ q
    refine ⟨_, rfl, _, rfl, _, _, rfl, rfl, _, rfl, _, rfl, _, _, rfl, rfl, _, rfl, ?_⟩
    have q2 : Q (.bl (decide (r + w > c + (if decide (p > 1) = true then u else 0)))) H := q
    refine ite2 (fun e => ?_) fun e => ?_
    · rw [if_pos e] at q2
      exact ⟨_, rfl, _, _, rfl, rfl, _, _, rfl, rfl, q2⟩
    · rw [if_neg e] at q2
      exact ⟨_, _, rfl, rfl, _, _, rfl, rfl, q2⟩
theorem scLost : FnScope psC psC (defScope sLost) := ⟨rfl, rfl, rfl, by decide +kernel, rfl, by decide +kernel, by decide +kernel⟩
theorem ok_lost {f : Addr} {fd : FuncData} (F : FunP K "lost_case" sLost f fd) (T : Cst mg) (D1 : DfP P w K mg base 5 "is_safe" (spCks C gSafe)) : FnOk P w K mg base (L2.CX P w) 6 f fd psC (spCks C gLost) := by
  obtain ⟨e1, fd1, _, G1, m1, k1, b1, _⟩ := D1.ex
  refine F.ok scLost (fun vs H Q E h => ?_) (fun cdv A outer s H vs Q E hr h => ?_)
  · obtain ⟨v1, v2, v3, v4, v5, rfl, _⟩ := h
    rfl
  · obtain ⟨v1, v2, v3, v4, v5, rfl, h⟩ := h
    refine ⟨_, pss_cons (ps_if (pt_val (pe_call (E := E) G1 hr (by rfl) m1 k1 b1 .nil (passes_call (takes_of rfl rfl rfl rfl) fun _ _ _ _ h => h) (pa_cons (pv 0) (pa_cons (pv 1) (pa_cons (pv 2) (pa_cons (pv 3) (pa_cons (pv 4) pa_nil)))))))
      (pss_one (ps_ret pe_non)) pss_nil)
      (pss_one (ps_ret (pe_tup (pa_cons (pe_tupRg rfl (by rfl) T.ttup (prg_1 (by rfl) T.rng (pv 1))) (pa_cons (pe_tupRg rfl (by rfl) T.ttup (prg_2 (by rfl) T.rng (pe_op op_sub (pv 0) (pv 2)) (pv 0))) pa_nil))))), ?_⟩
    refine ⟨v1, rfl, v2, rfl, v3, rfl, v4, rfl, v5, rfl, v1, v2, v3, v4, v5, rfl, h.imp ?_⟩
    rintro c r w u p rfl rfl rfl rfl rfl c0 c1 r0 r1 w0 w1 _ _ _ _ ⟨q1, q2⟩
    refine ⟨_, rfl, ?_⟩
    refine ite2 (fun e => q1 e) fun e => ?_
    refine ⟨_, rfl, _, rfl, .of_le (by omega) (by omega) (by omega) (by omega), fun a ha => ?_⟩
    refine ⟨_, rfl, _, rfl, _, _, rfl, rfl, _, rfl, _, _, rfl, rfl, .of_le (by omega) (by omega) (by omega) (by omega), fun b hb => ?_⟩
    have s1 : Same H (upd H a (.tup (rgV 0 r))) := same_up ha
    refine ⟨by show 2 ≤ sizeLine; decide, fun t ht => q2 (Bool.eq_false_iff.mpr e) a b t _ ((s1.trans (same_up hb)).trans (same_up ht)) ?_ ?_ upd_same⟩
    · exact same_up ht _ _ (same_up hb _ _ upd_same)
    · exact same_up ht _ _ upd_same
theorem scUnruly : FnScope ["count", "reads", "writes", "unruly", "pages", "case", "read", "write"] psC (defScope sUnruly) := ⟨rfl, rfl, rfl, by decide +kernel, rfl, by decide +kernel, by decide +kernel⟩
theorem ok_unruly {f : Addr} {fd : FuncData} (F : FunP K "unruly_case" sUnruly f fd) (T : Cst mg) (D1 : DfP P w K mg base 6 "lost_case" (spCks C gLost)) (D2 : Df P w K mg base 1 "in_common" ["one", "other"] (spCommon K)) : FnOk P w K mg base (L2.CX P w) 7 f fd psC (spCks C gUnruly) := by
  obtain ⟨e1, fd1, _, G1, m1, k1, b1, _⟩ := D1.ex
  obtain ⟨e2, fd2, G2, m2, k2, b2⟩ := D2.ex
  refine F.ok scUnruly (fun vs H Q E h => ?_) (fun cdv A outer s H vs Q E hr h => ?_)
  · obtain ⟨v1, v2, v3, v4, v5, rfl, _⟩ := h
    rfl
  · obtain ⟨v1, v2, v3, v4, v5, rfl, h⟩ := h
    refine ⟨_, pss_cons (ps_set (i := 5) scUnruly.nd rfl (Or.inl rfl) (pe_call (E := E) G1 hr (by rfl) m1 k1 b1 .nil (passes_call (takes_of rfl rfl rfl rfl) fun _ _ _ _ h => h) (pa_cons (pv 0) (pa_cons (pv 1) (pa_cons (pv 2) (pa_cons (pv 3) (pa_cons (pv 4) pa_nil)))))))
      (pss_cons (ps_if (pt_cmpR op_isN (pv 5) pe_non (nomark _)) (pss_one (ps_ret pe_non)) pss_nil)
      (pss_cons (ps_asg (pv 5) (pg_tup rfl (pgs_cons (pg_name (i := 6) scUnruly.nd rfl (Or.inl rfl)) (pgs_cons (pg_name (i := 7) scUnruly.nd rfl (Or.inl rfl)) pgs_nil))))
      (pss_one (ps_ret (pe_call G2 (hr.mono (by decide)) (by rfl) m2 k2 b2 .nil pass0 (pa_cons (pv 6) (pa_cons (pv 7) pa_nil))))))), ?_⟩
    refine ⟨v1, rfl, v2, rfl, v3, rfl, v4, rfl, v5, rfl, v1, v2, v3, v4, v5, rfl, h.imp ?_⟩
    rintro c r w u p rfl rfl rfl rfl rfl c0 c1 r0 r1 w0 w1 _ _ _ _ ⟨q1, q2⟩
    refine ⟨fun e => ⟨_, rfl, rfl, _, rfl, iteT (q1 e)⟩, fun e a b t G s1 ha hb ht => ⟨_, rfl, rfl, _, rfl, iteF ?_⟩⟩
    rw [rgV_int] at ha hb
    refine ⟨_, rfl, t, _, rfl, SqT.of ht, rfl, ?_⟩
    refine ⟨_, _, rfl, _, _, rfl, rfl, _, rfl, _, rfl, a, b, _, _, rfl, SqT.of ha, SqT.of hb, ?_, fun t2 G2 s2 _ ht2 => q2 e t2 G2 (s1.trans s2) ht2⟩
    rw [rgI_len]
    omega
end
end Pl

namespace Pl
open L2 PySem PySem.Spec PyProof.Rows
/-- the source of draws stands at z -/
def Src (z : Addr) (H : Hp) : Prop := ∃ x y : Int, H z = some (.lst [.int x, .int y]) ∧ 0 ≤ x ∧ 0 ≤ y ∧ y < 2147483647
theorem Src.some {z : Addr} {H : Hp} (h : Src z H) : ∃ o, H z = some o := let ⟨x, y, e, _⟩ := h; ⟨_, e⟩
def spPool (K : PySem.W.Frag) : Sp := fun vs H Q _ => ∃ (a : Addr) (ns : List Int) (k : Int), vs = [.ref a, .int k] ∧ SqL K H a (ns.map V.int) ∧ 0 ≤ k ∧ k ≤ 10 ∧ ∀ p H', H p = none → Same H H' → Src p H' → Q (.ref p) H'
def spTake : Sp := fun vs H Q _ => ∃ (z : Addr) (t : Int), vs = [.ref z, .int t] ∧ Src z H ∧ 0 < t ∧ t ≤ 1000 ∧ ∀ (r : Int) (H' : Hp), 0 ≤ r → r < t → But z H H' → Src z H' → Q (.int r) H'
def spOne : Sp := fun vs H Q _ => ∃ (z l : Addr) (xs : List V), vs = [.ref z, .ref l] ∧ Src z H ∧ l ≠ z ∧ H l = some (.lst xs) ∧ xs ≠ [] ∧ xs.length ≤ 1000 ∧ ∀ (i : Nat) (v : V) (H' : Hp), xs[i]? = some v → But z H H' → Src z H' → Q v H'
section
variable {P : Program} {K : PySem.W.Frag} {w : World} {base : Heap} {mg : Str → Option Value}
theorem scPool : FnScope ["_law_script", "_law_k", "_law_cell", "_law_big", "_law_mixed"] ["_law_script", "_law_k"] (defScope sPool) := ⟨rfl, rfl, rfl, by decide +kernel, rfl, by decide +kernel, by decide +kernel⟩
theorem ok_pool {f : Addr} {fd : FuncData} (F : Fun K "_law_pool" "_law_pool" sPool f fd) (T : Cst mg) : FnOk P w K mg base CX0 1 f fd ["_law_script", "_law_k"] (spPool K) := by
  refine F.ok scPool (fun vs H Q E h => ?_) (fun cdv A outer s H vs Q E hr h => ?_)
  · obtain ⟨a, ns, k, rfl, _⟩ := h; skip
    rfl
  · obtain ⟨a, ns, k, rfl, hS, k0, k1, q⟩ := h
    refine ⟨_, pss_cons (ps_set (i := 2) scPool.nd rfl (Or.inl rfl) pe_int)
      (pss_cons (ps_if (pt_cmpR op_lt (pv 1) (pe_callB call_len_seq (by rfl) T.len PySem.boot_len (pa_cons (pv 0) pa_nil)) (nomark _))
        (pss_one (ps_set (i := 2) scPool.nd rfl (Or.inl rfl) (pe_ix ix_list (pv 0) (pv 1) (fun _ _ => rfl)))) pss_nil)
      (pss_cons (ps_set (i := 3) scPool.nd rfl (Or.inl rfl) (pe_callB (call_max2 rfl) (by rfl) T.max_ (by decide +kernel) (pa_cons (pe_callTy call_int1 (by rfl) T.tint (by decide +kernel) (pa_cons (pv 2) pa_nil))
        (pa_cons (pe_callTy call_int1 (by rfl) T.tint (by decide +kernel) (pa_cons (pe_op op_sub (pe_un un_neg pe_int) (pv 2)) pa_nil)) pa_nil))))
      (pss_cons (ps_set (i := 4) scPool.nd rfl (Or.inl rfl) (pe_op op_mod (pe_callTy call_int1 (by rfl) T.tint (by decide +kernel) (pa_cons
          (pe_op op_mul (pe_op op_add (pe_op op_add (pe_op op_add (pe_op op_mod (pe_callTy call_int1 (by rfl) T.tint (by decide +kernel) (pa_cons (pv 3) pa_nil)) pe_int) (pe_op op_mul (pe_op op_mul pe_int (pv 1)) (pv 1))) (pe_op op_mul pe_int (pv 1))) pe_int) pe_int) pa_nil)) pe_int))
      (pss_one (ps_ret (pe_lst (pa_cons (pe_op op_mul (pv 3) (pe_callTy call_int1 (by rfl) T.tint (by decide +kernel) (pa_cons (pe_cmpR op_ge (pv 3) (pe_op op_pow pe_int pe_int) (nomark _)) pa_nil))) (pa_cons (pv 4) pa_nil)))))))), ?_⟩
    have hbig : ∀ c : Int, 0 ≤ (if (-1 - c) > c then (-1 - c) else c) := fun c => by
      split <;> omega
    have fin : ∀ (b : Int) (p : Addr) (G : Hp), 0 ≤ b → H p = none → Same H G → G p = some (.lst [.int (b * (if decide (b ≥ 10 ^ 18) = true then 1 else 0)), .int (((b % 2147483629 + 7919 * k * k + 31 * k + 17) * 48271) % 2147483647)]) → Q (.ref p) G := fun b p G hb hp sG hG => by
      refine q p G hp sG ⟨_, _, hG, ?_, Int.emod_nonneg _ (by decide), Int.emod_lt_of_pos _ (by decide)⟩
      refine Int.mul_nonneg hb ?_
      split <;> decide
    have bnd : ∀ b : Int, 0 ≤ b % 2147483629 ∧ b % 2147483629 < 2147483629 := fun b => ⟨Int.emod_nonneg _ (by decide), Int.emod_lt_of_pos _ (by decide)⟩
    have kk : 0 ≤ 7919 * k ∧ 7919 * k ≤ 79190 := ⟨by omega, by omega⟩
    have kk2 : 0 ≤ 7919 * k * k ∧ 7919 * k * k ≤ 791900 := ⟨Int.mul_nonneg kk.1 k0, by
      have := Int.mul_le_mul kk.2 k1 k0 (by omega)
      omega⟩
    refine ⟨_, rfl, _, rfl, a, _, rfl, .inl hS, _, _, rfl, rfl, _, rfl, ?_⟩; skip
    refine ite2 (fun e => ?_) fun e => ?_
    · obtain ⟨j, rfl⟩ : ∃ j : Nat, k = j := ⟨k.toNat, by omega⟩
      have hj : j < ns.length := by
        have := of_decide_eq_true e
        rw [List.length_map] at this
        omega
      refine ⟨_, rfl, _, rfl, a, _, _, .int ns[j], rfl, rfl, hS, atI_nat (by rw [List.getElem?_map, List.getElem?_eq_getElem hj]; rfl), ?_⟩
      refine ⟨_, rfl, .inl ⟨_, rfl, ?_⟩⟩
      refine ⟨_, rfl, _, rfl, _, _, rfl, rfl, .inl ⟨_, rfl, ?_⟩⟩
      refine ⟨_, _, rfl, ?_⟩
      have hb := hbig (ns[j])
      revert hb
      generalize (if (-1 - ns[j]) > ns[j] then (-1 - ns[j]) else ns[j]) = b
      intro hb
      have h1 := bnd b
      refine ⟨_, rfl, .inl ⟨_, rfl, _, _, rfl, rfl, (by show (0 : Int) < 2147483629; decide), ?_⟩⟩
      refine ⟨_, rfl, _, _, rfl, rfl, .inl ⟨by decide, by decide⟩, _, rfl, _, _, rfl, rfl, .inl ⟨by omega, by omega⟩, ?_⟩
      refine ⟨_, _, rfl, rfl, _, rfl, _, _, rfl, rfl, .inl ⟨by decide, by decide⟩, _, _, rfl, rfl, _, _, rfl, rfl, ?_⟩
      refine ⟨_, _, rfl, rfl, .inl ⟨by omega, by omega⟩, .inl ⟨_, rfl, _, _, rfl, rfl, (by show (0 : Int) < 2147483647; decide), ?_⟩⟩
      refine ⟨_, rfl, _, rfl, _, _, rfl, rfl, ⟨by decide, by decide, by decide⟩, _, _, rfl, rfl, .inr ⟨_, rfl, _, _, rfl, rfl, .inr ⟨?_, ?_⟩, _, rfl, (by show 2 ≤ sizeLine; decide), fun p hp => fin b p _ hb hp (same_new hp) upd_same⟩⟩
      · split <;> decide
      · split <;> decide
    · refine ⟨_, rfl, .inl ⟨_, rfl, ?_⟩⟩
      refine ⟨_, rfl, _, rfl, _, _, rfl, rfl, .inl ⟨_, rfl, ?_⟩⟩
      refine ⟨_, _, rfl, ?_⟩
      have hb := hbig (0)
      revert hb
      generalize (if (-1 - 0) > 0 then (-1 - 0) else 0) = b
      intro hb
      have h1 := bnd b
      refine ⟨_, rfl, .inl ⟨_, rfl, _, _, rfl, rfl, (by show (0 : Int) < 2147483629; decide), ?_⟩⟩
      refine ⟨_, rfl, _, _, rfl, rfl, .inl ⟨by decide, by decide⟩, _, rfl, _, _, rfl, rfl, .inl ⟨by omega, by omega⟩, ?_⟩
      refine ⟨_, _, rfl, rfl, _, rfl, _, _, rfl, rfl, .inl ⟨by decide, by decide⟩, _, _, rfl, rfl, _, _, rfl, rfl, ?_⟩
      refine ⟨_, _, rfl, rfl, .inl ⟨by omega, by omega⟩, .inl ⟨_, rfl, _, _, rfl, rfl, (by show (0 : Int) < 2147483647; decide), ?_⟩⟩
      refine ⟨_, rfl, _, rfl, _, _, rfl, rfl, ⟨by decide, by decide, by decide⟩, _, _, rfl, rfl, .inr ⟨_, rfl, _, _, rfl, rfl, .inr ⟨?_, ?_⟩, _, rfl, (by show 2 ≤ sizeLine; decide), fun p hp => fin b p _ hb hp (same_new hp) upd_same⟩⟩
      · split <;> decide
      · split <;> decide
theorem scTake : FnScope ["_law_source", "_law_top", "_law_told"] ["_law_source", "_law_top"] (defScope sTake) := ⟨rfl, rfl, rfl, by decide +kernel, rfl, by decide +kernel, by decide +kernel⟩
theorem ok_take {f : Addr} {fd : FuncData} (F : Fun K "_law_take" "_law_take" sTake f fd) (T : Cst mg) : FnOk P w K mg base CX0 1 f fd ["_law_source", "_law_top"] spTake := by
  refine F.ok scTake (fun vs H Q E h => ?_) (fun cdv A outer s H vs Q E hr h => ?_)
  · obtain ⟨z, t, rfl, _⟩ := h
    rfl
  · obtain ⟨z, t, rfl, ⟨x, y, hz, x0, y0, y1⟩, t0, t1, q⟩ := h
    refine ⟨_, pss_cons (ps_if (pt_cmpR op_gt (pe_ix ix_list (pv 0) pe_int (fun _ _ => rfl)) pe_int (nomark _))
        (pss_cons (ps_set (i := 2) scTake.nd rfl (Or.inl rfl) (pe_op op_mod (pe_callTy call_int1 (by rfl) T.tint (by decide +kernel) (pa_cons (pe_ix ix_list (pv 0) pe_int (fun _ _ => rfl)) pa_nil)) (pv 1)))
        (pss_cons (ps_asg (pe_op op_fdiv (pe_ix ix_list (pv 0) pe_int (fun _ _ => rfl)) (pv 1)) (pg_sub (pv 0) pe_int L2.set_list))
        (pss_one (ps_ret (pv 2))))) pss_nil)
      (pss_cons (ps_asg (pe_op op_mod (pe_callTy call_int1 (by rfl) T.tint (by decide +kernel) (pa_cons (pe_op op_add (pe_op op_mul (pe_ix ix_list (pv 0) pe_int (fun _ _ => rfl)) pe_int) pe_int) pa_nil)) pe_int) (pg_sub (pv 0) pe_int L2.set_list))
      (pss_one (ps_ret (pe_op op_mod (pe_callTy call_int1 (by rfl) T.tint (by decide +kernel) (pa_cons (pe_op op_fdiv (pe_op op_mod (pe_callTy call_int1 (by rfl) T.tint (by decide +kernel) (pa_cons (pe_op op_mul (pe_ix ix_list (pv 0) pe_int (fun _ _ => rfl)) (pe_ix ix_list (pv 0) pe_int (fun _ _ => rfl))) pa_nil)) pe_int) pe_int) pa_nil)) (pv 1))))), ?_⟩
    refine ⟨_, rfl, z, _, _, .int x, rfl, rfl, SqL.of hz, atI_nat (j := 0) rfl, _, _, rfl, rfl, _, rfl, ?_⟩
    refine ite2 (fun e => ?_) fun e => ?_
    · refine ⟨_, rfl, z, _, _, .int x, rfl, rfl, SqL.of hz, atI_nat (j := 0) rfl, .inl ⟨_, rfl, _, rfl, _, _, rfl, rfl, t0, ?_⟩⟩
      refine ⟨_, rfl, z, _, _, .int x, rfl, rfl, SqL.of hz, atI_nat (j := 0) rfl, _, rfl, _, _, rfl, rfl, ⟨t0, by omega⟩, ?_⟩
      refine ⟨_, rfl, z, _, _, 0, rfl, rfl, hz, rfl, _, rfl, ?_⟩
      exact q _ _ (Int.emod_nonneg _ (by omega)) (Int.emod_lt_of_pos _ t0) But.upd ⟨_, _, upd_same, Int.ediv_nonneg x0 (by omega), y0, y1⟩
    · refine ⟨_, rfl, z, _, _, .int y, rfl, rfl, SqL.of hz, atI_nat (j := 1) rfl, _, _, rfl, rfl, .inl ⟨by omega, by omega⟩, _, _, rfl, rfl, .inl ⟨_, rfl, _, _, rfl, rfl, (by show (0 : Int) < 2147483647; decide), ?_⟩⟩
      have h2 : 0 ≤ (y * 39373 + 7) % 2147483647 ∧ (y * 39373 + 7) % 2147483647 < 2147483647 := ⟨Int.emod_nonneg _ (by decide), Int.emod_lt_of_pos _ (by decide)⟩
      refine ⟨_, rfl, z, _, _, 1, rfl, rfl, hz, rfl, ?_⟩
      have hz2 : upd H z (.lst ([V.int x, V.int y].set 1 (V.int ((y * 39373 + 7) % 2147483647)))) z = some (.lst [.int x, .int ((y * 39373 + 7) % 2147483647)]) := upd_same
      refine ⟨_, rfl, z, _, _, .int ((y * 39373 + 7) % 2147483647), rfl, rfl, SqL.of hz2, atI_nat (j := 1) rfl, _, rfl, z, _, _, .int ((y * 39373 + 7) % 2147483647), rfl, rfl, SqL.of hz2, atI_nat (j := 1) rfl, _, _, rfl, rfl, .inl ⟨by omega, by omega⟩, .inl ⟨_, rfl, _, _, rfl, rfl, (by show (0 : Int) < 2147483629; decide), ?_⟩⟩
      refine ⟨_, _, rfl, rfl, ⟨by decide, by decide⟩, .inl ⟨_, rfl, _, rfl, _, _, rfl, rfl, t0, ?_⟩⟩
      exact q _ _ (Int.emod_nonneg _ (by omega)) (Int.emod_lt_of_pos _ t0) But.upd ⟨_, _, hz2, x0, h2.1, h2.2⟩
/-- a draw of this text, as its callers see it -/
abbrev DTake (P : Program) (w : World) (K : PySem.W.Frag) (mg : Str → Option Value) (base : Heap) := Df P w K mg base 1 "_law_take" ["_law_source", "_law_top"] spTake
theorem scOne : FnScope ["_law_source", "_law_things"] ["_law_source", "_law_things"] (defScope sOne) := ⟨rfl, rfl, rfl, by decide +kernel, rfl, by decide +kernel, by decide +kernel⟩
theorem ok_one {f : Addr} {fd : FuncData} (F : Fun K "_law_one" "_law_one" sOne f fd) (T : Cst mg) (D : DTake P w K mg base) : FnOk P w K mg base CX0 2 f fd ["_law_source", "_law_things"] spOne := by
  obtain ⟨g, fdT, GT, mT, kT, bT⟩ := D.ex
  refine F.ok scOne (fun vs H Q E h => ?_) (fun cdv A outer s H vs Q E hr h => ?_)
  · obtain ⟨z, l, xs, rfl, _⟩ := h
    rfl
  · obtain ⟨z, l, xs, rfl, hz, ne, hl, hne, hlen, q⟩ := h
    refine ⟨_, pss_one (ps_ret (pe_ix ix_list (pv 1) (pe_call GT hr (by rfl) mT kT bT .nil pass0 (pa_cons (pv 0) (pa_cons (pe_callB call_len_seq (by rfl) T.len PySem.boot_len (pa_cons (pv 1) pa_nil)) pa_nil))) (fun _ _ => rfl))), ?_⟩
    have pos : 0 < xs.length := List.length_pos_iff.mpr hne
    refine ⟨_, rfl, _, rfl, _, rfl, l, _, rfl, .inl (SqL.of hl), z, _, rfl, hz, by omega, by omega, fun r G r0 r1 b1 s1 => ?_⟩
    obtain ⟨j, rfl⟩ : ∃ j : Nat, r = j := ⟨r.toNat, by omega⟩
    have hj : j < xs.length := by omega
    have e : xs[j]? = some xs[j] := List.getElem?_eq_getElem hj
    exact ⟨l, _, _, xs[j], rfl, rfl, SqL.of (b1 _ _ ne NoT.lst hl), atI_nat e, q j _ G e b1 s1⟩
end
end Pl

namespace Pl
open L2 PySem PySem.Spec PyProof.Rows
/-! ### all lots -/
def lots : Nat → List (List Int)
  | 0 => [[]]
  | n + 1 => lots n ++ (lots n).map fun l => l ++ [(n : Int)]
def lotsK (n k : Nat) : List (List Int) := (lots n).filter fun l => decide (l.length = k)
theorem lots_len : ∀ n, (lots n).length = 2 ^ n
  | 0 => rfl
  | n + 1 => by
    show (lots n ++ (lots n).map fun l => l ++ [(n : Int)]).length = 2 ^ (n + 1)
    rw [List.length_append, List.length_map, lots_len n, Nat.pow_succ]
    omega
theorem lots_bd : ∀ n, n ≤ 5 → ∀ l ∈ lots n, TS.Bd 8 l ∧ l.length ≤ n
  | 0, _ => fun l h => by
    have e : l = [] := List.mem_singleton.mp h
    subst e
    exact ⟨fun m hm => (by cases hm), Nat.le_refl _⟩
  | n + 1, hn => fun l h => by
    rcases List.mem_append.mp (show l ∈ lots n ++ (lots n).map fun l => l ++ [(n : Int)] from h) with h | h
    · obtain ⟨a, b⟩ := lots_bd n (by omega) l h
      exact ⟨a, by omega⟩
    · obtain ⟨k, hk, rfl⟩ := List.mem_map.mp h
      obtain ⟨a, b⟩ := lots_bd n (by omega) k hk
      refine ⟨fun m hm => ?_, by rw [List.length_append]; simp only [List.length_singleton]; omega⟩
      rcases List.mem_append.mp hm with hm | hm; skip
      · exact a m hm
      · rw [List.mem_singleton.mp hm]; skip
        omega
theorem perm_map_inv {α β : Type} {f : α → β} {ys zs : List β} (h : ys.Perm zs) : ∀ L : List α, zs = L.map f → ∃ M : List α, M.Perm L ∧ ys = M.map f := by
  induction h with
  | nil => exact fun L e => ⟨[], by
      have : L = [] := List.map_eq_nil_iff.mp e.symm
      rw [this], rfl⟩
  | cons x p ih =>
    intro L e
    cases L with
    | nil => cases e
    | cons a L =>
      rw [List.map_cons] at e
      injection e with e1 e2
      obtain ⟨M, m1, m2⟩ := ih L e2
      exact ⟨a :: M, m1.cons a, by rw [List.map_cons, e1, m2]⟩
  | swap x y l =>
    intro L e
    match L, e with
    | a :: b :: L, e =>
      rw [List.map_cons, List.map_cons] at e; skip
      injection e with e1 e2
      injection e2 with e2 e3
      exact ⟨b :: a :: L, List.Perm.swap a b L, by rw [List.map_cons, List.map_cons, e1, e2, e3]⟩
    | [a], e => cases e
    | [], e => cases e
  | trans p q ih1 ih2 =>
    intro L e
    obtain ⟨M, m1, m2⟩ := ih2 L e
    obtain ⟨N, n1, n2⟩ := ih1 M m2
    exact ⟨N, n1.trans m1, n2⟩
abbrev PL := List (Addr × List Int)
def refs (L : PL) : List V := L.map fun q => V.ref q.1
def nss (L : PL) : List (List Int) := L.map fun q => q.2
def TL (K : PySem.W.Frag) (H : Hp) (L : PL) : Prop := ∀ q ∈ L, SqT K H q.1 (q.2.map V.int)
theorem TL.same {K : PySem.W.Frag} {H G : Hp} {L : PL} (h : TL K H L) (s : Same H G) : TL K G L := fun q hq => tpS s (h q hq)
theorem refs_get {L : PL} {i : Nat} {y : V} (h : (refs L)[i]? = some y) : ∃ q, L[i]? = some q ∧ y = .ref q.1 := by
  unfold refs at h
  rw [List.getElem?_map] at h
  cases e : L[i]? with
  | none =>
    rw [e] at h
    cases h
  | some q =>
    rw [e] at h
    exact ⟨q, rfl, (Option.some.inj h).symm⟩
def spLots (K : PySem.W.Frag) : Sp := fun vs H Q _ => ∃ (n k : Nat), vs = [.int n, .int k] ∧ n ≤ 5 ∧ 1 ≤ k ∧ ∀ (L : PL) (p : Addr) (H' : Hp), Same H H' → H p = none → H' p = some (.lst (refs L)) → TL K H' L → (nss L).Perm (lotsK n k) → Q (.ref p) H'
/-- len(a list or tuple) -/
def rLenS (K : PySem.W.Frag) : List V → Hp → VK → Prop := fun xs H Q => ∃ p ys, xs = [V.ref p] ∧ (SqL K H p ys ∨ SqT K H p ys) ∧ Q (.int ys.length) H
theorem sqt_upd {K : PySem.W.Frag} {G : Hp} {D a : Addr} {acc xs : List V} {o : HO} (hD : G D = some (.lst acc)) (h : SqT K G a xs) : SqT K (upd G D o) a xs := by
  rcases h with (h | ⟨u, h⟩) | h
  · refine .inl (.inl ((upd_ne fun e => ?_).trans h))
    rw [e, hD] at h
    cases h
  · refine .inl (.inr ⟨u, (upd_ne fun e => ?_).trans h⟩)
    rw [e, hD] at h
    cases h
  · exact .inr h
theorem refs_len (L : PL) : (refs L).length = L.length := by
  unfold refs
  rw [List.length_map]
theorem nss_len (L : PL) : (nss L).length = L.length := by
  unfold nss
  rw [List.length_map]
theorem refs_app (L M : PL) : refs (L ++ M) = refs L ++ refs M := by
  unfold refs
  rw [List.map_append]
theorem nss_app (L M : PL) : nss (L ++ M) = nss L ++ nss M := by
  unfold nss
  rw [List.map_append]
theorem intV_eq (a b : Int) : decide (V.int a = V.int b) = decide (a = b) := by
  by_cases h : a = b
  · subst h
    simp
  · simp [h]
theorem len_fin {n : Nat} (h : n ≤ 5) : 2 ^ n ≤ 32 := by
  match n, h with
  | 0, _ => decide
  | 1, _ => decide
  | 2, _ => decide
  | 3, _ => decide
  | 4, _ => decide
  | 5, _ => decide
def flt (k : Nat) (L : PL) : PL := L.filter fun q => decide (q.2.length = k)
theorem nss_flt (k : Nat) : ∀ L : PL, nss (flt k L) = (nss L).filter fun l => decide (l.length = k)
  | [] => rfl
  | q :: L => by
    have ih := nss_flt k L
    unfold nss flt at ih ⊢
    rw [List.filter_cons, List.map_cons, List.filter_cons]
    by_cases e : decide (q.2.length = k) = true
    · rw [if_pos e, if_pos e, List.map_cons, ih]
    · rw [if_neg e, if_neg e, ih]
section
variable {P : Program} {K : PySem.W.Frag} {w : World} {base : Heap} {mg : Str → Option Value}
theorem scLots : FnScope ["_law_copies_here", "_law_size", "_law_found", "_law_copy", "_law_lot"] ["_law_copies_here", "_law_size"] (defScope sLots) := ⟨rfl, rfl, rfl, by decide +kernel, rfl, by decide +kernel, by decide +kernel⟩
theorem ok_lots {f : Addr} {fd : FuncData} (F : Fun K "_law_all_lots" "_law_all_lots" sLots f fd) (T : Cst mg) : FnOk P w K mg base CX0 1 f fd ["_law_copies_here", "_law_size"] (spLots K) := by
  refine F.ok scLots (fun vs H Q E h => ?_) (fun cdv A outer s H vs Q E hr h => ?_)
  · obtain ⟨n, k, rfl, _⟩ := h
    rfl
  · obtain ⟨n, k, rfl, hn, hk, q⟩ := h
    refine ⟨_, pss_cons (ps_set (i := 2) scLots.nd rfl (Or.inl rfl) (pe_lst (pa_cons (pe_tup pa_nil) pa_nil)))
      (pss_cons (ps_for PassesOwn.never rfl (pi_range1 rfl T.rng (pa_cons (pv 0) pa_nil)) (pg_name (i := 3) scLots.nd rfl (Or.inr rfl))
        (pss_one (ps_set (i := 2) scLots.nd rfl (Or.inl rfl) (pe_op op_cat (pv 2) (pe_lc (own := [("_law_lot", 4)]) (g := gName 4) (tt := tYes) rfl scLots.nd (pi_list (pv 2)) (blkOk_by (own := [("_law_lot", 4)]) (N := ["_law_copies_here", "_law_size", "_law_found", "_law_copy", "_law_lot"]) (sc := defScope sLots) (by decide +kernel))
          (fun _ _ _ _ _ => pg_name (i := 4) scLots.nd rfl (Or.inl rfl)) (fun _ _ _ _ _ => pts_nil) (fun _ _ _ _ _ => pe_op (show OpR _ (binaryOp .Add) (rCatA K) from op_catA) (pv 4) (pe_tup (pa_cons (pv 3) pa_nil))))))))
      (pss_one (ps_ret (pe_callB (cr_sortT (d := k) (B := 8) hk) (by rfl) T.srt (by decide +kernel) (pa_cons (pe_lc (own := [("_law_lot", 4)]) (g := gName 4) (tt := _) rfl scLots.nd (pi_list (pv 2)) (blkOk_by (own := [("_law_lot", 4)]) (N := ["_law_copies_here", "_law_size", "_law_found", "_law_copy", "_law_lot"]) (sc := defScope sLots) (by decide +kernel))
          (fun _ _ _ _ _ => pg_name (i := 4) scLots.nd rfl (Or.inl rfl)) (fun _ _ _ _ _ => pts_one (pt_cmpR op_eq (pe_callB (show CallR _ (.builtin "len") (rLenS K) from call_len_seq) (by rfl) T.len PySem.boot_len (pa_cons (pv 4) pa_nil)) (pv 1) (nomark _))) (fun _ _ _ _ _ => pv 4)) pa_nil))))), ?_⟩
    refine ⟨by show 0 ≤ sizeLine; decide, fun t0 ht0 => ⟨by show 1 ≤ sizeLine; decide, fun p0 hp0 => ?_⟩⟩
    have s0 : Same H (upd (upd H t0 (.tup [])) p0 (.lst [.ref t0])) := (same_up ht0).trans (same_up hp0)
    have hT0 : upd (upd H t0 (.tup [])) p0 (.lst [.ref t0]) t0 = some (.tup []) := same_up hp0 _ _ upd_same
    have fz : ∀ {G : Hp} {b : Addr}, Same H G → G b = none → H b = none := fun s e => s.free e
    refine ⟨_, rfl, n, rfl, by omega, by omega, for_range (n := n) (fun i σ G => ∃ x3 x4 p, ∃ L : PL, σ = [some (.int n), some (.int k), some (.ref p), x3, x4] ∧ Same H G ∧ H p = none ∧ G p = some (.lst (refs L)) ∧ TL K G L ∧ nss L = lots i)
      ⟨_, _, p0, [(t0, [])], rfl, s0, (same_up ht0).free hp0, upd_same, fun q hq => ?_, rfl⟩ ?_ ?_⟩
    · rw [List.mem_singleton.mp hq]; skip
      exact SqT.of hT0
    · rintro i σ G hi ⟨x3, x4, p, L, rfl, s1, np, hp, hL, eL⟩
      have lenL : L.length = 2 ^ i := by rw [← nss_len, eL, lots_len]
      have l32 : L.length ≤ 32 := by rw [lenL]; exact len_fin (by omega)
      refine ⟨_, rfl, _, rfl, p, rfl, ⟨_, SqL.of hp⟩, fun D hD => lc_list (K := K) (a := p) (xs := refs L) (fun j G' => ∃ M : PL, Same G G' ∧ G' D = some (.lst (refs M)) ∧ TL K G' M ∧ nss M = (nss (L.take j)).map fun l => l ++ [(i : Int)])
        ⟨[], same_up hD, upd_same, fun q hq => (by cases hq), rfl⟩ (fun j G' _ h => by
          obtain ⟨M, s2, _⟩ := h
          exact SqL.of (s2 _ _ hp)) ?_ ?_⟩
      · rintro j y G' hy ⟨M, s2, hM, tM, eM⟩
        obtain ⟨⟨a, ns⟩, hq, rfl⟩ := refs_get hy
        have memq := List.mem_of_getElem? hq
        have ta : SqT K G' a (ns.map V.int) := tpS s2 (hL _ memq)
        have mem2 : ns ∈ lots i := by
          rw [← eL]
          exact List.mem_map.mpr ⟨_, memq, rfl⟩
        have ln := (lots_bd i (by omega) ns mem2).2
        have lenM : M.length ≤ 32 := by
          rw [← nss_len, eM, List.length_map, nss_len, List.length_take]
          omega
        have key : ∀ (u : Addr) (G4 : Hp), Same G' G4 → SqT K G4 u ((ns ++ [(i : Int)]).map V.int) → ∃ acc, G4 D = some (.lst acc) ∧ acc.length < sizeLine ∧ ∃ M : PL, Same G (upd G4 D (.lst (acc ++ [.ref u]))) ∧ upd G4 D (.lst (acc ++ [.ref u])) D = some (.lst (refs M)) ∧ TL K (upd G4 D (.lst (acc ++ [.ref u]))) M ∧ nss M = (nss (L.take (j + 1))).map fun l => l ++ [(i : Int)] := fun u G4 s4 hu => by
          have hD4 := s4 _ _ hM
          refine ⟨_, hD4, ?_, M ++ [(u, ns ++ [(i : Int)])], fun b o hb => ?_, ?_, fun q hq => ?_, ?_⟩
          · rw [refs_len]
            exact small1000 (by omega)
          · rw [upd_ne (ne_of_none hb hD)]
            exact s4 _ _ (s2 _ _ hb)
          · rw [upd_same, refs_app]
            rfl
          · rcases List.mem_append.mp hq with hq | hq; skip
            · exact sqt_upd hD4 (tpS s4 (tM q hq))
            · rw [List.mem_singleton.mp hq]; skip
              exact sqt_upd hD4 hu
          · rw [nss_app, eM, takeS hq, nss_app, List.map_append]
            rfl
        refine ⟨rfl, _, rfl, _, rfl, ?_⟩
        refine ⟨by show 1 ≤ sizeLine; decide, fun t ht => ⟨a, t, _, _, rfl, rfl, tpS (same_up ht) ta, SqT.of upd_same, ?_, fun e => ?_, fun _ e => (by cases e), fun _ _ u hu => ?_⟩⟩
        · rw [List.length_map]
          show ns.length + 1 ≤ sizeLine
          exact small1000 (by omega)
        · have e2 : ns = [] := List.map_eq_nil_iff.mp e
          refine key t _ (same_up ht) ?_
          rw [e2]
          refine SqT.of (upd_same.trans ?_)
          rw [Int.zero_add]
          rfl
        · refine key u _ ((same_up ht).trans (same_up hu)) ?_
          refine SqT.of (upd_same.trans ?_)
          rw [List.map_append, Int.zero_add]
          rfl
      · rintro G' ⟨M, s2, hM, tM, eM⟩
        rw [refs_len, List.take_length, eL] at eM
        have lM : M.length ≤ 32 := by rw [← nss_len, eM, List.length_map, lots_len]; exact len_fin (by omega)
        refine ⟨p, D, _, _, rfl, rfl, s2 _ _ hp, hM, ?_, fun p2 hp2 => ⟨_, _, p2, L ++ M, rfl, (s1.trans s2).trans (same_up hp2), (s1.trans s2).free hp2, ?_, ?_, ?_⟩⟩
        · rw [refs_len, refs_len]
          exact Nat.le_of_lt (small1000 (by omega))
        · rw [upd_same, refs_app]
        · intro q hq
          rcases List.mem_append.mp hq with hq | hq; skip
          · exact tpS (s2.trans (same_up hp2)) (hL q hq)
          · exact tpS (same_up hp2) (tM q hq)
        · rw [nss_app, eL, eM]
          rfl
    · rintro σ G ⟨x3, x4, p, L, rfl, s1, np, hp, hL, eL⟩
      have l32 : L.length ≤ 32 := by
        rw [← nss_len, eL, lots_len]
        exact len_fin hn
      have subF : ∀ j, (flt k (L.take j)).length ≤ 32 := fun j => by
        have h1 : (flt k (L.take j)).length ≤ (L.take j).length := List.length_filter_le _ _
        have h2 : (L.take j).length ≤ L.length := by
          rw [List.length_take]
          exact Nat.min_le_right _ _
        omega
      refine ⟨_, rfl, p, rfl, ⟨_, SqL.of hp⟩, fun D hD => lc_list (K := K) (a := p) (xs := refs L) (fun j G' => Same G G' ∧ G' D = some (.lst (refs (flt k (L.take j)))))
        ⟨same_up hD, upd_same⟩ (fun j G' _ h => SqL.of (h.1 _ _ hp)) ?_ ?_⟩
      · rintro j y G' hy ⟨s2, hM⟩
        obtain ⟨⟨a, ns⟩, hq, rfl⟩ := refs_get hy
        have memq := List.mem_of_getElem? hq
        have ta : SqT K G' a (ns.map V.int) := tpS s2 (hL _ memq)
        refine ⟨rfl, _, rfl, a, _, rfl, .inr ta, _, rfl, rfl, _, rfl, ?_⟩
        rw [intV_eq, List.length_map]
        have e0 : decide (((ns.length : Nat) : Int) = ((k : Nat) : Int)) = decide (ns.length = k) := by
          by_cases h : ns.length = k
          · simp [h]
          · have h2 : ¬ ((ns.length : Nat) : Int) = ((k : Nat) : Int) := by omega
            simp [h, h2]
        rw [e0]
        refine ite2 (fun e => ?_) fun e => ?_
        · refine ⟨_, rfl, _, hM, ?_, fun b o hb => ?_, ?_⟩
          · rw [refs_len]
            have := subF j
            exact small1000 (by omega)
          · rw [upd_ne (ne_of_none hb hD)]
            exact s2 _ _ hb
          · rw [upd_same, takeS hq]
            unfold flt
            rw [List.filter_append, List.filter_cons, if_pos e, refs_app]
            rfl
        · refine ⟨s2, ?_⟩
          rw [takeS hq]
          unfold flt
          rw [List.filter_append, List.filter_cons, if_neg e, List.filter_nil, List.append_nil]
          exact hM
      · rintro G' ⟨s2, hM⟩
        rw [refs_len, List.take_length] at hM
        have subL : ∀ q ∈ flt k L, q ∈ L := fun q hq => (List.mem_filter.mp hq).1
        have f32 : (flt k L).length ≤ 32 := by
          have := subF L.length
          rw [List.take_length] at this
          exact this
        refine ⟨D, _, rfl, SqL.of hM, by rw [refs_len]; omega, fun x hx => ?_, fun ys p3 pm _ hp3 => ?_⟩
        · obtain ⟨⟨a, ns⟩, hq, rfl⟩ := List.mem_map.mp hx
          refine ⟨ns, ⟨a, rfl, tpS s2 (hL _ (subL _ hq))⟩, of_decide_eq_true (List.mem_filter.mp hq).2, ?_⟩
          refine (lots_bd n hn ns ?_).1
          rw [← eL]
          exact List.mem_map.mpr ⟨_, subL _ hq, rfl⟩
        · obtain ⟨M, m1, rfl⟩ := perm_map_inv pm (flt k L) rfl
          refine q M p3 _ ((s1.trans s2).trans (same_up hp3)) ((s1.trans s2).free hp3) upd_same (fun q hq => tpS (s2.trans (same_up hp3)) (hL q (subL q (m1.mem_iff.mp hq)))) ?_
          have m2 : (nss M).Perm (nss (flt k L)) := m1.map _
          rw [nss_flt, eL] at m2
          exact m2
end
end Pl

namespace Pl
open L2 PySem PySem.Spec PyProof.Rows
/-! ### the law's own look -/
def safeL (c r w x : Nat) : Bool := (lotsK c r).all fun a => (lotsK c w).all fun b => decide (x < (com a b).length)
theorem safe_tab : ((List.range 6).all fun c => (List.range 6).all fun r => (List.range 6).all fun w => (List.range 6).all fun x => !(decide (1 ≤ c) && decide (1 ≤ r) && decide (r ≤ c) && decide (1 ≤ w) && decide (w ≤ c) && decide (x ≤ c)) || (safeL c r w x == decide (r + w > c + x))) = true := by decide +kernel
theorem safe_eq {c r w x : Nat} (h1 : 1 ≤ c) (h2 : c ≤ 5) (h3 : 1 ≤ r) (h4 : r ≤ c) (h5 : 1 ≤ w) (h6 : w ≤ c) (h7 : x ≤ c) : safeL c r w x = decide (r + w > c + x) := by
  have a := List.all_eq_true.mp safe_tab c (List.mem_range.mpr (by omega))
  have b := List.all_eq_true.mp a r (List.mem_range.mpr (by omega))
  have d := List.all_eq_true.mp b w (List.mem_range.mpr (by omega))
  have e := List.all_eq_true.mp d x (List.mem_range.mpr (by omega))
  simp only [h1, h3, h4, h5, h6, h7, decide_true, Bool.and_self, Bool.not_true, Bool.false_or] at e
  exact eq_of_beq e
/-- the right counts -/
structure Rg (c r w u p : Int) : Prop where
  c0 : 1 ≤ c
  c1 : c ≤ 5
  r0 : 1 ≤ r
  r1 : r ≤ c
  w0 : 1 ≤ w
  w1 : w ≤ c
  u0 : 0 ≤ u
  u1 : u ≤ c
  p0 : 1 ≤ p
  p1 : p ≤ 6
theorem within_yes {i lo hi : Int} (a : lo ≤ i) (b : i ≤ hi) : within (.int i) lo hi = true := by
  show (decide (lo ≤ i) && decide (i ≤ hi)) = true
  rw [decide_eq_true a, decide_eq_true b]
  rfl
theorem ck_int {C : Addr} {i lo hi : Int} {H : Hp} {E : XK} {G : Prop} (a : lo ≤ i) (b : i ≤ hi) (g : G) : Ck C (.int i) (.int i) lo hi H E G := ⟨.int i, fun _ => g, fun e => by
  rw [within_yes a b] at e
  cases e⟩
theorem cks_ints {C : Addr} {c r w u p : Int} {H : Hp} {E : XK} {g : Int → Int → Int → Int → Int → Prop} (R : Rg c r w u p) (h : g c r w u p) : Cks C (.int c) (.int r) (.int w) (.int u) (.int p) H E g := by
  refine ⟨_, ck_int R.c0 R.c1 ?_⟩
  intro _ e _ _; cases e
  refine ⟨_, ck_int R.r0 R.r1 ?_⟩
  intro _ e _ _; cases e
  refine ⟨_, ck_int R.w0 R.w1 ?_⟩
  intro _ e _ _; cases e
  refine ⟨_, ck_int R.u0 R.u1 ?_⟩
  intro _ e _ _; cases e
  refine ⟨_, ck_int R.p0 R.p1 ?_⟩
  intro _ e _ _; cases e
  exact h
abbrev psL : List Str := ["_law_count", "_law_read_size", "_law_write_size", "_law_spoilt", "_law_size"]
def spLSafe : Sp := fun vs H Q _ => ∃ (c r w u p : Int), vs = [.int c, .int r, .int w, .int u, .int p] ∧ Rg c r w u p ∧ ∀ H', Same H H' → Q (.bl (safeB c r w u p)) H'
section
variable {P : Program} {K : PySem.W.Frag} {w : World} {base : Heap} {mg : Str → Option Value}
theorem scLSafe : FnScope ["_law_count", "_law_read_size", "_law_write_size", "_law_spoilt", "_law_size", "_law_read", "_law_write", "_law_both", "_law_copy"] psL (defScope sLSafe) := ⟨rfl, rfl, rfl, by decide +kernel, rfl, by decide +kernel, by decide +kernel⟩
theorem ok_lsafe {f : Addr} {fd : FuncData} (F : Fun K "_law_safe" "_law_safe" sLSafe f fd) (T : Cst mg) (DL : Df P w K mg base 1 "_law_all_lots" ["_law_copies_here", "_law_size"] (spLots K)) : FnOk P w K mg base CX0 2 f fd psL spLSafe := by
  obtain ⟨gL, fdL, GL, mL, kL, bL⟩ := DL.ex
  refine F.ok scLSafe (fun vs H Q E h => ?_) (fun cdv A outer s H vs Q E hr h => ?_)
  · obtain ⟨c, r, w, u, p, rfl, _⟩ := h
    rfl
  · obtain ⟨c, r, w, u, p, rfl, R, q⟩ := h
    refine ⟨_, pss_cons (ps_for PassesOwn.never rfl (pi_list (pe_call GL hr (by rfl) mL kL bL .nil pass0 (pa_cons (pv 0) (pa_cons (pv 1) pa_nil)))) (pg_name (i := 5) scLSafe.nd rfl (Or.inl rfl))
        (pss_one (ps_for PassesOwn.never rfl (pi_list (pe_call GL hr (by rfl) mL kL bL .nil pass0 (pa_cons (pv 0) (pa_cons (pv 2) pa_nil)))) (pg_name (i := 6) scLSafe.nd rfl (Or.inr rfl))
          (pss_cons (ps_set (i := 7) scLSafe.nd rfl (Or.inl rfl) (pe_callB call_len_seq (by rfl) T.len PySem.boot_len (pa_cons (pe_lc (own := [("_law_copy", 8)]) (g := gName 8) (tt := _) rfl scLSafe.nd (pi_tup (pv 5)) (blkOk_by (own := [("_law_copy", 8)]) (N := ["_law_count", "_law_read_size", "_law_write_size", "_law_spoilt", "_law_size", "_law_read", "_law_write", "_law_both", "_law_copy"]) (sc := defScope sLSafe) (by decide +kernel))
            (fun _ _ _ _ _ => pg_name (i := 8) scLSafe.nd rfl (Or.inl rfl)) (fun _ _ _ _ _ => pts_one (pt_cmpR (show OpR _ (compareOp .In) (rIn K false) from op_in_seq) (pv 8) (pv 6) (by rfl))) (fun _ _ _ _ _ => pv 8)) pa_nil)))
          (pss_one (ps_if (pt_cmpR op_le (pv 7) (pe_ifExp (pt_cmpR op_gt (pv 4) pe_int (nomark _)) (pv 3) pe_int) (nomark _)) (pss_one (ps_ret pe_bl)) pss_nil))))))
      (pss_one (ps_ret pe_bl)), ?_⟩
    obtain ⟨c, rfl⟩ : ∃ k : Nat, c = k := ⟨c.toNat, by have := R.c0; omega⟩
    obtain ⟨r, rfl⟩ : ∃ k : Nat, r = k := ⟨r.toNat, by have := R.r0; omega⟩
    obtain ⟨w, rfl⟩ : ∃ k : Nat, w = k := ⟨w.toNat, by have := R.w0; omega⟩
    obtain ⟨u, rfl⟩ : ∃ k : Nat, u = k := ⟨u.toNat, by have := R.u0; omega⟩
    have c5 : c ≤ 5 := by have := R.c1; omega
    have r1 : 1 ≤ r := by have := R.r0; omega
    have w1 : 1 ≤ w := by have := R.w0; omega
    obtain ⟨x, hx, ex⟩ : ∃ x : Nat, x ≤ c ∧ (if decide (p > 1) = true then (u : Int) else 0) = x := by
      have := R.u1
      by_cases e : decide (p > 1) = true
      · exact ⟨u, by omega, if_pos e⟩
      · exact ⟨0, by omega, if_neg e⟩
    have meaning : safeB c r w u p = safeL c r w x := by
      have h1 := R.c0
      have h2 := R.r1
      have h3 := R.w1
      rw [safe_eq (by omega) c5 r1 (by omega) w1 (by omega) hx]
      unfold safeB
      rw [ex]
      by_cases h : r + w > c + x
      · have h' : (r : Int) + w > c + x := by omega
        rw [decide_eq_true h, decide_eq_true h']
      · have h' : ¬ (r : Int) + w > c + x := by omega
        rw [decide_eq_false h, decide_eq_false h']
    rw [meaning] at q
    refine ⟨_, rfl, _, rfl, c, r, rfl, c5, r1, fun L p1 G s0 np hp tL pL => ⟨p1, rfl, ⟨_, SqL.of hp⟩, ?_⟩⟩
    refine for_list (K := K) (a := p1) (xs := refs L) (fun i σ G' => (∃ x5 x6 x7 x8, σ = [some (.int c), some (.int r), some (.int w), some (.int u), some (.int p), x5, x6, x7, x8]) ∧ Same G G' ∧ ∀ a ∈ L.take i, ∀ b ∈ lotsK c w, x < (com a.2 b).length)
      ⟨⟨_, _, _, _, rfl⟩, Same.refl _, fun a ha => by cases ha⟩ (fun i σ G' _ h => SqL.of (h.2.1 _ _ hp)) ?_ ?_
    · rintro i y σ G' hy ⟨⟨x5, x6, x7, x8, rfl⟩, s1, al⟩
      obtain ⟨⟨a, ns⟩, hq, rfl⟩ := refs_get hy
      have mem1 := List.mem_of_getElem? hq
      have in1 : ns ∈ lotsK c r := pL.mem_iff.mp (List.mem_map.mpr ⟨_, mem1, rfl⟩)
      have len1 : ns.length ≤ 1000 := by
        have := (lots_bd c c5 ns (List.mem_filter.mp in1).1).2
        omega
      refine ⟨_, rfl, _, rfl, c, w, rfl, c5, w1, fun M p2 G2 s2 np2 hp2 tM pM => ⟨p2, rfl, ⟨_, SqL.of hp2⟩, ?_⟩⟩
      refine for_list (K := K) (a := p2) (xs := refs M) (fun j σ G3 => (∃ x6 x7 x8, σ = [some (.int c), some (.int r), some (.int w), some (.int u), some (.int p), some (.ref a), x6, x7, x8]) ∧ Same G2 G3 ∧ ∀ b ∈ M.take j, x < (com ns b.2).length)
        ⟨⟨_, _, _, rfl⟩, Same.refl _, fun a ha => by cases ha⟩ (fun i σ G' _ h => SqL.of (h.2.1 _ _ hp2)) ?_ ?_
      · rintro j y σ G3 hy ⟨⟨x6, x7, x8, rfl⟩, s3, al2⟩
        obtain ⟨⟨b, ms⟩, hq2, rfl⟩ := refs_get hy
        have mem2 := List.mem_of_getElem? hq2
        have in2 : ms ∈ lotsK c w := pM.mem_iff.mp (List.mem_map.mpr ⟨_, mem2, rfl⟩)
        have ta : SqT K G3 a (ns.map V.int) := tpS (s1.trans (s2.trans s3)) (tL _ mem1)
        have tb : SqT K G3 b (ms.map V.int) := tpS s3 (tM _ mem2)
        refine ⟨_, rfl, a, rfl, ⟨_, ta⟩, fun D hD => lc_tup (K := K) (a := a) (xs := ns.map V.int) (fun i G4 => Same G3 G4 ∧ G4 D = some (.lst ((com (ns.take i) ms).map V.int))) ⟨same_up hD, upd_same⟩ (fun i G _ h => tpS h.1 ta) ?_ ?_⟩
        · rintro i y G4 hy ⟨s4, h4⟩
          obtain ⟨z, hz, rfl⟩ := mapI_get hy
          refine ⟨rfl, _, rfl, _, rfl, b, _, rfl, .inr (tpS s4 tb), rfl, flat_ints ms, _, rfl, ?_⟩
          have t := com_turn (R := fun G' => Same G3 G' ∧ G' D = some (.lst ((com (ns.take (i + 1)) ms).map V.int))) hz len1 hD s4 h4 fun G' a b => ⟨a, b⟩
          refine ite2 (fun e => ?_) fun e => ?_
          · rw [if_pos (show inV _ _ = true from e)] at t
            exact ⟨_, rfl, t⟩
          · rw [if_neg (show ¬ inV _ _ = true from e)] at t
            exact t
        · rintro G4 ⟨s4, h4⟩
          rw [List.length_map, List.take_length] at h4
          refine ⟨D, _, rfl, .inl (SqL.of h4), _, rfl, _, rfl, _, _, rfl, rfl, _, rfl, ?_⟩
          have sH : Same H G4 := s0.trans (s1.trans (s2.trans (s3.trans s4)))
          have fin : ∀ z : Int, z = x → ∀ Nx : Prop, ((x < (com ns ms).length) → Nx) → if decide ((((com ns ms).map V.int).length : Int) ≤ z) = true then Q (.bl false) G4 else Nx := fun z e Nx hn => by
            subst e
            rw [List.length_map]
            refine ite2 (fun e => ?_) fun e => ?_
            · have h := q G4 sH
              have no : safeL c r w x = false := by
                cases e2 : safeL c r w x with
                | false => rfl
                | true =>
                  have h1 := List.all_eq_true.mp e2 ns in1
                  have h2 := of_decide_eq_true (List.all_eq_true.mp h1 ms in2)
                  have h3 := of_decide_eq_true e
                  omega
              rw [no] at h
              exact h
            · refine hn ?_
              have h3 : ¬ ((com ns ms).length : Int) ≤ x := by simpa using e
              omega
          have next : x < (com ns ms).length → ∀ b ∈ M.take (j + 1), x < (com ns b.2).length := fun h b hb => by
            rw [takeS hq2] at hb
            rcases List.mem_append.mp hb with hb | hb; skip
            · exact al2 b hb
            · rw [List.mem_singleton.mp hb]; skip
              exact h
          refine ite2 (fun e => ?_) fun e => ?_
          · rw [if_pos e] at ex
            exact ⟨_, rfl, _, _, rfl, rfl, _, rfl, fin _ ex _ fun h => ⟨⟨_, _, _, rfl⟩, s3.trans s4, next h⟩⟩
          · rw [if_neg e] at ex
            exact ⟨_, _, rfl, rfl, _, rfl, fin _ ex _ fun h => ⟨⟨_, _, _, rfl⟩, s3.trans s4, next h⟩⟩
      · rintro σ G3 ⟨⟨x6, x7, x8, rfl⟩, s3, al2⟩
        refine ⟨⟨_, _, _, _, rfl⟩, s1.trans (s2.trans s3), fun a' ha b hb => ?_⟩
        rw [takeS hq] at ha
        rcases List.mem_append.mp ha with ha | ha; skip
        · exact al a' ha b hb
        · rw [List.mem_singleton.mp ha]; skip
          obtain ⟨⟨m, ms⟩, hm, rfl⟩ := List.mem_map.mp (pM.mem_iff.mpr hb)
          refine al2 (m, ms) ?_
          rw [refs_len, List.take_length]
          exact hm
    · rintro σ G' ⟨⟨x5, x6, x7, x8, rfl⟩, s1, al⟩
      have h := q G' (s0.trans s1)
      have yes : safeL c r w x = true := by
        refine List.all_eq_true.mpr fun ns hn => List.all_eq_true.mpr fun ms hm => decide_eq_true ?_
        obtain ⟨⟨a, ns⟩, ha, rfl⟩ := List.mem_map.mp (pL.mem_iff.mpr hn)
        refine al (a, ns) ?_ ms hm
        rw [refs_len, List.take_length]
        exact ha
      rw [yes] at h
      exact h
end
end Pl

namespace Pl
open L2 PySem PySem.Spec PyProof.Rows
def dI (ns : List Int) : PyData := .tuple (ns.map PyData.int)
theorem dp_ints {K : PySem.W.Frag} {H : Hp} : ∀ ns : List Int, DpAll K H (ns.map V.int) (ns.map PyData.int)
  | [] => .nil
  | n :: ns => .cons (.int n) (dp_ints ns)
theorem lay_ints : ∀ ns : List Int, PyData.canLayAll0 (ns.map PyData.int) = true ∧ PyData.depthAll (ns.map PyData.int) ≤ 1
  | [] => ⟨by simp [PyData.canLayAll0], by simp [PyData.depthAll]⟩
  | n :: ns => by
    obtain ⟨h1, h2⟩ := lay_ints ns
    refine ⟨by simp [PyData.canLayAll0, PyData.canLay0, h1], ?_⟩
    simp only [List.map_cons, PyData.depthAll, PyData.depth]; skip
    omega
theorem shaped_dI (ns : List Int) : SeqAt.shaped (dI ns) = true := by
  obtain ⟨h1, h2⟩ := lay_ints ns
  show (PyData.canLay0 (.tuple _) && decide (PyData.depth (.tuple _) ≤ 64)) = true
  rw [Bool.and_eq_true]
  exact ⟨by simp only [PyData.canLay0]; exact h1, decide_eq_true (by simp only [PyData.depth]; omega)⟩
theorem shaped_two (ns ms : List Int) : SeqAt.shaped (.tuple [dI ns, dI ms]) = true := by
  obtain ⟨h1, h2⟩ := lay_ints ns
  obtain ⟨h3, h4⟩ := lay_ints ms
  show (PyData.canLay0 (.tuple _) && decide (PyData.depth (.tuple _) ≤ 64)) = true
  rw [Bool.and_eq_true]
  refine ⟨?_, decide_eq_true ?_⟩
  · simp only [PyData.canLay0, PyData.canLayAll0, dI, h1, h3]
    rfl
  · simp only [PyData.depth, PyData.depthAll, dI]
    omega
theorem eqv_self {d : PyData} (h : SeqAt.shaped d = true) : PyData.eqv d d = true := by
  have h' : (d.canLay0 && decide (d.depth ≤ 64)) = true := h
  rw [Bool.and_eq_true] at h'
  exact SeqAt.eqv_refl d h'.1
theorem two_dp {K : PySem.W.Frag} {H : Hp} {t a b : Addr} {ns ms : List Int} (h : H t = some (.tup [.ref a, .ref b])) (ha : H a = some (.tup (ns.map V.int))) (hb : H b = some (.tup (ms.map V.int))) : Dp K H (.ref t) (.tuple [dI ns, dI ms]) :=
  .tup (SqT.of h) (.cons (.tup (SqT.of ha) (dp_ints ns)) (.cons (.tup (SqT.of hb) (dp_ints ms)) .nil))
def spRight : Sp := fun vs H Q _ => ∃ (c r w u p : Int), vs = [.int c, .int r, .int w, .int u, .int p] ∧ Rg c r w u p ∧ ∀ H', Same H H' → Q (.bl true) H'
section
variable {P : Program} {K : PySem.W.Frag} {w : World} {base : Heap} {mg : Str → Option Value} {C : Addr}
theorem scRight : FnScope ["_law_count", "_law_read_size", "_law_write_size", "_law_spoilt", "_law_size", "_law_due", "_law_read", "_law_write", "_law_told", "_law_copy"] psL (defScope sRight) := ⟨rfl, rfl, rfl, by decide +kernel, rfl, by decide +kernel, by decide +kernel⟩
theorem ok_right {f : Addr} {fd : FuncData} (F : Fun K "_law_right" "_law_right" sRight f fd) (T : Cst mg) (DL : Df P w K mg base 2 "_law_safe" psL spLSafe) (DS : DfP P w K mg base 5 "is_safe" (spCks C gSafe)) (DO : DfP P w K mg base 6 "lost_case" (spCks C gLost)) (DU : DfP P w K mg base 7 "unruly_case" (spCks C gUnruly)) :
    FnOk P w K mg base CX0 8 f fd psL spRight := by
  obtain ⟨gL, fdL, GL, mL, kL, bL⟩ := DL.ex
  obtain ⟨gS, fdS, _, GS, mS, kS, bS, _⟩ := DS.ex
  obtain ⟨gO, fdO, _, GO, mO, kO, bO, _⟩ := DO.ex
  obtain ⟨gU, fdU, _, GU, mU, kU, bU, _⟩ := DU.ex
  refine F.ok scRight (fun vs H Q E h => ?_) (fun cdv A outer s H vs Q E hr h => ?_)
  · obtain ⟨c, r, w, u, p, rfl, _⟩ := h
    rfl
  · obtain ⟨c, r, w, u, p, rfl, R, q⟩ := h
    have hu : (A.deeper (envOfC "_law_right" (defScope sRight) s.heap.objs.size f cdv)).units + 64 < cLine := by
      have := hr.un
      omega
    refine ⟨_, pss_cons (ps_set (i := 5) scRight.nd rfl (Or.inl rfl) (pe_call GL (hr.mono (by decide)) (by rfl) mL kL bL .nil pass0 (pa_cons (pv 0) (pa_cons (pv 1) (pa_cons (pv 2) (pa_cons (pv 3) (pa_cons (pv 4) pa_nil)))))))
      (pss_cons (ps_if (pt_cmpR op_ne (pe_call (E := fun _ _ _ => False) GS (hr.mono (by decide)) (by rfl) mS kS bS .nil (passes_call takes0 fun _ _ _ _ h => h) (pa_cons (pv 0) (pa_cons (pv 1) (pa_cons (pv 2) (pa_cons (pv 3) (pa_cons (pv 4) pa_nil)))))) (pv 5) (nomark _)) (pss_one (ps_ret pe_bl)) pss_nil)
      (pss_cons (ps_asg (pe_tup (pa_cons (pe_tupRg rfl (by rfl) T.ttup (prg_1 (by rfl) T.rng (pv 1))) (pa_cons (pe_tupRg rfl (by rfl) T.ttup (prg_2 (by rfl) T.rng (pe_op op_sub (pv 0) (pv 2)) (pv 0))) pa_nil))) (pg_tup rfl (pgs_cons (pg_name (i := 6) scRight.nd rfl (Or.inl rfl)) (pgs_cons (pg_name (i := 7) scRight.nd rfl (Or.inr rfl)) pgs_nil))))
      (pss_cons (ps_if (pt_cmpR (op_neD hu) (pe_call (E := fun _ _ _ => False) GO (hr.mono (by decide)) (by rfl) mO kO bO .nil (passes_call takes0 fun _ _ _ _ h => h) (pa_cons (pv 0) (pa_cons (pv 1) (pa_cons (pv 2) (pa_cons (pv 3) (pa_cons (pv 4) pa_nil))))))
        (pe_ifExp (pt_val (pv 5)) pe_non (pe_tup (pa_cons (pv 6) (pa_cons (pv 7) pa_nil)))) (nomark _)) (pss_one (ps_ret pe_bl)) pss_nil)
      (pss_cons (ps_set (i := 8) scRight.nd rfl (Or.inl rfl) (pe_call (E := fun _ _ _ => False) GU (hr.mono (by decide)) (by rfl) mU kU bU .nil (passes_call takes0 fun _ _ _ _ h => h) (pa_cons (pv 0) (pa_cons (pv 1) (pa_cons (pv 2) (pa_cons (pv 3) (pa_cons (pv 4) pa_nil)))))))
      (pss_one (ps_ret (pe_cmpR (op_eqD hu) (pv 8) (pe_ifExp (pt_val (pv 5)) pe_non (pe_callTy call_tuple_of (by rfl) T.ttup (by decide +kernel) (pa_cons (pe_lc (own := [("_law_copy", 9)]) (g := gName 9) (tt := _) rfl scRight.nd (pi_tup (pv 6)) (blkOk_by (own := [("_law_copy", 9)]) (N := ["_law_count", "_law_read_size", "_law_write_size", "_law_spoilt", "_law_size", "_law_due", "_law_read", "_law_write", "_law_told", "_law_copy"]) (sc := defScope sRight) (by decide +kernel))
            (fun _ _ _ _ _ => pg_name (i := 9) scRight.nd rfl (Or.inl rfl)) (fun _ _ _ _ _ => pts_one (pt_cmpR (show OpR _ (compareOp .In) (rIn K false) from op_in_seq) (pv 9) (pv 7) (by rfl))) (fun _ _ _ _ _ => pv 9)) pa_nil))) (nomark _)))))))), ?_⟩
    have hc0 := R.c0
    have hc1 := R.c1
    have hr0 := R.r0
    have hr1 := R.r1
    have hw0 := R.w0
    have hw1 := R.w1
    refine ⟨_, rfl, _, rfl, _, rfl, _, rfl, _, rfl, c, r, w, u, p, rfl, R, fun H1 s1 => ?_⟩
    refine ⟨_, rfl, _, rfl, _, rfl, _, rfl, _, rfl, _, _, _, _, _, rfl, cks_ints R ⟨_, rfl, rfl, _, rfl, ?_⟩⟩
    rw [decide_eq_true rfl]
    refine iteF ?_
    refine ⟨_, rfl, _, rfl, .of_le (by omega) (by omega) (by omega) (by omega), fun a ha => ?_⟩
    refine ⟨_, rfl, _, rfl, _, _, rfl, rfl, _, rfl, _, _, rfl, rfl, .of_le (by omega) (by omega) (by omega) (by omega), fun b hb => ?_⟩
    have sa : Same H1 (upd H1 a (.tup (rgV 0 r))) := same_up ha
    refine ⟨by show 2 ≤ sizeLine; decide, fun t ht => ?_⟩
    have hA : upd (upd (upd H1 a (.tup (rgV 0 r))) b (.tup (rgV (c - w) c))) t (.tup [.ref a, .ref b]) a = some (.tup ((rgI 0 r).map V.int)) := by
      rw [← rgV_int]
      exact same_up ht _ _ (same_up hb _ _ upd_same)
    have hB : upd (upd (upd H1 a (.tup (rgV 0 r))) b (.tup (rgV (c - w) c))) t (.tup [.ref a, .ref b]) b = some (.tup ((rgI (c - w) c).map V.int)) := by
      rw [← rgV_int]
      exact same_up ht _ _ upd_same
    have hT : upd (upd (upd H1 a (.tup (rgV 0 r))) b (.tup (rgV (c - w) c))) t (.tup [.ref a, .ref b]) t = some (.tup [.ref a, .ref b]) := upd_same
    have s2 : Same H (upd (upd (upd H1 a (.tup (rgV 0 r))) b (.tup (rgV (c - w) c))) t (.tup [.ref a, .ref b])) := s1.trans ((sa.trans (same_up hb)).trans (same_up ht))
    generalize upd (upd (upd H1 a (.tup (rgV 0 r))) b (.tup (rgV (c - w) c))) t (.tup [.ref a, .ref b]) = G at hA hB hT s2
    refine ⟨t, _, rfl, SqT.of hT, rfl, _, _, rfl, _, _, rfl, rfl, ?_⟩
    refine ⟨_, rfl, _, rfl, _, rfl, _, rfl, _, rfl, _, _, _, _, _, rfl, cks_ints R ⟨fun e => ?_, fun e x1 x2 x3 G2 s3 h1 h2 h3 => ?_⟩⟩
    · refine ⟨_, rfl, _, rfl, ?_⟩
      rw [e]
      refine iteT ⟨.none, .none, .non, .non, by decide +kernel, by decide +kernel, _, rfl, ?_⟩
      rw [show (!PyData.eqv .none .none) = false from by decide +kernel]
      refine iteF ?_
      refine ⟨_, rfl, _, rfl, _, rfl, _, rfl, _, rfl, _, _, _, _, _, rfl, cks_ints R ⟨fun _ => ?_, fun e2 => ?_⟩⟩
      · refine ⟨_, rfl, _, rfl, _, rfl, ?_⟩
        refine iteT ⟨.none, .none, .non, .non, by decide +kernel, by decide +kernel, ?_⟩
        rw [show PyData.eqv .none .none = true from by decide +kernel]
        exact q _ s2
      · rw [e] at e2
        cases e2
    · refine ⟨_, rfl, _, rfl, ?_⟩
      rw [e]
      refine iteF ?_
      refine ⟨_, rfl, _, rfl, by show 2 ≤ sizeLine; decide, fun t2 ht2 => ?_⟩
      rw [rgV_int] at h1 h2
      have s4 : Same G2 (upd G2 t2 (.tup [.ref a, .ref b])) := same_up ht2
      have dp1 : Dp K (upd G2 t2 (.tup [.ref a, .ref b])) (.ref x3) (.tuple [dI (rgI 0 r), dI (rgI (c - w) c)]) := two_dp (s4 _ _ h3) (s4 _ _ h1) (s4 _ _ h2)
      have dp2 : Dp K (upd G2 t2 (.tup [.ref a, .ref b])) (.ref t2) (.tuple [dI (rgI 0 r), dI (rgI (c - w) c)]) := two_dp upd_same (s4 _ _ (s3 _ _ hA)) (s4 _ _ (s3 _ _ hB))
      refine ⟨_, _, dp1, dp2, shaped_two _ _, shaped_two _ _, _, rfl, ?_⟩
      rw [eqv_self (shaped_two _ _)]
      refine iteF ?_
      refine ⟨_, rfl, _, rfl, _, rfl, _, rfl, _, rfl, _, _, _, _, _, rfl, cks_ints R ⟨fun e2 => ?_, fun _ t3 G3 s5 h5 => ?_⟩⟩
      · rw [e] at e2
        cases e2
      · have hA3 : SqT K G3 a ((rgI 0 r).map V.int) := SqT.of (s5 _ _ (s4 _ _ (s3 _ _ hA)))
        have hB3 : SqT K G3 b ((rgI (c - w) c).map V.int) := SqT.of (s5 _ _ (s4 _ _ (s3 _ _ hB)))
        have len1 : (rgI 0 r).length ≤ 1000 := by
          rw [rgI_len]
          omega
        refine ⟨_, rfl, _, rfl, _, rfl, ?_⟩
        refine iteF ?_
        refine ⟨_, rfl, a, rfl, ⟨_, hA3⟩, fun D hD => lc_tup (K := K) (a := a) (xs := (rgI 0 r).map V.int) (fun i G4 => Same G3 G4 ∧ G4 D = some (.lst ((com ((rgI 0 r).take i) (rgI (c - w) c)).map V.int))) ⟨same_up hD, upd_same⟩ (fun i G _ h => tpS h.1 hA3) ?_ ?_⟩
        · rintro i y G4 hy ⟨s4, h4⟩
          obtain ⟨z, hz, rfl⟩ := mapI_get hy
          refine ⟨rfl, _, rfl, _, rfl, b, _, rfl, .inr (tpS s4 hB3), rfl, flat_ints _, _, rfl, ?_⟩
          have t := com_turn (R := fun G' => Same G3 G' ∧ G' D = some (.lst ((com ((rgI 0 r).take (i + 1)) (rgI (c - w) c)).map V.int))) hz len1 hD s4 h4 fun G' a b => ⟨a, b⟩
          refine ite2 (fun e => ?_) fun e => ?_
          · rw [if_pos (show inV _ _ = true from e)] at t
            exact ⟨_, rfl, t⟩
          · rw [if_neg (show ¬ inV _ _ = true from e)] at t
            exact t
        · rintro G4 ⟨s6, h6⟩
          rw [List.length_map, List.take_length] at h6
          refine ⟨D, _, rfl, .inl ⟨SqL.of h6, fun t4 ht4 => ?_⟩⟩
          refine ⟨_, _, .tup (SqT.of (same_up ht4 _ _ (s6 _ _ h5))) (dp_ints _), .tup (SqT.of upd_same) (dp_ints _), shaped_dI _, shaped_dI _, ?_⟩
          rw [show PyData.eqv (.tuple _) (.tuple _) = true from eqv_self (shaped_dI _)]
          exact q _ (s2.trans (s3.trans (s4.trans (s5.trans (s6.trans (same_up ht4))))))
end
end Pl

namespace Pl
open L2 PySem PySem.Spec PyProof.Rows
/-- the values that are refused -/
def oddL : List PyData := [.none, .bool true, .bool false, .int (-1), .int 0, .int 1, .int 2, .int 3, .int 4, .int 5, .int 6, .int 7, .str "0", .str "1", .str "3"]
theorem odd_all : (oddL.all fun d => d.showable && decide (d.depth ≤ 10) && decide (d.shown.length ≤ sizeLine) && SeqAt.shaped (.list [.str "count", .str d.shown])) = true := by decide +kernel
theorem odd_ok {d : PyData} (h : d ∈ oddL) : Shw d ∧ SeqAt.shaped (.list [.str "count", .str d.shown]) = true := by
  have := List.all_eq_true.mp odd_all d h
  rw [Bool.and_eq_true, Bool.and_eq_true, Bool.and_eq_true] at this
  exact ⟨⟨this.1.1.1, of_decide_eq_true this.1.1.2, of_decide_eq_true this.1.2⟩, this.2⟩
/-- the list of a refusal -/
abbrev outL (d : PyData) : HO := .lst [.str "count", .str d.shown]
def TTr (C : Addr) : (XK → Hp → VK → Prop) → Hp → VK → Prop := fun tl H Q =>
  tl (fun cls d H' => ∃ (dd : Addr) (v : V) (e : PyData), cls = .ref C ∧ d = some dd ∧ H' dd = some (.xd [("told", v)]) ∧ Fl v e ∧ e ∈ oddL ∧ ∀ p, H' p = none → Q (.ref p) (upd H' p (outL e))) H fun v H1 => 2 ≤ sizeLine ∧ ∀ l, H1 l = none → Q (.ref l) (upd H1 l (.lst [.str "told", v]))
structure ErrS (K : PySem.W.Frag) (mg : Str → Option Value) (C : Addr) : Prop where
  gC : mg "NoCount" = some (.ref C)
  is_ : PySem.W.exmOne K (.ref C) (.ref C) = some true
  xf : XfC K C
  no : PySem.W.findIn K (.ref C) "told" = some none
abbrev psT : List Str := ["_law_call", "e"]
theorem scTried : FnScope psT ["_law_call"] (defScope sTried) := ⟨rfl, rfl, rfl, by decide +kernel, rfl, by decide +kernel, by decide +kernel⟩
theorem takes_len {X : Cx} {W : WX} (tk : Takes X W) : Takes X (fun cls d σ H => σ.length = X.N.length → W cls d σ H) := fun u s' ⟨a, B, sI, pins, σ, H, cls, d, e, I, nb, up, sky, na, os, ag, w⟩ => tk u s' ⟨a, B, sI, pins, σ, H, cls, d, e, I, nb, up, sky, na, os, ag, w I.len⟩
theorem pss_ex {X : Cx} {b : List Stmt} {ι : Type} {Pre : ι → Prop} {t : ι → Ends → L2.St → Hp → Prop} (h : ∀ i, Pre i → PSs X b (t i)) : PSs X b (fun D σ H => ∃ i, Pre i ∧ t i D σ H) := ⟨fun pins s σ H D I ⟨i, p, h'⟩ => (h i p).run pins s σ H D I h'⟩
theorem tried_gives {X : Cx} {C g : Addr} {cdg : Value} {q : Str} (hgd : X.A.guards = some []) (hun : X.A.units + 128 < cLine) (T : Cst X.mg) (S : ErrS X.K X.mg C) : LamX.GivesTo X psT "_law_tried" (defScope sTried) g cdg (defBody sTried) "_law_call" q (TTr C) := by
  intro f c' s H Q tl act hc h
  have hu : (X.A.deeper (envOfC "_law_tried" (defScope sTried) s.heap.objs.size g cdg)).units + 64 < cLine := by
    show X.A.units + 3 + 64 < cLine
    omega
  refine ⟨_, pss_one (ps_try_as (X := (cxOf C8.CX0 X.prog X.w X.K X.mg X.base psT "_law_tried" (defScope sTried) g cdg X.A X.stack s H C8.E0).nox) (i := 1) (c := .ref C)
      rfl rfl scTried.nd rfl rfl ⟨rfl, by decide, .inl S.gC⟩ takes0 (fun W pn xe tk _ => pss_ex (Pre := fun Ech : XK => ∀ cls d σ' H', Ech cls d H' → (List.length σ' = 2) → W cls d σ' H') fun Ech hW => pss_one (ps_ret (pe_lst (pa_cons pe_str (pa_cons (act _ pn xe Ech _ _ (takes_len tk) hW) pa_nil)))))
      (fun a oe cls d pn hz hf => pss_one (ps_ret (pe_lst (pa_cons pe_str (pa_cons (pe_callB (call_repr hgd hu) (by rfl) T.rpr (by decide +kernel) (pa_cons (pe_xf S.xf S.no hz hf (pv 1)) pa_nil)) pa_nil)))))), ?_⟩
  refine ⟨_, ?_, rfl, hc, h⟩
  rintro cls d σ' H' ⟨dd, v, e, rfl, rfl, hd, fl, me, q'⟩ hl
  match σ', hl with
  | [y1, y2], _ =>
  refine ⟨true, S.is_, fun _ a ha => ?_, fun q => nomatch q⟩
  exact ⟨_, rfl, rfl, rfl, dd, _, v, rfl, hd, rfl, true, 0, v, e, rfl, fl.dv, (odd_ok me).1, by show 2 ≤ sizeLine; decide, fun l hl => q' l hl⟩
abbrev lamQ : Str := (envOfC "_law_refused" (defScope sRefused) 0 0 (.ref 0)).qual ++ "<lambda>"
/-- two lists of a refusal are alike -/
theorem ne_lists {K : PySem.W.Frag} {G : Hp} {p p2 : Addr} {e : PyData} {Q : VK} (me : e ∈ oddL) (hp : G p = some (outL e)) (hp2 : G p2 = none) (q : Q (.bl false) (upd G p2 (outL e))) : rNeD K (.ref p) (.ref p2) (upd G p2 (outL e)) Q := by
  have sh := (odd_ok me).2
  refine ⟨_, _, .lst (SqL.of (same_up hp2 _ _ hp)) (.cons (.str _) (.cons (.str _) .nil)), .lst (SqL.of upd_same) (.cons (.str _) (.cons (.str _) .nil)), sh, sh, ?_⟩
  rw [eqv_self sh]
  exact q
theorem ck_odd {C : Addr} {v : V} {e : PyData} {lo hi : Int} {H : Hp} {E : XK} {G : Prop} (f : Fl v e) (n : within e lo hi = false) (r : Rais C v H E) : ∃ d, Ck C v d lo hi H E G := ⟨e, f, (fun (y : within e lo hi = true) => by
  rw [n] at y
  cases y), fun _ => r⟩
/-- what is refused, with its bounds -/
def Ods (lo hi : Int) (xs : List V) : Prop := ∀ v ∈ xs, ∃ e, Fl v e ∧ e ∈ oddL ∧ within e lo hi = false
theorem ods_nil {lo hi : Int} : Ods lo hi [] := fun v h => by cases h
theorem ods_cons {lo hi : Int} {v : V} {e : PyData} {xs : List V} (f : Fl v e) (m : e ∈ oddL) (n : within e lo hi = false) (t : Ods lo hi xs) : Ods lo hi (v :: xs) := fun u h => by
  rcases List.mem_cons.mp h with h | h
  · rw [h]
    exact ⟨e, f, m, n⟩
  · exact t u h
theorem odd_succ {c : Int} (a : 1 ≤ c) (b : c ≤ 5) : PyData.int (c + 1) ∈ oddL := by
  have : c = 1 ∨ c = 2 ∨ c = 3 ∨ c = 4 ∨ c = 5 := by omega
  rcases this with rfl | rfl | rfl | rfl | rfl <;> simp [oddL]
theorem within_hi {i lo hi : Int} (h : hi < i) : within (.int i) lo hi = false := by
  show (decide (lo ≤ i) && decide (i ≤ hi)) = false
  rw [decide_eq_false (by omega : ¬ i ≤ hi), Bool.and_false]
theorem within_lo {i lo hi : Int} (h : i < lo) : within (.int i) lo hi = false := by
  show (decide (lo ≤ i) && decide (i ≤ hi)) = false
  rw [decide_eq_false (by omega : ¬ lo ≤ i), Bool.false_and]
theorem if_odd {K : PySem.W.Frag} {C Pt : Addr} {t : XK → TE} {v : V} {e : PyData} {σ : L2.St} {G : Hp} {D : Ends} (hσ : σ[4]? = some (some v)) (f : Fl v e) (me : e ∈ oddL) (hT : LamX.Tabs [(Pt, lamQ)] G)
    (raise : ∀ (E : XK) (H1 : Hp) (Q' : VK), Rais C v H1 E → t E σ H1 Q') (next : ∀ G', LamX.ExtN G G' → LamX.Tabs [(Pt, lamQ)] G' → D.nx σ G') :
    tIfS (tTest (tOp (rNeD K) (LamX.tLam [(Pt, lamQ)] (TTr C) t) (tLst (tCons (tC (V.str "count")) (tCons (tCB rRepr (tCons (tVar 4) tNil)) tNil))))) (tRet (tC (V.bl false))) tNext D σ G := by
  refine ⟨hT, fun H1 eN T1 => raise _ H1 _ fun dd H' s' hd => ⟨dd, v, e, rfl, rfl, hd, f, me, fun p hp => ?_⟩⟩
  refine ⟨v, hσ, true, 0, v, e, rfl, f.dv, (odd_ok me).1, by show 2 ≤ sizeLine; decide, fun p2 hp2 => ?_⟩
  have s2 : Same H1 (upd (upd H' p (outL e)) p2 (outL e)) := s'.trans ((same_up hp).trans (same_up hp2))
  exact ne_lists me upd_same hp2 ⟨_, rfl, iteF (next _ (eN.trans (LamX.ExtN.of s2)) (T1.ext s2))⟩
theorem for_odd {K : PySem.W.Frag} {Pt p : Addr} {xs : List V} {lo hi : Int} {tb : TS} {D : Ends} {x0 x1 x2 x3 x4 : Option V} {G0 : Hp} (hp : G0 p = some (.lst xs)) (ods : Ods lo hi xs) (T0 : LamX.Tabs [(Pt, lamQ)] G0)
    (turn : ∀ v e G, Fl v e → e ∈ oddL → within e lo hi = false → LamX.Tabs [(Pt, lamQ)] G → ∀ D' : Ends, D'.rt = D.rt → (∀ G', LamX.ExtN G G' → LamX.Tabs [(Pt, lamQ)] G' → D'.nx [x0, x1, x2, x3, some v] G') → tb D' [x0, x1, x2, x3, some v] G)
    (done : ∀ y G, LamX.ExtN G0 G → LamX.Tabs [(Pt, lamQ)] G → D.nx [x0, x1, x2, x3, y] G) :
    ∃ W : Nat → Nat → L2.St → Hp → Prop, (∃ m, W 0 m [x0, x1, x2, x3, x4] G0) ∧ ∀ i m σ H, W i m σ H → ((Itl K p).stop i H ∧ D.nx σ H) ∨
      ((Itl K p).go i H ∧ ∃ N : L2.St → Hp → Prop, (∀ σ' H', N σ' H' → ∃ m', m' < m ∧ W (i + 1) m' σ' H') ∧ ∀ x H', (Itl K p).yld i H x H' → (gName 4) x σ H' fun σ2 H2 => tb { D with nx := N, ct := N, bk := D.nx } σ2 H2) := by
  refine for_list (K := K) (a := p) (xs := xs) (fun i σ G => (∃ y, σ = [x0, x1, x2, x3, y]) ∧ LamX.ExtN G0 G ∧ LamX.Tabs [(Pt, lamQ)] G) ⟨⟨_, rfl⟩, LamX.ExtN.refl _, T0⟩ (fun i σ G _ h => SqL.of (h.2.1 _ _ hp fun _ q => by cases q)) ?_ ?_
  · rintro i y σ G hy ⟨⟨z, rfl⟩, e1, t1⟩
    obtain ⟨e, f, m, n⟩ := ods y (List.mem_of_getElem? hy)
    exact turn y e G f m n t1 _ rfl fun G' eN T' => ⟨⟨_, rfl⟩, e1.trans eN, T'⟩
  · rintro σ G ⟨⟨z, rfl⟩, e1, t1⟩
    exact done z G e1 t1
def spRefused (Pt : Addr) : Sp := fun vs H Q _ => ∃ (c r w u : Int), vs = [.int c, .int r, .int w, .int u] ∧ Rg c r w u 1 ∧ LamX.Tabs [(Pt, lamQ)] H ∧ ∀ H', LamX.ExtN H H' → LamX.Tabs [(Pt, lamQ)] H' → Q (.bl true) H'
abbrev psR : List Str := ["_law_count", "_law_read_size", "_law_write_size", "_law_spoilt"]
theorem scRefused : FnScope ["_law_count", "_law_read_size", "_law_write_size", "_law_spoilt", "_law_odd"] psR (defScope sRefused) := ⟨rfl, rfl, rfl, by decide +kernel, rfl, by decide +kernel, by decide +kernel⟩
section
variable {P : Program} {K : PySem.W.Frag} {w : World} {base : Heap} {mg : Str → Option Value} {C cd Pt : Addr}
theorem ok_refused {f gT : Addr} {fd fdT : FuncData} (F : FunC K "_law_refused" "_law_refused" sRefused f cd fd) (T : Cst mg) (S : ErrS K mg C) (TB : LamX.TabB base mg cd Pt) (FT : Fun K "_law_tried" "_law_tried" sTried gT fdT) (mT : mg "_law_tried" = some (.ref gT)) (bT : Binds K fdT ["_law_call"] [])
    (DS : DfP P w K mg base 5 "is_safe" (spCks C gSafe)) (DO : DfP P w K mg base 6 "lost_case" (spCks C gLost)) (DU : DfP P w K mg base 7 "unruly_case" (spCks C gUnruly)) : FnG P w K mg base 10 f fd psR (spRefused Pt) := by
  obtain ⟨oc, od, kV, doc, pm, an, cdv, ct, osl, rfl, lT, hcT⟩ := FT.ex
  have kT := FT.kp
  obtain ⟨gS, fdS, d4S, GS, mS, kS, bS, bS4, vS4⟩ := DS.ex
  obtain ⟨gO, fdO, d4O, GO, mO, kO, bO, bO4, vO4⟩ := DO.ex
  obtain ⟨gU, fdU, d4U, GU, mU, kU, bU, bU4, vU4⟩ := DU.ex
  refine okC F scRefused (fun vs H Q E h => ?_) (fun A outer s H vs Q E hgd hr h => ?_)
  · obtain ⟨c, r, w, u, rfl, _⟩ := h
    rfl
  · obtain ⟨c, r, w, u, rfl, R, hT, q⟩ := h
    have hu : (A.deeper (envOfC "_law_refused" (defScope sRefused) s.heap.objs.size f (.ref cd))).units + 64 < cLine := by
      have := hr.un
      omega
    have hun : (A.deeper (envOfC "_law_refused" (defScope sRefused) s.heap.objs.size f (.ref cd))).units + 128 < cLine := by
      have := hr.un
      omega
    refine ⟨_, pss_cons (ps_for PassesOwn.never rfl (pi_list (pe_lst (pa_cons pe_non (pa_cons pe_int (pa_cons pe_int (pa_cons pe_bl (pa_cons pe_str pa_nil))))))) (pg_name (i := 4) scRefused.nd rfl (Or.inr rfl))
        (pss_cons (ps_if (pt_cmpR (op_neD hu) (LamX.pe_lamcall (x := "_law_tried") (a := "_law_call") (T := [(Pt, lamQ)]) (TT := TTr C) (k := 7) (by rfl) mT kT lT hcT bT scTried rfl (Or.inl rfl) (tried_gives hgd hun T S) TB rfl (List.mem_singleton.mpr rfl) (fun p hp _ => by rw [List.mem_singleton.mp hp]; rfl) hr (show LamX.LamS (defScope sRefused) _ from LamX.lamS_by (by decide +kernel)) rfl (fun _ _ _ _ _ => rfl) (fun A outer s H E f c' hr2 => pe_call (E := E) GS (hr2.mono (by decide)) (by rfl) mS kS bS .nil (passes_call (takes_of rfl rfl rfl rfl) fun _ _ _ _ h => h) (pa_cons (pv 4) (pa_cons pe_non (pa_cons pe_non (pa_cons pe_non (pa_cons pe_non pa_nil)))))))
          (pe_lst (pa_cons pe_str (pa_cons (pe_callB (call_repr hgd hu) (by rfl) T.rpr (by decide +kernel) (pa_cons (pv 4) pa_nil)) pa_nil))) (nomark _)) (pss_one (ps_ret pe_bl)) pss_nil)
        (pss_one (ps_if (pt_cmpR (op_neD hu) (LamX.pe_lamcall (x := "_law_tried") (a := "_law_call") (T := [(Pt, lamQ)]) (TT := TTr C) (k := 7) (by rfl) mT kT lT hcT bT scTried rfl (Or.inl rfl) (tried_gives hgd hun T S) TB rfl (List.mem_singleton.mpr rfl) (fun p hp _ => by rw [List.mem_singleton.mp hp]; rfl) hr (show LamX.LamS (defScope sRefused) _ from LamX.lamS_by (by decide +kernel)) rfl (fun _ _ _ _ _ => rfl) (fun A outer s H E f c' hr2 => pe_call (E := E) GO (hr2.mono (by decide)) (by rfl) mO kO bO4 vO4 (passes_call (takes_of rfl rfl rfl rfl) fun _ _ _ _ h => h) (pa_cons (pv 4) (pa_cons pe_int (pa_cons pe_int (pa_cons pe_int pa_nil))))))
          (pe_lst (pa_cons pe_str (pa_cons (pe_callB (call_repr hgd hu) (by rfl) T.rpr (by decide +kernel) (pa_cons (pv 4) pa_nil)) pa_nil))) (nomark _)) (pss_one (ps_ret pe_bl)) pss_nil))))
      (pss_cons (ps_for PassesOwn.never rfl (pi_list (pe_lst (pa_cons pe_non (pa_cons pe_int (pa_cons (pe_op op_add (pv 0) pe_int) (pa_cons pe_bl (pa_cons pe_str pa_nil))))))) (pg_name (i := 4) scRefused.nd rfl (Or.inr rfl))
        (pss_cons (ps_if (pt_cmpR (op_neD hu) (LamX.pe_lamcall (x := "_law_tried") (a := "_law_call") (T := [(Pt, lamQ)]) (TT := TTr C) (k := 7) (by rfl) mT kT lT hcT bT scTried rfl (Or.inl rfl) (tried_gives hgd hun T S) TB rfl (List.mem_singleton.mpr rfl) (fun p hp _ => by rw [List.mem_singleton.mp hp]; rfl) hr (show LamX.LamS (defScope sRefused) _ from LamX.lamS_by (by decide +kernel)) rfl (fun _ _ _ _ _ => rfl) (fun A outer s H E f c' hr2 => pe_call (E := E) GS (hr2.mono (by decide)) (by rfl) mS kS bS .nil (passes_call (takes_of rfl rfl rfl rfl) fun _ _ _ _ h => h) (pa_cons (pv 0) (pa_cons (pv 4) (pa_cons pe_non (pa_cons pe_non (pa_cons pe_non pa_nil)))))))
          (pe_lst (pa_cons pe_str (pa_cons (pe_callB (call_repr hgd hu) (by rfl) T.rpr (by decide +kernel) (pa_cons (pv 4) pa_nil)) pa_nil))) (nomark _)) (pss_one (ps_ret pe_bl)) pss_nil)
        (pss_one (ps_if (pt_cmpR (op_neD hu) (LamX.pe_lamcall (x := "_law_tried") (a := "_law_call") (T := [(Pt, lamQ)]) (TT := TTr C) (k := 7) (by rfl) mT kT lT hcT bT scTried rfl (Or.inl rfl) (tried_gives hgd hun T S) TB rfl (List.mem_singleton.mpr rfl) (fun p hp _ => by rw [List.mem_singleton.mp hp]; rfl) hr (show LamX.LamS (defScope sRefused) _ from LamX.lamS_by (by decide +kernel)) rfl (fun _ _ _ _ _ => rfl) (fun A outer s H E f c' hr2 => pe_call (E := E) GU (hr2.mono (by decide)) (by rfl) mU kU bU .nil (passes_call (takes_of rfl rfl rfl rfl) fun _ _ _ _ h => h) (pa_cons (pv 0) (pa_cons (pv 1) (pa_cons (pv 4) (pa_cons pe_non (pa_cons pe_non pa_nil)))))))
          (pe_lst (pa_cons pe_str (pa_cons (pe_callB (call_repr hgd hu) (by rfl) T.rpr (by decide +kernel) (pa_cons (pv 4) pa_nil)) pa_nil))) (nomark _)) (pss_one (ps_ret pe_bl)) pss_nil))))
      (pss_cons (ps_for PassesOwn.never rfl (pi_list (pe_lst (pa_cons pe_non (pa_cons (pe_op op_sub pe_int pe_int) (pa_cons (pe_op op_add (pv 0) pe_int) (pa_cons pe_bl (pa_cons pe_str pa_nil))))))) (pg_name (i := 4) scRefused.nd rfl (Or.inr rfl))
        (pss_one (ps_if (pt_cmpR (op_neD hu) (LamX.pe_lamcall (x := "_law_tried") (a := "_law_call") (T := [(Pt, lamQ)]) (TT := TTr C) (k := 7) (by rfl) mT kT lT hcT bT scTried rfl (Or.inl rfl) (tried_gives hgd hun T S) TB rfl (List.mem_singleton.mpr rfl) (fun p hp _ => by rw [List.mem_singleton.mp hp]; rfl) hr (show LamX.LamS (defScope sRefused) _ from LamX.lamS_by (by decide +kernel)) rfl (fun _ _ _ _ _ => rfl) (fun A outer s H E f c' hr2 => pe_call (E := E) GO (hr2.mono (by decide)) (by rfl) mO kO bO .nil (passes_call (takes_of rfl rfl rfl rfl) fun _ _ _ _ h => h) (pa_cons (pv 0) (pa_cons (pv 1) (pa_cons (pv 2) (pa_cons (pv 4) (pa_cons pe_non pa_nil)))))))
          (pe_lst (pa_cons pe_str (pa_cons (pe_callB (call_repr hgd hu) (by rfl) T.rpr (by decide +kernel) (pa_cons (pv 4) pa_nil)) pa_nil))) (nomark _)) (pss_one (ps_ret pe_bl)) pss_nil)))
      (pss_cons (ps_for PassesOwn.never rfl (pi_list (pe_lst (pa_cons pe_non (pa_cons pe_int (pa_cons pe_int (pa_cons pe_bl pa_nil)))))) (pg_name (i := 4) scRefused.nd rfl (Or.inr rfl))
        (pss_one (ps_if (pt_cmpR (op_neD hu) (LamX.pe_lamcall (x := "_law_tried") (a := "_law_call") (T := [(Pt, lamQ)]) (TT := TTr C) (k := 7) (by rfl) mT kT lT hcT bT scTried rfl (Or.inl rfl) (tried_gives hgd hun T S) TB rfl (List.mem_singleton.mpr rfl) (fun p hp _ => by rw [List.mem_singleton.mp hp]; rfl) hr (show LamX.LamS (defScope sRefused) _ from LamX.lamS_by (by decide +kernel)) rfl (fun _ _ _ _ _ => rfl) (fun A outer s H E f c' hr2 => pe_call (E := E) GS (hr2.mono (by decide)) (by rfl) mS kS bS .nil (passes_call (takes_of rfl rfl rfl rfl) fun _ _ _ _ h => h) (pa_cons (pv 0) (pa_cons (pv 1) (pa_cons (pv 2) (pa_cons (pv 3) (pa_cons (pv 4) pa_nil)))))))
          (pe_lst (pa_cons pe_str (pa_cons (pe_callB (call_repr hgd hu) (by rfl) T.rpr (by decide +kernel) (pa_cons (pv 4) pa_nil)) pa_nil))) (nomark _)) (pss_one (ps_ret pe_bl)) pss_nil)))
      (pss_one (ps_ret pe_bl))))), ?_⟩
    have up5 : ∀ {G : Hp} {p : Addr} {xs : List V}, G p = none → LamX.ExtN H G → LamX.Tabs [(Pt, lamQ)] G → LamX.ExtN H (upd G p (.lst xs)) ∧ LamX.Tabs [(Pt, lamQ)] (upd G p (.lst xs)) := fun n e t => ⟨e.trans (LamX.ExtN.of (same_up n)), t.ext (same_up n)⟩
    refine ⟨by show 5 ≤ sizeLine; decide, fun p1 hp1 => ⟨p1, rfl, ⟨_, SqL.of upd_same⟩, for_odd (Pt := Pt) (lo := 1) (hi := 5) upd_same (ods_cons .non (by simp [oddL]) rfl (ods_cons (.int 0) (by simp [oddL]) (by decide) (ods_cons (.int 6) (by simp [oddL]) (by decide) (ods_cons (.bl true) (by simp [oddL]) rfl (ods_cons (.str "3") (by simp [oddL]) rfl ods_nil))))) (up5 hp1 (LamX.ExtN.refl _) hT).2 ?_ ?_⟩⟩
    · intro v e G f m n t1 D' _ nx
      refine if_odd (K := K) rfl f m t1 (fun E H1 Q' r => ⟨v, rfl, v, .non, .non, .non, .non, rfl, ck_odd f n r⟩) fun G1 e2 t2 => ?_
      exact if_odd (K := K) rfl f m t2 (fun E H1 Q' r => ⟨v, rfl, v, .int 1, .int 1, .int 0, .int 2, rfl, ck_odd f n r⟩) fun G2 e3 t3 => nx G2 (e2.trans e3) t3
    intro y1 G1 e1 t1
    have E1 := (up5 hp1 (LamX.ExtN.refl _) hT).1.trans e1
    refine ⟨_, rfl, _, _, rfl, rfl, by show 5 ≤ sizeLine; decide, fun p2 hp2 => ⟨p2, rfl, ⟨_, SqL.of upd_same⟩, for_odd (Pt := Pt) (lo := 1) (hi := c) upd_same (ods_cons .non (by simp [oddL]) rfl (ods_cons (.int 0) (by simp [oddL]) (within_lo (by decide)) (ods_cons (.int (c + 1)) (odd_succ R.c0 R.c1) (within_hi (by omega)) (ods_cons (.bl true) (by simp [oddL]) rfl (ods_cons (.str "1") (by simp [oddL]) rfl ods_nil))))) (up5 hp2 E1 t1).2 ?_ ?_⟩⟩
    · intro v e G f m n t1 D' _ nx
      refine if_odd (K := K) rfl f m t1 (fun E H1 Q' r => ⟨_, rfl, v, rfl, .int c, v, .non, .non, .non, rfl, _, ck_int R.c0 R.c1 fun c' ec _ _ => ?_⟩) fun G1 e2 t2 => ?_
      · cases ec
        exact ck_odd f n r
      · refine if_odd (K := K) rfl f m t2 (fun E H1 Q' ra => ⟨_, rfl, _, rfl, v, rfl, .int c, .int r, v, .non, .non, rfl, _, ck_int R.c0 R.c1 fun c' ec _ _ => ?_⟩) fun G2 e3 t3 => nx G2 (e2.trans e3) t3
        cases ec
        refine ⟨_, ck_int R.r0 R.r1 fun r' er _ _ => ?_⟩
        cases er
        exact ck_odd f n ra
    intro y2 G2 e2 t2
    have E2 := (up5 hp2 E1 t1).1.trans e2
    refine ⟨_, _, rfl, rfl, _, rfl, _, _, rfl, rfl, by show 5 ≤ sizeLine; decide, fun p3 hp3 => ⟨p3, rfl, ⟨_, SqL.of upd_same⟩, for_odd (Pt := Pt) (lo := 0) (hi := c) upd_same (ods_cons .non (by simp [oddL]) rfl (ods_cons (e := .int (-1)) (show Fl (V.int ((0 : Int) - 1)) (PyData.int (-1)) from (show ((0 : Int) - 1) = -1 from by decide) ▸ Fl.int (-1)) (by simp [oddL]) (within_lo (by decide)) (ods_cons (.int (c + 1)) (odd_succ R.c0 R.c1) (within_hi (by omega)) (ods_cons (.bl false) (by simp [oddL]) rfl (ods_cons (.str "0") (by simp [oddL]) rfl ods_nil))))) (up5 hp3 E2 t2).2 ?_ ?_⟩⟩
    · intro v e G f m n t1 D' _ nx
      refine if_odd (K := K) rfl f m t1 (fun E H1 Q' ra => ⟨_, rfl, _, rfl, _, rfl, v, rfl, .int c, .int r, .int w, v, .non, rfl, _, ck_int R.c0 R.c1 fun c' ec _ _ => ?_⟩) nx
      cases ec
      refine ⟨_, ck_int R.r0 R.r1 fun r' er _ _ => ?_⟩
      cases er
      refine ⟨_, ck_int R.w0 R.w1 fun w' ew _ _ => ?_⟩
      cases ew
      exact ck_odd f n ra
    intro y3 G3 e3 t3
    have E3 := (up5 hp3 E2 t2).1.trans e3
    refine ⟨by show 4 ≤ sizeLine; decide, fun p4 hp4 => ⟨p4, rfl, ⟨_, SqL.of upd_same⟩, for_odd (Pt := Pt) (lo := 1) (hi := 6) upd_same (ods_cons .non (by simp [oddL]) rfl (ods_cons (.int 0) (by simp [oddL]) (by decide) (ods_cons (.int 7) (by simp [oddL]) (by decide) (ods_cons (.bl true) (by simp [oddL]) rfl ods_nil)))) (up5 hp4 E3 t3).2 ?_ ?_⟩⟩
    · intro v e G f m n t1 D' _ nx
      refine if_odd (K := K) rfl f m t1 (fun E H1 Q' ra => ⟨_, rfl, _, rfl, _, rfl, _, rfl, v, rfl, .int c, .int r, .int w, .int u, v, rfl, _, ck_int R.c0 R.c1 fun c' ec _ _ => ?_⟩) nx
      cases ec
      refine ⟨_, ck_int R.r0 R.r1 fun r' er _ _ => ?_⟩
      cases er
      refine ⟨_, ck_int R.w0 R.w1 fun w' ew _ _ => ?_⟩
      cases ew
      refine ⟨_, ck_int R.u0 R.u1 fun u' eu _ _ => ?_⟩
      cases eu
      exact ck_odd f n ra
    intro y4 G4 e4 t4
    exact q G4 ((up5 hp4 E3 t3).1.trans e4) t4
end
end Pl

namespace Pl
open L2 PySem PySem.Spec PyProof.Rows
/-- the same of a def as of FnG -/
structure DfG (P : Program) (w : World) (K : PySem.W.Frag) (mg : Str → Option Value) (base : Heap) (k : Nat) (x : Str) (ps : List Str) (sp : Sp) : Prop where
  ex : ∃ (f : Addr) (fd : FuncData), FnG P w K mg base k f fd ps sp ∧ mg x = some (.ref f) ∧ PySem.W.keepIn K (.ref f) = true ∧ Binds K fd ps []
def spLaw (K : PySem.W.Frag) (Pt : Addr) : Sp := fun vs H Q _ => ∃ (a : Addr) (ns : List Int), vs = [.ref a] ∧ SqL K H a (ns.map V.int) ∧ LamX.Tabs [(Pt, lamQ)] H ∧ ∀ H', Q (.bl true) H'
theorem tabs_but {z Pt : Addr} {q : Str} {H G : Hp} (b : But z H G) (s : Src z H) (t : LamX.Tabs [(Pt, q)] H) : LamX.Tabs [(Pt, q)] G := by
  obtain ⟨x, y, hz, _⟩ := s
  intro p hp
  obtain ⟨ps, h1, h2, h3⟩ := t p hp
  have n1 : p.1 ≠ z := fun e => by
    rw [e, hz] at h1
    cases h1
  refine ⟨ps, b _ _ n1 trivial h1, h2, fun pos cv hc => ?_⟩
  obtain ⟨c, e1, e2⟩ := h3 pos cv hc; skip
  have n2 : c ≠ z := fun e => by
    rw [e, hz] at e2
    cases e2
  exact ⟨c, e1, b _ _ n2 trivial e2⟩
theorem ext_but {z : Addr} {H G F : Hp} (e : LamX.ExtN H G) (hz : ∀ b o, H b = some o → (∀ ps, o ≠ .tbl ps) → b ≠ z) (b : But z G F) : LamX.ExtN H F := fun c o h n => b c o (hz c o h n) trivial (e c o h n)
theorem sql_ext {K : PySem.W.Frag} {H G : Hp} {a : Addr} {xs : List V} (e : LamX.ExtN H G) (h : SqL K H a xs) : SqL K G a xs := by
  rcases h with (h | ⟨o, h⟩) | h; skip
  · exact .inl (.inl (e _ _ h fun _ q => by cases q))
  · exact .inl (.inr ⟨o, e _ _ h fun _ q => by cases q⟩)
  · exact .inr h
theorem Src.ext {z : Addr} {H G : Hp} (h : Src z H) (e : LamX.ExtN H G) : Src z G := by
  obtain ⟨x, y, hz, r⟩ := h
  exact ⟨x, y, e _ _ hz (fun _ q => by cases q), r⟩
theorem Src.same {z : Addr} {H G : Hp} (h : Src z H) (e : Same H G) : Src z G := h.ext (LamX.ExtN.of e)
section
variable {P : Program} {w : World} {K : PySem.W.Frag} {mg : Str → Option Value} {base : Heap} {C Pt : Addr}
theorem scLaw : FnScope ["_law_script", "_law_k", "_law_source", "_law_count", "_law_turn", "_law_read_size", "_law_write_size", "_law_spoilt", "_law_size"] ["_law_script"] (defScope sLaw) := ⟨rfl, rfl, rfl, by decide +kernel, rfl, by decide +kernel, by decide +kernel⟩
theorem ok_law {f : Addr} {fd : FuncData} (F : Fun K "law" "law" sLaw f fd) (T : Cst mg) (DP : Df P w K mg base 1 "_law_pool" ["_law_script", "_law_k"] (spPool K)) (DT : Df P w K mg base 1 "_law_take" ["_law_source", "_law_top"] spTake) (DO : Df P w K mg base 2 "_law_one" ["_law_source", "_law_things"] spOne)
    (DR : Df P w K mg base 8 "_law_right" psL spRight) (DS : DfP P w K mg base 5 "is_safe" (spCks C gSafe)) (DL : Df P w K mg base 2 "_law_safe" psL spLSafe) (DF : DfG P w K mg base 10 "_law_refused" psR (spRefused Pt)) : FnG P w K mg base 11 f fd ["_law_script"] (spLaw K Pt) := by
  obtain ⟨gP, fdP, GP, mP, kP, bP⟩ := DP.ex
  obtain ⟨gT, fdT, GT, mT, kT, bT⟩ := DT.ex
  obtain ⟨gO, fdO, GO, mO, kO, bO⟩ := DO.ex
  obtain ⟨gR, fdR, GR, mR, kR, bR⟩ := DR.ex
  obtain ⟨gS, fdS, d4S, GS, mS, kS, bS, bS4, vS4⟩ := DS.ex
  obtain ⟨gL, fdL, GL, mL, kL, bL⟩ := DL.ex
  obtain ⟨gF, fdF, GF, mF, kF, bF⟩ := DF.ex
  refine okG F scLaw (fun vs H Q E h => ?_) (fun cdv A outer s H vs Q E hgd hr h => ?_)
  · obtain ⟨a, ns, rfl, _⟩ := h
    rfl
  · obtain ⟨a, ns, rfl, hS, hT, q⟩ := h
    refine ⟨_, pss_cons (ps_for PassesOwn.never rfl (pi_range1 rfl T.rng (pa_cons (pe_callB (call_max2 rfl) (by rfl) T.max_ (by decide +kernel) (pa_cons pe_int (pa_cons (pe_callB (call_min2 rfl) (by rfl) T.min_ (by decide +kernel) (pa_cons pe_int (pa_cons (pe_callB call_len_seq (by rfl) T.len PySem.boot_len (pa_cons (pv 0) pa_nil)) pa_nil))) pa_nil))) pa_nil)) (pg_name (i := 1) scLaw.nd rfl (Or.inl rfl))
        (pss_cons (ps_set (i := 2) scLaw.nd rfl (Or.inl rfl) (pe_call GP (hr.mono (by decide)) (by rfl) mP kP bP .nil pass0 (pa_cons (pv 0) (pa_cons (pv 1) pa_nil))))
        (pss_cons (ps_set (i := 3) scLaw.nd rfl (Or.inl rfl) (pe_op op_add pe_int (pe_call GT (hr.mono (by decide)) (by rfl) mT kT bT .nil pass0 (pa_cons (pv 2) (pa_cons pe_int pa_nil)))))
        (pss_cons (ps_for PassesOwn.never rfl (pi_range1 rfl T.rng (pa_cons pe_int pa_nil)) (pg_name (i := 4) scLaw.nd rfl (Or.inl rfl))
          (pss_cons (ps_par (i := 5) (j := 6) (by rfl) scLaw.nd rfl rfl (by decide) rfl rfl (pa_cons (pe_op op_add pe_int (pe_call GT (hr.mono (by decide)) (by rfl) mT kT bT .nil pass0 (pa_cons (pv 2) (pa_cons (pv 3) pa_nil)))) (pa_cons (pe_op op_add pe_int (pe_call GT (hr.mono (by decide)) (by rfl) mT kT bT .nil pass0 (pa_cons (pv 2) (pa_cons (pv 3) pa_nil)))) pa_nil)) (by rfl))
          (pss_cons (ps_set (i := 7) scLaw.nd rfl (Or.inl rfl) (pe_op op_mod (pe_call GO (hr.mono (by decide)) (by rfl) mO kO bO .nil pass0 (pa_cons (pv 2) (pa_cons (pe_lst (pa_cons pe_int (pa_cons pe_int (pa_cons pe_int (pa_cons (pe_call GT (hr.mono (by decide)) (by rfl) mT kT bT .nil pass0 (pa_cons (pv 2) (pa_cons (pe_op op_add (pv 3) pe_int) pa_nil))) pa_nil))))) pa_nil))) (pe_op op_add (pv 3) pe_int)))
          (pss_cons (ps_set (i := 8) scLaw.nd rfl (Or.inl rfl) (pe_op op_add pe_int (pe_call GT (hr.mono (by decide)) (by rfl) mT kT bT .nil pass0 (pa_cons (pv 2) (pa_cons pe_int pa_nil)))))
          (pss_cons (ps_if (pt_not (pt_val (pe_call GR (hr.mono (by decide)) (by rfl) mR kR bR .nil pass0 (pa_cons (pv 3) (pa_cons (pv 5) (pa_cons (pv 6) (pa_cons (pv 7) (pa_cons (pv 8) pa_nil)))))))) (pss_one (ps_ret pe_bl)) pss_nil)
          (pss_one (ps_if (pt_cmpR op_ne (pe_call (E := fun _ _ _ => False) GS (hr.mono (by decide)) (by rfl) mS kS bS4 vS4 (passes_call takes0 fun _ _ _ _ h => h) (pa_cons (pv 3) (pa_cons (pv 5) (pa_cons (pv 6) (pa_cons (pv 7) pa_nil))))) (pe_call GL (hr.mono (by decide)) (by rfl) mL kL bL .nil pass0 (pa_cons (pv 3) (pa_cons (pv 5) (pa_cons (pv 6) (pa_cons (pv 7) (pa_cons pe_int pa_nil)))))) (nomark _)) (pss_one (ps_ret pe_bl)) pss_nil)))))))
        (pss_one (ps_if (pt_not (pt_val (pe_callG GF hgd hr (by rfl) mF kF bF (pa_cons (pv 3) (pa_cons (pv 5) (pa_cons (pv 6) (pa_cons (pv 7) pa_nil))))))) (pss_one (ps_ret pe_bl)) pss_nil))))))
      (pss_one (ps_ret pe_bl)), ?_⟩
    refine ⟨_, rfl, a, _, rfl, .inl hS, _, _, rfl, _, _, rfl, ?_⟩
    have hb : ∀ L : Int, ∃ N : Nat, N ≤ 4 ∧ (if (if L < 4 then L else 4) > 1 then (if L < 4 then L else 4) else 1) = (N : Int) := fun L => by
      refine ⟨(if (if L < 4 then L else 4) > 1 then (if L < 4 then L else 4) else 1).toNat, ?_, ?_⟩ <;> (split <;> split <;> omega)
    obtain ⟨N, hN, eN⟩ := hb ((ns.map V.int).length : Nat)
    refine ⟨(N : Int), by rw [eN], by omega, by omega, ?_⟩
    refine for_range (n := N) (fun i σ G => (∃ x1 x2 x3 x4 x5 x6 x7 x8, σ = [some (.ref a), x1, x2, x3, x4, x5, x6, x7, x8]) ∧ LamX.ExtN H G ∧ LamX.Tabs [(Pt, lamQ)] G) ⟨⟨_, _, _, _, _, _, _, _, rfl⟩, LamX.ExtN.refl _, hT⟩ ?_ ?_
    · rintro i σ G hi ⟨⟨x1, x2, x3, x4, x5, x6, x7, x8, rfl⟩, e1, t1⟩
      refine ⟨_, rfl, _, rfl, a, ns, _, rfl, sql_ext e1 hS, by omega, by omega, fun z G1 nz s1 z1 => ?_⟩
      have nz0 : ∀ b o, H b = some o → (∀ ps, o ≠ .tbl ps) → b ≠ z := fun b o h no => ne_of_none (e1 _ _ h no) nz
      have eG : LamX.ExtN H G1 := e1.trans (LamX.ExtN.of s1)
      have tG := t1.ext s1
      refine ⟨_, rfl, z, 5, rfl, z1, by omega, by omega, fun r G2 r0 r1 b2 z2 => ⟨_, _, rfl, rfl, ?_⟩⟩
      have e2 := ext_but eG nz0 b2
      have t2 := tabs_but b2 z1 tG
      have c0 : 1 ≤ 1 + r := by omega
      have c1 : 1 + r ≤ 5 := by omega
      refine ⟨5, rfl, by decide, by decide, for_range (n := 5) (fun i σ G => ∃ x1 x4 x5 x6 x7 x8, σ = [some (.ref a), x1, some (.ref z), some (.int (1 + r)), x4, x5, x6, x7, x8] ∧ (0 < i → ∃ rr ww uu, x5 = some (.int rr) ∧ x6 = some (.int ww) ∧ x7 = some (.int uu) ∧ Rg (1 + r) rr ww uu 1) ∧ Src z G ∧ LamX.ExtN H G ∧ LamX.Tabs [(Pt, lamQ)] G)
        ⟨_, _, _, _, _, _, rfl, fun h => absurd h (by decide), z2, e2, t2⟩ ?_ ?_⟩
      · rintro j σ G3 hj ⟨y1, y4, y5, y6, y7, y8, rfl, _, z3, e3, t3⟩
        refine ⟨_, rfl, _, rfl, z, (1 + r), rfl, z3, by omega, by omega, fun r1 G4 q0 q1 b4 z4 => ⟨_, _, rfl, rfl, ?_⟩⟩
        have e4 := ext_but e3 nz0 b4
        have t4 := tabs_but b4 z3 t3
        refine ⟨_, rfl, _, rfl, z, (1 + r), rfl, z4, by omega, by omega, fun r2 G5 p0 p1 b5 z5 => ⟨_, _, rfl, rfl, _, _, rfl, ?_⟩⟩
        have e5 := ext_but e4 nz0 b5
        have t5 := tabs_but b5 z4 t4
        refine ⟨_, rfl, _, rfl, _, rfl, _, _, rfl, rfl, z, (1 + r) + 1, rfl, z5, by omega, by omega, fun r3 G6 m0 m1 b6 z6 => ?_⟩
        have e6 := ext_but e5 nz0 b6
        have t6 := tabs_but b6 z5 t5
        refine ⟨by show 4 ≤ sizeLine; decide, fun l hl => ?_⟩
        obtain ⟨oz, hz⟩ := z6.some
        refine ⟨z, l, [.int 0, .int 0, .int 1, .int r3], rfl, z6.same (same_up hl), (ne_of_none hz hl).symm, upd_same, by simp, (by show 4 ≤ 1000; decide), fun jj v G7 hv b7 z7 => ?_⟩
        have e7 := ext_but (e6.trans (LamX.ExtN.of (same_up hl))) nz0 b7
        have t7 := tabs_but b7 (z6.same (same_up hl)) (t6.ext (same_up hl))
        obtain ⟨n, rfl, n0⟩ : ∃ n : Int, v = .int n ∧ 0 ≤ n := by
          match jj, hv with
          | 0, hv => exact ⟨0, (Option.some.inj hv).symm, by decide⟩
          | 1, hv => exact ⟨0, (Option.some.inj hv).symm, by decide⟩
          | 2, hv => exact ⟨1, (Option.some.inj hv).symm, by decide⟩
          | 3, hv => exact ⟨r3, (Option.some.inj hv).symm, m0⟩
          | _ + 4, hv => cases hv
        refine ⟨_, rfl, _, _, rfl, rfl, _, _, rfl, rfl, by omega, ?_⟩
        have u0 : 0 ≤ n % ((1 + r) + 1) := Int.emod_nonneg _ (by omega)
        have u1 : n % ((1 + r) + 1) < (1 + r) + 1 := Int.emod_lt_of_pos _ (by omega)
        refine ⟨_, rfl, z, 6, rfl, z7, by omega, by omega, fun r4 G8 k0 k1 b8 z8 => ⟨_, _, rfl, rfl, ?_⟩⟩
        have e8 := ext_but e7 nz0 b8
        have t8 := tabs_but b8 z7 t7
        have R : Rg (1 + r) (1 + r1) (1 + r2) (n % ((1 + r) + 1)) (1 + r4) := ⟨c0, c1, by omega, by omega, by omega, by omega, u0, by omega, by omega, by omega⟩
        have R1 : Rg (1 + r) (1 + r1) (1 + r2) (n % ((1 + r) + 1)) 1 := ⟨c0, c1, by omega, by omega, by omega, by omega, u0, by omega, by decide, by decide⟩
        have R2 : Rg (1 + r) (1 + r1) (1 + r2) (n % ((1 + r) + 1)) 2 := ⟨c0, c1, by omega, by omega, by omega, by omega, u0, by omega, by decide, by decide⟩
        refine ⟨_, rfl, _, rfl, _, rfl, _, rfl, _, rfl, _, _, _, _, _, rfl, R, fun G9 s9 => ⟨_, rfl, iteF ?_⟩⟩
        refine ⟨_, rfl, _, rfl, _, rfl, _, rfl, _, _, _, _, _, rfl, cks_ints R2 ⟨_, rfl, _, rfl, _, rfl, _, rfl, _, _, _, _, _, rfl, R2, fun G10 s10 => ?_⟩⟩
        refine ⟨rfl, _, rfl, ?_⟩
        rw [decide_eq_true rfl]
        refine iteF ?_
        exact ⟨_, _, _, _, _, _, rfl, fun _ => ⟨_, _, _, rfl, rfl, rfl, R1⟩, (z8.same s9).same s10, (e8.trans (LamX.ExtN.of s9)).trans (LamX.ExtN.of s10), (t8.ext s9).ext s10⟩
      · rintro σ G3 ⟨y1, y4, y5, y6, y7, y8, rfl, hh, z3, e3, t3⟩
        obtain ⟨rr, ww, uu, rfl, rfl, rfl, R⟩ := hh (by decide)
        refine ⟨_, rfl, _, rfl, _, rfl, _, rfl, (1 + r), rr, ww, uu, rfl, R, t3, fun G' eN T' => ⟨_, rfl, iteF ⟨⟨_, _, _, _, _, _, _, _, rfl⟩, e3.trans eN, T'⟩⟩⟩
    · rintro σ G ⟨⟨x1, x2, x3, x4, x5, x6, x7, x8, rfl⟩, e1, t1⟩
      exact q G
end
end Pl

namespace Pl
open L2 PySem PySem.Spec PyProof.Rows
/-- the law is entered: one table (of the code object c) stands at Pt, nothing is being written out -/
theorem law_callG {P : Program} {w : World} {K : PySem.W.Frag} {mg mb : Str → Option Value} {k : Nat} {fa a c Pt : Addr} {fd : FuncData} {x : Str} {sp : Sp} {t : Shared} {us : List Value} {ns : List Int}
    (kin : K.In t.heap) (gns : t.heap.Ns mainGlobals mg) (bns : t.heap.Ns builtinsNs mb) (bbt : ∀ y : Str, y ≠ "__name__" → mb y = bootBuiltins y) (nol : t.heap.NoLimit) (gen : t.gens = #[])
    (tab : t.heap.get? Pt = some { cls := .none, data := .fields #[] }) (notK : K.lookup Pt = none) (hc : PySem.W.CodeHd t.heap c Pt)
    (bmn : ∃ (bm : Addr) (ob : Obj), mg "__builtins__" = some (.ref bm) ∧ bm ≠ builtinsNs ∧ t.heap.get? bm = some ob ∧ ob.cls = .type "module" ∧ ob.dict = some builtinsNs ∧ ob.data = .plain)
    (la : t.heap.get? a = some { cls := .type "list", data := .seq us.toArray }) (nums : IntsAre us ns) (short : ns.length ≤ sizeLine) (room : Room k callerA)
    (fn : ∀ base : Heap, K.In base → base.Ns mainGlobals mg → LamX.TabB base mg c Pt → FnG P w K mg base k fa fd [x] sp) (bind : ∀ (s : Shared) (u : Value), BindsTo s fd ⟨[u], []⟩ [(x, u)])
    (want : ∀ H : Hp, H Pt = some (.tbl #[]) → SqL K H a (ns.map V.int) → sp [.ref a] H (fun v _ => v = .bl true) fun _ _ _ => True) :
    codeAny (model P w) callerA (.call (.ref fa) ⟨[.ref a], []⟩) (fun r s2 => r = .ok (.ret (.bool true)) ∧ OldK t.heap s2.heap ∧ s2.os = t.os ∧ AllBare s2.gens) t := by
  have rel := vals_ints nums
  have count := nums.length
  have aPt : a ≠ Pt := fun e => by
    rw [e, tab] at la
    have z : Data.fields #[] = Data.seq us.toArray := congrArg Obj.data (Option.some.inj la)
    cases z
  have main : ∀ H : Hp, H Pt = some (.tbl #[]) → (∀ b, H b = none ∨ b = Pt ∨ ∃ o xs, H b = some (.frz o (.lst xs))) → SqL K H a (ns.map V.int) → HOk P w H t.heap → (∀ b, H b ≠ none → b = a ∨ b = Pt) → (H a ≠ none → K.lookup a = none) →
      codeAny (model P w) callerA (.call (.ref fa) ⟨[.ref a], []⟩) (fun r s2 => r = .ok (.ret (.bool true)) ∧ OldK t.heap s2.heap ∧ s2.os = t.os ∧ AllBare s2.gens) t := by
    intro H hPt kinds seq ok only free
    have look : ∀ {b : Addr} {o : Obj}, t.heap.get? b = some o → H b = none → (hidT t.heap H).get? b = some o := fun {b o} e n => hidT_get e n
    have off : ∀ {b : Addr} {o : Obj}, t.heap.get? b = some o → (∀ ws n, o.data ≠ .seq ws n) → o.data ≠ .fields #[] → H b = none := fun {b o} e n1 n2 => by
      cases hb : H b with
      | none => rfl
      | some u =>
        rcases only b (by rw [hb]; simp) with rfl | rfl
        · rw [la] at e
          cases e
          exact absurd rfl (n1 _ _)
        · rw [tab] at e
          cases e
          exact absurd rfl n2
    have nspace : ∀ {b : Addr} {m : Str → Option Value}, t.heap.Ns b m → (hidT t.heap H).Ns b m := fun {b m} ⟨o, es, ep, e, d, r⟩ =>
      ⟨o, es, ep, look e (off e (fun ws n z => by rw [d] at z; cases z) fun z => by rw [d] at z; cases z), d, r⟩
    have kbase : K.In (hidT t.heap H) := fun b o e => look (kin b o e) (by
      cases hb : H b with
      | none => rfl
      | some u =>
        rcases only b (by rw [hb]; simp) with rfl | rfl
        · rw [free (by rw [hb]; simp)] at e
          cases e
        · rw [notK] at e
          cases e)
    obtain ⟨mc, l1, l2⟩ := nol
    have modu : L2.Mod K mg (hidT t.heap H) := ⟨kbase, nspace gns, ⟨mb, nspace bns, bbt⟩, mc, nspace l1, l2⟩
    have tabs : LamX.TabB (hidT t.heap H) mg c Pt := by
      obtain ⟨oc, fs, file, tf, flags, tg, inF, text, tt, e1, r1, r2, r3, r4, r5, r6, r7, r8, r9⟩ := id hc
      obtain ⟨bm, ob, b1, b2, b3, b4, b5, b6⟩ := bmn
      obtain ⟨og, eg, epg, g1, g2, _⟩ := id gns
      refine ⟨⟨oc, fs, file, tf, flags, tg, inF, text, tt, look e1 (off e1 (fun ws n z => ?_) fun z => ?_), r1, r2, r3, r4, r5, r6, r7, r8, r9⟩, ⟨bm, ob, b1, b2, fun z => ?_, fun z => ?_, look b3 (off b3 (fun ws n z => ?_) fun z => ?_), b4, b5, b6⟩, fun z => ?_⟩
      · rw [r2] at z
        cases z
      · rw [r2] at z
        cases z
        simp at r3
      · rw [z, g1] at b3
        cases b3
        rw [g2] at b6
        cases b6
      · rw [z, tab] at b3
        cases b3
        cases b6
      · rw [b6] at z
        cases z
      · rw [b6] at z
        cases z
      · rw [z, tab] at g1
        cases g1
        cases g2
    have env : Env0 P w K mg (hidT t.heap H) callerA [] t H := ⟨rfl, modu, fun b o e => of_hidT e, Nat.le_of_eq (hidT_size _ _), trivial, (fun b hb => absurd (show b ∈ ([] : List Addr) from hb) List.not_mem_nil), ok, .of_eq gen⟩
    refine codeAny_mono ((fn _ kbase (nspace gns) tabs).run callerA [] t H ⟨[.ref a], []⟩ [.ref a] [.ref a] _ _ rfl room env (bind t (.ref a)) (.cons rfl .nil) (want H hPt seq)) ?_
    intro r s2 hr
    match r, hr with
    | .error _, hr => exact False.elim hr
    | .ok .next, hr => exact False.elim hr
    | .ok .brk, hr => exact False.elim hr
    | .ok .cont, hr => exact False.elim hr
    | .ok (.ret u), ⟨v, H2, os, bare, un, ok2, ru, ev⟩ =>
      obtain rfl : v = .bl true := ev
      obtain rfl : u = Value.bool true := ru
      have stay : ∀ b o, b ≠ Pt → t.heap.get? b = some o → s2.heap.get? b = some o := fun b o nb e => by
        rcases kinds b with hb | hb | ⟨ob, xs, hb⟩
        · exact un.keep b o e hb (fun z => absurd (show b ∈ ([] : List Addr) from z) List.not_mem_nil) (by simp)
        · exact absurd hb nb
        · obtain ⟨i1, _⟩ := ok b _ hb
          obtain ⟨i2, _⟩ := ok2 b _ (un.frzs b ob _ hb)
          rw [e] at i1
          cases i1
          exact i2
      obtain ⟨more, grow⟩ := un.tbls Pt #[] hPt
      have now : s2.heap.get? Pt = some { cls := .none, data := .fields (#[] ++ more) } := ok2 Pt _ grow
      refine ⟨rfl, ⟨fun b o e => ?_, fun b o e => ?_⟩, os, bare⟩; skip
      · by_cases hb : b = Pt
        · subst hb
          rw [tab] at e
          cases e
          exact .inr (.inl ⟨(hc.tab tab).isCodeTable, rfl, #[], more, rfl, now⟩)
        · exact .inl (stay b o hb e)
      · by_cases hb : b = Pt
        · subst hb
          exact ⟨_, now⟩
        · exact ⟨o, stay b o hb e⟩
  cases hk : K.lookup a with
  | some o =>
    have e := kin a o hk
    rw [la] at e
    cases e
    refine main (fun b => if b = Pt then some (.tbl #[]) else none) (if_pos rfl) (fun b => ?_) (.inr ⟨_, us.toArray, _, hk, rfl, rfl, rfl, by rw [List.size_toArray, count]; exact short, by simpa using rel⟩) (fun b u z => ?_) (fun b z => ?_) fun z => absurd (if_neg aPt) z
    · by_cases hb : b = Pt
      · exact .inr (.inl hb)
      · exact .inl (if_neg hb)
    · by_cases hb : b = Pt
      · have z2 := (if_pos hb).symm.trans z
        cases z2
        rw [hb]
        exact tab
      · have z2 := (if_neg hb).symm.trans z
        cases z2
    · by_cases hb : b = Pt
      · exact .inr hb
      · exact absurd (if_neg hb) z
  | none =>
    refine main (fun b => if b = a then some (.frz { cls := .type "list", data := .seq us.toArray } (.lst (ns.map V.int))) else if b = Pt then some (.tbl #[]) else none) ((if_neg aPt.symm).trans (if_pos rfl)) (fun b => ?_) (.inl (.inr ⟨_, if_pos rfl⟩)) (fun b u z => ?_) (fun b z => ?_) fun _ => hk
    · by_cases h1 : b = a
      · exact .inr (.inr ⟨_, _, if_pos h1⟩)
      · by_cases h2 : b = Pt
        · exact .inr (.inl h2)
        · exact .inl ((if_neg h1).trans (if_neg h2))
    · by_cases h1 : b = a
      · have z2 := (if_pos h1).symm.trans z
        cases z2
        rw [h1]
        exact ⟨la, by rw [List.length_map]; exact short, us, _, rel, la⟩
      · have z2 := (if_neg h1).symm.trans z
        by_cases h2 : b = Pt
        · have z3 := (if_pos h2).symm.trans z2
          cases z3
          rw [h2]
          exact tab
        · have z3 := (if_neg h2).symm.trans z2
          cases z3
    · by_cases h1 : b = a
      · exact .inl h1
      · by_cases h2 : b = Pt
        · exact .inr h2
        · exact absurd ((if_neg h1).trans (if_neg h2)) z
/-- what the top leaves of the law -/
def LawG (l : PySem.W.OpenLaw) (w : World) (K : PySem.W.Frag) (mg : Str → Option Value) (fa : Addr) (h : Heap) : Prop :=
  ∃ (fd : FuncData) (c Pt : Addr), h.get? Pt = some { cls := .none, data := .fields #[] } ∧ K.lookup Pt = none ∧ PySem.W.CodeHd h c Pt ∧ (∀ (s : Shared) (u : Value), BindsTo s fd ⟨[u], []⟩ [("_law_script", u)]) ∧
    ∀ base : Heap, K.In base → base.Ns mainGlobals mg → LamX.TabB base mg c Pt → FnG l.prog w K mg base 11 fa fd ["_law_script"] (spLaw K Pt)
theorem walkG {l : PySem.W.OpenLaw} {n : Nat} {qp : Program} {loose : List Str} {XP : (Str → Option Value) → Heap → Prop} {YP : World → Heap → Prop} {d : DefRec} {K : Params → PySem.W.Frag}
    (hn : l.most = some n) (hn2 : n ≤ sizeLine) (hdf : d.params.defaults = []) (hY : ∀ (w : World) (h : Heap), YP w h → (K w.params).In h)
    (F : ∀ (w : World) (mg : Str → Option Value) (fa : Addr) (h : Heap), YP w h → (K w.params).In h → h.Ns mainGlobals mg → mg d.name = some (.ref fa) → LawG l w (K w.params) mg fa h) :
    PySem.W.WalkO qp loose XP YP l.row.toRowW d [] (fun f vs => PySem.call f vs) := by
  refine Att.attach_callB hn hdf ?_
  intro w s₀ s₁ mg mb fa o pm cd doc a vs ns G Y ho hd hcd hmg hobj hints hlen hbits hg
  obtain ⟨fd, c, Pt, tab, notK, hc, bind, fn⟩ := F w mg fa _ Y (hY w _ Y) G.T.g hmg
  exact law_callG (hY w _ Y) G.T.g G.T.b G.T.builtins G.T.nolimit hg tab notK hc G.T.bmain hobj hints (Nat.le_trans hlen hn2) ⟨rfl, by decide, by decide⟩ fn bind fun H hPt seq => ⟨a, ns, rfl, seq, fun p hp => by
    rw [List.mem_singleton] at hp
    subst hp
    exact LamX.TabS.nil hPt, fun _ => rfl⟩
end Pl

namespace Pl
open L2 PySem PySem.Spec PyProof.Rows
/-- a def of the top, under its name -/
def AtD (K : PySem.W.Frag) (x : Str) (st : Stmt) : Prop := ∃ (f : Addr) (fd : FuncData), PySem.W.nsIn K mainGlobals x = some (some (.ref f)) ∧ Fun K x x st f fd
/-- one with the default 2 -/
def AtP (K : PySem.W.Frag) (x : Str) (st : Stmt) : Prop := ∃ (f : Addr) (fd : FuncData), PySem.W.nsIn K mainGlobals x = some (some (.ref f)) ∧ FunP K x st f fd
theorem funP_mk {K : PySem.W.Frag} {x : Str} {st : Stmt} {f Td : Addr} {oc kV doc pm cdv ct tc : Value} {od an td : Option Addr} {osl tsl : Array (Option Value)} {tk : Tok} {n : Nat}
    (l : K.lookup f = some ⟨oc, od, .func (PySem.W.fnOf x x (defArgs st) (defBody st) (defScope st) (.ref Td) kV doc pm an cdv ct), osl⟩) (c : PySem.W.codeIn K cdv x = true) (t : K.lookup Td = some ⟨tc, td, .seq #[.int 2 tk] n, tsl⟩) (k : PySem.W.keepIn K (.ref f) = true) :
    FunP K x st f (PySem.W.fnOf x x (defArgs st) (defBody st) (defScope st) (.ref Td) kV doc pm an cdv ct) :=
  ⟨⟨oc, od, _, kV, doc, pm, an, cdv, ct, osl, rfl, l, c, .inr ⟨by simp, Td, _, [.int 2 tk], n, rfl, t, rfl, .cons ⟨_, rfl⟩ .nil⟩, .inl rfl⟩, k⟩
theorem all_mk {l : PySem.W.OpenLaw} {w : World} {K : PySem.W.Frag} {h : Heap} {mg : Str → Option Value} {fa : Addr} (X : K.In h) (G : h.Ns mainGlobals mg) (hfa : mg "law" = some (.ref fa))
    {t1 t2 : Tok} {f37 c37 Pt C fI : Addr} {od37 an37 odI anI odc : Option Addr} {sl37 slI slc : Array (Option Value)} {oc37 kV37 dc37 pm37 ct37 ocI kVI dcI pmI cdI ctI : Value} {vsC : Array Value} {S xN : Addr} {xnm xq : Str} {xbs xsub : List Value} {xsn : List Str} {xab : Bool} {xcol : Option Bool} {xdd : Option Addr} {y0 y1 y2 y3 y5 : Option Value}
    (A0 : AtD K "is_number" sIsNumber)
    (A1 : AtD K "is_within" sIsWithin)
    (A2 : AtD K "in_common" sCommon)
    (A3 : AtD K "check_counts" sCounts)
    (A4 : AtD K "_check_count" sCheck)
    (A5 : AtD K "_law_pool" sPool)
    (A6 : AtD K "_law_take" sTake)
    (A7 : AtD K "_law_one" sOne)
    (A8 : AtD K "_law_all_lots" sLots)
    (A9 : AtD K "_law_tried" sTried)
    (A10 : AtD K "_law_safe" sLSafe)
    (A11 : AtD K "_law_right" sRight)
    (A12 : AtD K "law" sLaw)
    (B0 : AtP K "is_safe" sSafe)
    (B1 : AtP K "lost_case" sLost)
    (B2 : AtP K "unruly_case" sUnruly)
    (z_isinstance : PySem.W.nsIn K mainGlobals "isinstance" = some none)
    (z_len : PySem.W.nsIn K mainGlobals "len" = some none)
    (z_int : PySem.W.nsIn K mainGlobals "int" = some none)
    (z_bool : PySem.W.nsIn K mainGlobals "bool" = some none)
    (z_tuple : PySem.W.nsIn K mainGlobals "tuple" = some none)
    (z_sorted : PySem.W.nsIn K mainGlobals "sorted" = some none)
    (z_range : PySem.W.nsIn K mainGlobals "range" = some none)
    (z_max : PySem.W.nsIn K mainGlobals "max" = some none)
    (z_min : PySem.W.nsIn K mainGlobals "min" = some none)
    (z_repr : PySem.W.nsIn K mainGlobals "repr" = some none)
    (g_MOST_COPIES : PySem.W.nsIn K mainGlobals "MOST_COPIES" = some (some (.int 5 t1)))
    (g_MOST_PAGES : PySem.W.nsIn K mainGlobals "MOST_PAGES" = some (some (.int 6 t2)))
    (n37 : PySem.W.nsIn K mainGlobals "_law_refused" = some (some (.ref f37)))
    (l37 : K.lookup f37 = some ⟨oc37, od37, .func (PySem.W.fnOf "_law_refused" "_law_refused" (defArgs sRefused) (defBody sRefused) (defScope sRefused) .none kV37 dc37 pm37 an37 (.ref c37) ct37), sl37⟩)
    (c37_ : PySem.W.codeIn K (.ref c37) "_law_refused" = true)
    (k37 : PySem.W.keepIn K (.ref f37) = true)
    (lc : K.lookup c37 = some ⟨.type "code", odc, .fields vsC, slc⟩)
    (hP : vsC[11]? = some (.ref Pt))
    (hcd : PySem.W.codeHdIn K c37 Pt = true)
    (notK : K.lookup Pt = none)
    (tab : h.get? Pt = some { cls := .none, data := .fields #[] })
    (nC_ : PySem.W.nsIn K mainGlobals "NoCount" = some (some (.ref C)))
    (xL : K.lookup C = some (excClassObj xnm xq C xN xbs [.ref S, .type "ValueError", .type "Exception", .type "BaseException", .type "object"] true xsn xsub xab xcol xdd y0 y1 y2 y3 y5 "ValueError.__new__"))
    (x5 : PySem.W.findIn K (.ref C) "__setattr__" = some (some (.builtin "object.__setattr__")))
    (x6 : PySem.W.typeIn K (.ref C) = some (.type "type"))
    (x7 : PySem.W.keepIn K (.ref C) = true)
    (iI : PySem.W.findIn K (.ref C) "__init__" = some (some (.ref fI)))
    (tI : PySem.W.typeIn K (.ref fI) = some (.type "function"))
    (nT : PySem.W.findIn K (.ref C) "told" = some none)
    (lI : K.lookup fI = some ⟨ocI, odI, .func (PySem.W.fnOf "__init__" "NoCount.__init__" (defArgs sInit) (defBody sInit) (defScope sInit) .none kVI dcI pmI anI cdI ctI), slI⟩)
    (cI : PySem.W.codeIn K cdI "NoCount.__init__" = true)
    (kI : PySem.W.keepIn K (.ref fI) = true)
    (s4 : PySem.W.subIn K (.ref C) (.ref C) = some true)
    (x1 : PySem.W.findIn K (.ref C) "__getattribute__" = some (some (.builtin "BaseException.__getattribute__")))
    (x2 : PySem.W.findIn K (.ref C) "__getattr__" = some none)
    (x3 : PySem.W.subIn K (.ref C) (.type "BaseException") = some true)
    (x4 : PySem.W.hasDictIn K C = true) : LawG l w K mg fa h := by
  obtain ⟨f0, fd0, n0_, F0⟩ := A0
  obtain ⟨f1, fd1, n1_, F1⟩ := A1
  obtain ⟨f2, fd2, n2_, F2⟩ := A2
  obtain ⟨f3, fd3, n3_, F3⟩ := A3
  obtain ⟨f4, fd4, n4_, F4⟩ := A4
  obtain ⟨f5, fd5, n5_, F5⟩ := A5
  obtain ⟨f6, fd6, n6_, F6⟩ := A6
  obtain ⟨f7, fd7, n7_, F7⟩ := A7
  obtain ⟨f8, fd8, n8_, F8⟩ := A8
  obtain ⟨f9, fd9, n9_, F9⟩ := A9
  obtain ⟨f10, fd10, n10_, F10⟩ := A10
  obtain ⟨f11, fd11, n11_, F11⟩ := A11
  obtain ⟨f12, fd12, n12_, F12⟩ := A12
  obtain ⟨e0, ed0, m0_, G0⟩ := B0
  obtain ⟨e1, ed1, m1_, G1⟩ := B1
  obtain ⟨e2, ed2, m2_, G2⟩ := B2
  have M0 := PySem.W.mg_of X G n0_
  have b0 := F0.binds (ps := ["value"]) fun _ _ _ _ _ _ us hl => match us, hl with | [_], _ => rfl
  have M1 := PySem.W.mg_of X G n1_
  have b1 := F1.binds (ps := ["value", "least", "most"]) fun _ _ _ _ _ _ us hl => match us, hl with | [_, _, _], _ => rfl
  have M2 := PySem.W.mg_of X G n2_
  have b2 := F2.binds (ps := ["one", "other"]) fun _ _ _ _ _ _ us hl => match us, hl with | [_, _], _ => rfl
  have M3 := PySem.W.mg_of X G n3_
  have b3 := F3.binds (ps := ["count", "reads", "writes", "unruly", "pages"]) fun _ _ _ _ _ _ us hl => match us, hl with | [_, _, _, _, _], _ => rfl
  have M4 := PySem.W.mg_of X G n4_
  have b4 := F4.binds (ps := ["value", "least", "most"]) fun _ _ _ _ _ _ us hl => match us, hl with | [_, _, _], _ => rfl
  have M5 := PySem.W.mg_of X G n5_
  have b5 := F5.binds (ps := ["_law_script", "_law_k"]) fun _ _ _ _ _ _ us hl => match us, hl with | [_, _], _ => rfl
  have M6 := PySem.W.mg_of X G n6_
  have b6 := F6.binds (ps := ["_law_source", "_law_top"]) fun _ _ _ _ _ _ us hl => match us, hl with | [_, _], _ => rfl
  have M7 := PySem.W.mg_of X G n7_
  have b7 := F7.binds (ps := ["_law_source", "_law_things"]) fun _ _ _ _ _ _ us hl => match us, hl with | [_, _], _ => rfl
  have M8 := PySem.W.mg_of X G n8_
  have b8 := F8.binds (ps := ["_law_copies_here", "_law_size"]) fun _ _ _ _ _ _ us hl => match us, hl with | [_, _], _ => rfl
  have M9 := PySem.W.mg_of X G n9_
  have b9 := F9.binds (ps := ["_law_call"]) fun _ _ _ _ _ _ us hl => match us, hl with | [_], _ => rfl
  have M10 := PySem.W.mg_of X G n10_
  have b10 := F10.binds (ps := ["_law_count", "_law_read_size", "_law_write_size", "_law_spoilt", "_law_size"]) fun _ _ _ _ _ _ us hl => match us, hl with | [_, _, _, _, _], _ => rfl
  have M11 := PySem.W.mg_of X G n11_
  have b11 := F11.binds (ps := ["_law_count", "_law_read_size", "_law_write_size", "_law_spoilt", "_law_size"]) fun _ _ _ _ _ _ us hl => match us, hl with | [_, _, _, _, _], _ => rfl
  have M12 := PySem.W.mg_of X G n12_
  have b12 := F12.binds (ps := ["_law_script"]) fun _ _ _ _ _ _ us hl => match us, hl with | [_], _ => rfl
  have N0 := PySem.W.mg_of X G m0_
  have N1 := PySem.W.mg_of X G m1_
  have N2 := PySem.W.mg_of X G m2_
  have e := hfa.symm.trans M12
  cases e
  have T : Cst mg := ⟨(PySem.W.mg_none_of X G z_isinstance), (PySem.W.mg_none_of X G z_len), (PySem.W.mg_none_of X G z_int), (PySem.W.mg_none_of X G z_bool), (PySem.W.mg_none_of X G z_tuple), (PySem.W.mg_none_of X G z_sorted), (PySem.W.mg_none_of X G z_range), (PySem.W.mg_none_of X G z_max), (PySem.W.mg_none_of X G z_min), (PySem.W.mg_none_of X G z_repr), ⟨_, PySem.W.mg_of X G g_MOST_COPIES⟩, ⟨_, PySem.W.mg_of X G g_MOST_PAGES⟩⟩
  have ox : OexC K C := ⟨⟨_, _, _, _, _, _, _, _, _, _, _, _, _, _, _, xL, by rfl⟩, x5, x3, x6, x7⟩
  have TE : ErrT K mg C fI := ⟨ox, PySem.W.mg_of X G nC_, iI, tI, nT⟩
  have TS : ErrS K mg C := ⟨PySem.W.mg_of X G nC_, PySem.W.exm_ref x3 x4 x6 s4, ⟨x1, x2, x3, x4⟩, nT⟩
  have FI := fun_mk (st := sInit) lI cI kI
  have bI := FI.binds (ps := ["self", "told"]) fun _ _ _ _ _ _ us hl => match us, hl with | [_, _], _ => rfl
  obtain ⟨oc', od', kV', doc', pm', an', cdv', ct', osl', rfl, lk', hcd'⟩ := F12.ex
  have FL := fun_mk (st := sLaw) lk' hcd' F12.kp
  refine ⟨PySem.W.fnOf "law" "law" (defArgs sLaw) (defBody sLaw) (defScope sLaw) .none kV' doc' pm' an' cdv' ct', c37, Pt, tab, notK, PySem.W.codeHd_of_K X hcd, fun s v => .of_eq rfl, fun base _ _ TB => ?_⟩
  have D0 : Df l.prog w K mg base 1 "is_number" ["value"] spN := ⟨f0, fd0, ok_number F0 T, M0, F0.kp, b0⟩
  have D1 : Df l.prog w K mg base 2 "is_within" ["value", "least", "most"] spW := ⟨f1, fd1, ok_within F1 D0, M1, F1.kp, b1⟩
  have D2 : Df l.prog w K mg base 1 "in_common" ["one", "other"] (spCommon K) := ⟨f2, fd2, ok_common F2 T, M2, F2.kp, b2⟩
  have GI := ok_init (P := l.prog) (w := w) (mg := mg) (base := base) FI
  have D4 : DfX l.prog w K mg base 3 "_check_count" ["value", "least", "most"] (spCk C) := ⟨f4, fd4, ok_check F4 TE GI bI D1, M4, F4.kp, b4⟩
  have D3 : DfX l.prog w K mg base 4 "check_counts" ["count", "reads", "writes", "unruly", "pages"] (spCks C fun _ _ _ _ _ H Q => Q .non H) := ⟨f3, fd3, ok_counts F3 T D4, M3, F3.kp, b3⟩
  have E0 : DfP l.prog w K mg base 5 "is_safe" (spCks C gSafe) := dfP G0 (ok_safe G0 D3) N0 (fun _ _ _ _ _ _ _ us its hl hi => match us, its, hl, hi with | [_, _, _, _, _], [_], _, _ => ⟨_, rfl, rfl⟩) (fun _ _ _ _ _ _ _ us its hl hi => match us, its, hl, hi with | [_, _, _, _], [_], _, _ => ⟨_, rfl, rfl⟩)
  have E1 : DfP l.prog w K mg base 6 "lost_case" (spCks C gLost) := dfP G1 (ok_lost G1 T E0) N1 (fun _ _ _ _ _ _ _ us its hl hi => match us, its, hl, hi with | [_, _, _, _, _], [_], _, _ => ⟨_, rfl, rfl⟩) (fun _ _ _ _ _ _ _ us its hl hi => match us, its, hl, hi with | [_, _, _, _], [_], _, _ => ⟨_, rfl, rfl⟩)
  have E2 : DfP l.prog w K mg base 7 "unruly_case" (spCks C gUnruly) := dfP G2 (ok_unruly G2 T E1 D2) N2 (fun _ _ _ _ _ _ _ us its hl hi => match us, its, hl, hi with | [_, _, _, _, _], [_], _, _ => ⟨_, rfl, rfl⟩) (fun _ _ _ _ _ _ _ us its hl hi => match us, its, hl, hi with | [_, _, _, _], [_], _, _ => ⟨_, rfl, rfl⟩)
  have D5 : Df l.prog w K mg base 1 "_law_pool" ["_law_script", "_law_k"] (spPool K) := ⟨f5, fd5, ok_pool F5 T, M5, F5.kp, b5⟩
  have D6 : Df l.prog w K mg base 1 "_law_take" ["_law_source", "_law_top"] spTake := ⟨f6, fd6, ok_take F6 T, M6, F6.kp, b6⟩
  have D7 : Df l.prog w K mg base 2 "_law_one" ["_law_source", "_law_things"] spOne := ⟨f7, fd7, ok_one F7 T D6, M7, F7.kp, b7⟩
  have D8 : Df l.prog w K mg base 1 "_law_all_lots" ["_law_copies_here", "_law_size"] (spLots K) := ⟨f8, fd8, ok_lots F8 T, M8, F8.kp, b8⟩
  have D10 : Df l.prog w K mg base 2 "_law_safe" ["_law_count", "_law_read_size", "_law_write_size", "_law_spoilt", "_law_size"] spLSafe := ⟨f10, fd10, ok_lsafe F10 T D8, M10, F10.kp, b10⟩
  have D11 : Df l.prog w K mg base 8 "_law_right" ["_law_count", "_law_read_size", "_law_write_size", "_law_spoilt", "_law_size"] spRight := ⟨f11, fd11, ok_right F11 T D10 E0 E1 E2, M11, F11.kp, b11⟩
  have DV : DfG l.prog w K mg base 10 "_law_refused" psR (spRefused Pt) := ⟨f37, _, ok_refused ⟨oc37, od37, kV37, dc37, pm37, an37, ct37, sl37, rfl, l37, c37_⟩ T TS TB F9 M9 b9 E0 E1 E2, PySem.W.mg_of X G n37, k37, .all fun us hl => match us, hl with | [_, _, _, _], _ => rfl⟩
  exact ok_law FL T D5 D6 D7 D11 E0 D10 DV
end Pl

open PyProof.Rows PySem PySem.W in
set_option maxRecDepth 100001 in
set_option maxHeartbeats 0 in
theorem PySem.Challenge.cw_plainstore_k25_counts_of_reads_holds : PySem.Challenge.rw_plainstore_k25_counts_of_reads.Holds := by
  (w_on; o_law; k_head); (case hw => w_witness2)
  k_fill
  refine Pl.walkG (l := PySem.Challenge.rw_plainstore_k25_counts_of_reads) rfl (by decide) rfl (fun w h Y => km_in_of Y) ?F
  case F =>
    intro w mg fa h Y KX G hmg
    refine' Pl.all_mk KX G hmg ?A0 ?A1 ?A2 ?A3 ?A4 ?A5 ?A6 ?A7 ?A8 ?A9 ?A10 ?A11 ?A12 ?B0 ?B1 ?B2 ?z_isinstance ?z_len ?z_int ?z_bool ?z_tuple ?z_sorted ?z_range ?z_max ?z_min ?z_repr ?g_MOST_COPIES ?g_MOST_PAGES ?n37 ?l37 ?c37_ ?k37 ?lc ?hP ?hcd ?notK ?tab ?nC_ ?xL ?x5 ?x6 ?x7 ?iI ?tI ?nT ?lI ?cI ?kI ?s4 ?x1 ?x2 ?x3 ?x4
    (case A0 => (refine' ⟨_, _, ?a, L2.fun_mk ?l ?c ?k⟩; (case a => k_is); (case l => k_is); (case c => k_is); (case k => k_is)))
    (case A1 => (refine' ⟨_, _, ?a, L2.fun_mk ?l ?c ?k⟩; (case a => k_is); (case l => k_is); (case c => k_is); (case k => k_is)))
    (case A2 => (refine' ⟨_, _, ?a, L2.fun_mk ?l ?c ?k⟩; (case a => k_is); (case l => k_is); (case c => k_is); (case k => k_is)))
    (case A3 => (refine' ⟨_, _, ?a, L2.fun_mk ?l ?c ?k⟩; (case a => k_is); (case l => k_is); (case c => k_is); (case k => k_is)))
    (case A4 => (refine' ⟨_, _, ?a, L2.fun_mk ?l ?c ?k⟩; (case a => k_is); (case l => k_is); (case c => k_is); (case k => k_is)))
    (case A5 => (refine' ⟨_, _, ?a, L2.fun_mk ?l ?c ?k⟩; (case a => k_is); (case l => k_is); (case c => k_is); (case k => k_is)))
    (case A6 => (refine' ⟨_, _, ?a, L2.fun_mk ?l ?c ?k⟩; (case a => k_is); (case l => k_is); (case c => k_is); (case k => k_is)))
    (case A7 => (refine' ⟨_, _, ?a, L2.fun_mk ?l ?c ?k⟩; (case a => k_is); (case l => k_is); (case c => k_is); (case k => k_is)))
    (case A8 => (refine' ⟨_, _, ?a, L2.fun_mk ?l ?c ?k⟩; (case a => k_is); (case l => k_is); (case c => k_is); (case k => k_is)))
    (case A9 => (refine' ⟨_, _, ?a, L2.fun_mk ?l ?c ?k⟩; (case a => k_is); (case l => k_is); (case c => k_is); (case k => k_is)))
    (case A10 => (refine' ⟨_, _, ?a, L2.fun_mk ?l ?c ?k⟩; (case a => k_is); (case l => k_is); (case c => k_is); (case k => k_is)))
    (case A11 => (refine' ⟨_, _, ?a, L2.fun_mk ?l ?c ?k⟩; (case a => k_is); (case l => k_is); (case c => k_is); (case k => k_is)))
    (case A12 => (refine' ⟨_, _, ?a, L2.fun_mk ?l ?c ?k⟩; (case a => k_is); (case l => k_is); (case c => k_is); (case k => k_is)))
    (case B0 => (refine' ⟨_, _, ?a, Pl.funP_mk ?l ?c ?t ?k⟩; (case a => k_is); (case l => k_is); (case c => k_is); (case t => k_is); (case k => k_is)))
    (case B1 => (refine' ⟨_, _, ?a, Pl.funP_mk ?l ?c ?t ?k⟩; (case a => k_is); (case l => k_is); (case c => k_is); (case t => k_is); (case k => k_is)))
    (case B2 => (refine' ⟨_, _, ?a, Pl.funP_mk ?l ?c ?t ?k⟩; (case a => k_is); (case l => k_is); (case c => k_is); (case t => k_is); (case k => k_is)))
    (case z_isinstance => k_is)
    (case z_len => k_is)
    (case z_int => k_is)
    (case z_bool => k_is)
    (case z_tuple => k_is)
    (case z_sorted => k_is)
    (case z_range => k_is)
    (case z_max => k_is)
    (case z_min => k_is)
    (case z_repr => k_is)
    (case g_MOST_COPIES => k_is)
    (case g_MOST_PAGES => k_is)
    (case n37 => k_is)
    (case l37 => k_is)
    (case c37_ => k_is)
    (case k37 => k_is)
    (case lc => k_is)
    (case hP => rfl)
    (case hcd => kernel_rfl)
    (case notK => kernel_rfl)
    (case tab => exact PySem.W.km_tabs_of Y _ (by simp))
    (case nC_ => k_is)
    (case xL => k_is)
    (case x5 => k_is)
    (case x6 => k_is)
    (case x7 => k_is)
    (case iI => k_is)
    (case tI => k_is)
    (case nT => k_is)
    (case lI => k_is)
    (case cI => k_is)
    (case kI => k_is)
    (case s4 => k_is)
    (case x1 => k_is)
    (case x2 => k_is)
    (case x3 => k_is)
    (case x4 => k_is)

