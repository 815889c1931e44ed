import PyProof.Rows.All
import Wide.All
import OpenK.AllK
import Wide.FinOn
import PySem.Challenge.RW_cornerlines_k28_trouble_of_any_paths
import HandS.ForMost
import HandS.Wide
import HandS.EndBits
import HandS.AnyAll
import HandS.EndTab
import PyProof.ReprRoads
import KE.KRevSl
import HandS.IsInst
import HandS.TryOnly
import PyProof.GenCompD
import KE.KIsAll
import KE.DataMinMax
import HandS.TupSets
import KE.SortData
import HandS.Style
import KE.GoesNew
import KE.GoesMore
import HandS.Iter
import HandS.Zip
import HandS.Star
import HandS.Walk
import HandS.SortInts
import HandS.TupAny
import KE.GoesEnum
import PyProof.WalksPairs
import HandS.Lambda
import KE.KMinKey
import HandS.SortKw
import HandS.GenOver
import HandS.GenList
import PyProof.NeData
import HandS.DictTup
import HandS.SetKeys
import HandS.SortRule
import HandS.Conv
import PyProof.DictMoreH
import KE.KSortTupAny
import HandS.SortOrd
import KE.KeyNested
import PyProof.EqKinds
import PyProof.NeKinds
import PyProof.Rows.IntBool
import PyProof.Rows.ReprOcc
import PyProof.Rows.StrFit
import PyProof.Rows.TupMore
import PyProof.SumAny
import PyProof.ListOps
import Flt.Sum
import KE.SortKeyHeap
set_option Elab.async false
set_option linter.all false
set_option maxRecDepth 100000
namespace Cl
open PySem PySem.Spec PyProof.Rows L2

/-! ### promises of defs that may be shown (repr) what stands on no guard's list -/
structure RG (k : Nat) (A : Around) : Prop where
  room : Room k A
  gd : A.guards = some []
theorem RG.mono {j k : Nat} {A : Around} (r : RG k A) (h : j ≤ k) : RG j A :=
  ⟨r.room.mono h, r.gd⟩
structure FnG (P : Program) (w : World) (K : PySem.W.Frag) (mg : Str → Option Value)
    (base : Heap) (CX : CXT) (k : Nat) (f : Addr) (fd : FuncData) (ps : List Str) (sp : Sp) : Prop where
  len : ∀ vs H Q E, sp vs H Q E → vs.length = ps.length
  run : ∀ A outer s H args us vs Q E, RG k A → Env0 P w K mg base A outer s H →
    BindsTo s fd args (ps.zip us) → Vals vs us → sp vs H Q E →
    codeAny (model P w) A (.call (.ref f) args) (CR CX outer P w H s Q E) s
section
variable {P : Program} {w : World} {K : PySem.W.Frag} {mg : Str → Option Value} {base : Heap} {CX : CXT}
theorem toG {k : Nat} {f : Addr} {fd : FuncData} {ps : List Str} {sp : Sp}
    (F : FnOk P w K mg base CX k f fd ps sp) : FnG P w K mg base CX k f fd ps sp :=
  ⟨F.len, fun A outer s H args us vs Q E r => F.run A outer s H args us vs Q E r.room⟩

/-- a def with what its body does, where no guard is set -/
theorem okG {x qual : Str} {st : Stmt} {f : Addr} {fd : FuncData} {N ps : List Str} {k : Nat} {sp : Sp}
    (F : Fun K x qual st f fd) (S : FnScope N ps (defScope st))
    (len : ∀ vs H Q E, sp vs H Q E → vs.length = ps.length)
    (body : ∀ (cdv : Value) (A : Around) (outer : List Env) (s : Shared) (H : Hp) (vs : List V) (Q : VK) (E : XK),
      RG k (A.deeper (envOfC qual (defScope st) s.heap.objs.size f cdv)) → sp vs H Q E →
      ∃ t, PSs (cxOf CX0 P w K mg base N qual (defScope st) f cdv A outer s H E).nox (defBody st) t ∧
        t { nx := fun _ H' => Q .non H', rt := Q } (start N vs) H) :
    FnG P w K mg base CX0 (k + 1) f fd ps sp := by
  obtain ⟨oc, od, kV, doc, pm, an, cdv, ct, osl, rfl, lk, hcd⟩ := F.ex
  constructor
  · exact len
  intro A outer s H args us vs Q E hr e0 hb r hsp
  have nvs := len _ _ _ _ hsp
  have keepB : ∀ b o, base.get? b = some o → s.heap.get? b = some o := fun b o z => (e0.bs b o z).1
  have inK : K.In s.heap := e0.mod.kin.keeps keepB
  have nolim : s.heap.NoLimit := e0.mod.nolimit.keeps keepB
  have kinds : ∀ y ∈ ps.zip us, (defScope st).names.lookup y.1 = some .local ∨
      ((defScope st).names.lookup y.1 = some .cell ∧
        ((cellsFrom (s.heap.objs.size + 1) (defScope st).names []).lookup y.1).isSome = true) := by
    rintro ⟨n, v⟩ hy
    rcases S.par n (List.of_mem_zip hy).1 with z | z
    · exact .inl z
    · exact .inr ⟨z, PySem.W.cellsFrom_some _ _ _ (.inl z)⟩
  refine codeAny_call_function hr.room.depth (inK _ _ lk) rfl S.co S.gen rfl
    (PySem.W.codeRec_of inK hcd) (hb _ _ _ _ ?_)
  refine wpAny_newFunctionEnv_cells S.kind kinds fun env he s1 x => ?_
  subst he
  refine ⟨nolim.keeps x.toInCall.keep, codeAny_func ?_⟩
  have hr2 : RG k (A.deeper (envOfC qual (defScope st) s.heap.objs.size f cdv)) := ⟨hr.room.deeper _, hr.gd⟩
  obtain ⟨t, ht, hq⟩ := body cdv A outer s H vs Q E hr2 hsp
  have I : Inv (cxOf CX0 P w K mg base N qual (defScope st) f cdv A outer s H E) [] (start N vs) H s1 :=
    inv_start S hr.room.hd e0 nvs r x
  refine wpAny_mono (ht.nox.run [] s1 (start N vs) H _ I hq) (fun fl s' hs => ?_) fun _ _ z => z
  match fl, hs with
  | .ret u, ⟨v, σ', H', J, rv, q⟩ => exact ⟨v, H', J.os, J.bare, J.base, J.hok, rv, q⟩
  | .next, ⟨σ', H', J, q⟩ => exact ⟨V.non, H', J.os, J.bare, J.base, J.hok, rfl, q⟩
  | .brk, ⟨_, _, _, q⟩ => exact q.elim
  | .cont, ⟨_, _, _, q⟩ => exact q.elim
end

section
variable {X : Cx} {CX : CXT} {k : Nat} {f : Addr} {fd : FuncData} {ps : List Str} {sp : Sp} {dvs : List V}
  {ds : List Value} {E : XK} {x : Str} {p pos : Pos} {e : Expr} {es : List Expr} {t : TA}
/-- f(e, ..) of such a def -/
theorem callG (F : FnG X.prog X.w X.K X.mg X.base CX k f fd ps sp) (hr : RG k X.A) (hg : Gl X x)
    (hm : X.mg x = some (.ref f)) (hk : PySem.W.keepIn X.K (.ref f) = true) (hb : Binds X.K fd ps ds)
    (hd : Vals dvs ds) (hx : Passes CX X E) (ha : PA X (e :: es) t)
    (hdb : (x == ("__debug__" : Str)) = false := by decide)
    (he : starEach (e :: es) X.env = (false, eval e X.env) :: starEach es X.env := by rfl)
    (hpl : (backTo pos (starEach es X.env)).any (·.1) = false := by rfl) :
    PE X (.Call (.Name x p) (e :: es) [] pos) (tCall sp dvs E t) := by
  constructor
  intro pins s σ H Q I h
  refine wpAny_Call_Name_kw (ld_glob I hg hm ?_ hdb)
  refine PySem.W.callWith_K (h₀ := X.base) I.ok.mod.kin hk ?_ he hpl
  refine thn (ha.run pos pins s σ H _ I h) fun us s1 ⟨vs, H1, I1, r, q⟩ => ⟨I1.kIn, ?_⟩
  have r2 : Vals (vs ++ dvs) (us ++ ds) := r.append hd
  have n2 : (us ++ ds).length = ps.length := r2.length.symm.trans (F.len _ _ _ _ q)
  have run := F.run X.A X.stack s1 H1 ⟨us, []⟩ (us ++ ds) (vs ++ dvs) Q E hr I1.env0 (hb s1 us I1.kIn n2) r2 q
  refine wpAny_call (codeAny_mono run fun res s' hq => ?_)
  match res, hq with
  | .error ee, hq => exact hx pins σ H1 s1 ee s' I1 hq
  | .ok (.ret u), hq => exact I1.after hq
  | .ok .next, hq => exact hq.elim
  | .ok .brk, hq => exact hq.elim
  | .ok .cont, hq => exact hq.elim
end

/-! ### repr of data -/
section
variable {X : Cx}
/-- what repr asks of a datum that stands at v -/
def rRepr (K : PySem.W.Frag) : List V → Hp → VK → Prop := fun xs H Q => ∃ v d, xs = [v] ∧ Dp K H v d ∧
  d.showable = true ∧ d.hasDict = false ∧ d.depth ≤ 60 ∧ d.shown.length ≤ sizeLine ∧ Q (.str d.shown) H
theorem call_reprD (hg : X.A.guards = some []) (hu : X.A.units + 64 < cLine) : CallR X (.builtin "repr") (rRepr X.K) := by
  intro pins s σ H xs us Q I r h
  obtain ⟨v, d, rfl, hd, hs, hn, hdp, hl, q⟩ := h
  obtain ⟨u, rfl, ru⟩ := vals1 r
  cases hd with
  | non => cases ru; exact PySem.P.repr_of_none ⟨.str _, H, I.tok _, ⟨_, rfl⟩, q⟩
  | bl b => cases ru; exact PySem.P.repr_of_bool ⟨.str _, H, I.tok _, ⟨_, rfl⟩, q⟩
  | int i => obtain ⟨t, rfl⟩ := ru; exact PySem.P.repr_of_int (by simpa [PyData.showable] using hs) ⟨.str _, H, I.tok _, ⟨_, rfl⟩, q⟩
  | str x => obtain ⟨t, rfl⟩ := ru; exact PySem.P.repr_of_str ⟨.str _, H, I.tok _, ⟨_, rfl⟩, q⟩ (by simpa [PyData.shown] using hl)
  | lst h1 h2 =>
    cases ru
    obtain ⟨as, rd⟩ := Dp.reads I _ _ _ (Dp.lst h1 h2) rfl
    exact repr_of_reads' rd hs (fun z => by rw [hn] at z; cases z) hg (by omega) (fun _ _ z => z) (fun h' u tk hk => ⟨.str _, H, I.kept hk, ⟨_, rfl⟩, q⟩) hl
  | tup h1 h2 =>
    cases ru
    obtain ⟨as, rd⟩ := Dp.reads I _ _ _ (Dp.tup h1 h2) rfl
    exact repr_of_reads' rd hs (fun z => by rw [hn] at z; cases z) hg (by omega) (fun _ _ z => z) (fun h' u tk hk => ⟨.str _, H, I.kept hk, ⟨_, rfl⟩, q⟩) hl
end
/-! ### the end: the law's call, from a promise of this kind -/
theorem endG {l : PySem.W.OpenLaw} {n k : Nat} {q : Program} {loose : List Str} {XP : (Str → Option Value) → Heap → Prop}
    {YP : World → Heap → Prop} {d : DefRec} {K : Params → PySem.W.Frag} {sp : World → Sp} {x : Str}
    (hn : l.most = some n) (hn2 : n ≤ sizeLine) (hdf : d.params.defaults = []) (hr : RG k callerA)
    (hY : ∀ (w : World) (h : Heap), YP w h → (K w.params).In h)
    (F : ∀ (w : World) (mg : Str → Option Value) (fa : Addr) (h : Heap), (K w.params).In h → h.Ns mainGlobals mg →
      mg d.name = some (.ref fa) → ∃ fd : FuncData, (∀ (s : Shared) (u : Value), BindsTo s fd ⟨[u], []⟩ [(x, u)]) ∧
        ∀ base : Heap, (K w.params).In base → base.Ns mainGlobals mg → FnG l.prog w (K w.params) mg base CX0 k fa fd [x] (sp w))
    (hsp : ∀ (w : World) (H : Hp) (a : Addr) (ns : List Int), ns.length ≤ n → (∀ z ∈ ns, Builtin.Int.intBits z ≤ 1048576) →
      Only H → SqL (K w.params) H a (ns.map V.int) → sp w [.ref a] H (fun v _ => v = .bl true) E0) :
    PySem.W.WalkO q loose XP YP l.row.toRowW d [] (fun f vs => PySem.call f vs) := by
  refine Att.attach_callB hn hdf fun w s₀ s1 mg mb fa o pm cd doc a us ns G Y ho hd hcd hmg obj hints nlen bits gens => ?_
  have inK : (K w.params).In s1.heap := hY w _ Y
  obtain ⟨fd, bind, hF⟩ := F w mg fa _ inK G.T.g hmg
  have rv := vals_ints hints
  have nv : us.length = ns.length := hints.length
  have go : ∀ H : Hp, Only H → SqL (K w.params) H a (ns.map V.int) → HOk l.prog w H s1.heap → (∀ b, H b ≠ none → b = a) →
      (H a ≠ none → (K w.params).lookup a = none) → codeAny (model l.prog w) callerA (.call (.ref fa) ⟨[.ref a], []⟩)
        (fun r s' => r = .ok (.ret (.bool true)) ∧ OldK s1.heap s'.heap ∧ s'.os = s1.os ∧ AllBare s'.gens) s1 := by
    intro H only hS hok atA offK
    have none_or : ∀ b, H b = none ∨ b = a := fun b => by
      cases z : H b with
      | none => exact .inl rfl
      | some u => exact .inr (atA b (by rw [z]; intro y; cases y))
    have left : ∀ {b : Addr} {o : Obj}, s1.heap.get? b = some o → H b = none → (hidT s1.heap H).get? b = some o :=
      fun e z => hidT_get e z
    have notA : ∀ {b : Addr} {o : Obj} {es : Array DictEntry} {ep : Nat},
        s1.heap.get? b = some o → o.data = .dict es ep → H b = none := fun {b o es ep} e z => by
      rcases none_or b with y | rfl
      · exact y
      · rw [obj] at e
        cases e
        cases (show Data.seq us.toArray _ = Data.dict es ep from z)
    have spaces : ∀ {b : Addr} {m : Str → Option Value}, s1.heap.Ns b m → (hidT s1.heap H).Ns b m :=
      fun {b m} ⟨o, es, ep, e, z, r⟩ => ⟨o, es, ep, left e (notA e z), z, r⟩
    have inB : (K w.params).In (hidT s1.heap H) := fun b o e => left (inK b o e) (by
      rcases none_or b with y | rfl
      · exact y
      · cases z : H b with
        | none => rfl
        | some u =>
          rw [offK (by rw [z]; intro y; cases y)] at e
          cases e)
    have md : Mod (K w.params) mg (hidT s1.heap H) := by
      obtain ⟨mc, c1, c2⟩ := G.T.nolimit
      exact ⟨inB, spaces G.T.g, ⟨mb, spaces G.T.b, G.T.builtins⟩, ⟨mc, spaces c1, c2⟩⟩
    have e0 : Env0 l.prog w (K w.params) mg (hidT s1.heap H) callerA [] s1 H :=
      ⟨rfl, md, fun b o e => of_hidT e, Nat.le_of_eq (hidT_size _ _), trivial, fun b z => (nomatch z), hok, .of_eq gens⟩
    have run := (hF _ inB (spaces G.T.g)).run callerA [] s1 H ⟨[.ref a], []⟩ [.ref a] [.ref a] _ _ hr e0
      (bind s1 (.ref a)) (.cons rfl .nil) (hsp w H a ns nlen bits only hS)
    refine codeAny_mono run fun res s' h => ?_
    match res, h with
    | .error e, h => exact h.elim
    | .ok .next, h => exact h.elim
    | .ok .brk, h => exact h.elim
    | .ok .cont, h => exact h.elim
    | .ok (.ret u), ⟨v, H', os, bare, un, hok', r', q⟩ =>
      have q' : v = .bl true := q
      subst q'
      have r2 : u = Value.bool true := r'
      subst r2
      refine ⟨rfl, OldK.of_keep fun b o e => ?_, os, bare⟩
      cases z : H b with
      | none => exact un.keep b o e z (fun y => (nomatch y)) (fun y => (nomatch y))
      | some u =>
        rcases only b with y | ⟨ob, xs, y⟩
        · rw [z] at y
          cases y
        · obtain ⟨e1, _⟩ := hok b _ y
          obtain ⟨e2, _⟩ := hok' b _ (un.frzs b ob _ y)
          rw [e] at e1
          cases e1
          exact e2
  have small : ns.length ≤ sizeLine := Nat.le_trans nlen hn2
  cases hk : (K w.params).lookup a with
  | some o =>
    have e := inK a o hk
    rw [obj] at e
    cases e
    refine go (fun _ => none) (fun _ => .inl rfl) (.inr ⟨_, us.toArray, _, hk, rfl, rfl, rfl, ?_, by simpa using rv⟩)
      (fun b u z => nomatch z) (fun b z => absurd rfl z) fun z => absurd rfl z
    rw [List.size_toArray, nv]
    exact small
  | none =>
    let ob : Obj := { cls := .type "list", data := .seq us.toArray }
    have at_ : ∀ b, (fun c => if c = a then some (HO.frz ob (.lst (ns.map V.int))) else none : Hp) b ≠ none → b = a := fun b z => by
      by_cases y : b = a
      · exact y
      · exact absurd (if_neg y) z
    refine go (fun c => if c = a then some (.frz ob (.lst (ns.map V.int))) else none) (fun b => ?_) (.inl (.inr ⟨ob, if_pos rfl⟩))
      (fun b u z => ?_) at_ fun _ => hk
    · by_cases y : b = a
      · exact .inr ⟨_, _, if_pos y⟩
      · exact .inl (if_neg y)
    · obtain rfl := at_ b (by rw [z]; intro y; cases y)
      have z' := (if_pos rfl).symm.trans z
      cases z'
      exact ⟨obj, by rw [List.length_map]; exact small, us, _, rv, obj⟩
end Cl

namespace Cl
open PySem PySem.Spec PyProof.Rows L2
/-- what stood there stands there; a code object's table may have grown -/
def Keep (x : Option HO) (o : HO) : Prop := match o with
  | .tbl ps => TriplesOk ps.toList → ∃ ps' : Array Value, x = some (.tbl ps') ∧ TriplesOk ps'.toList
  | o => x = some o
theorem Keep.of {x : Option HO} {o : HO} (h : x = some o) : Keep x o := by
  cases o <;> first | exact h | exact fun t => ⟨_, h, t⟩
def Same (H H' : Hp) : Prop := ∀ b o, H b = some o → Keep (H' b) o
theorem Same.refl (H : Hp) : Same H H := fun _ _ e => .of e
theorem Same.trans {H H1 H2 : Hp} (a : Same H H1) (b : Same H1 H2) : Same H H2 := fun c o h => by
  have k := a c o h
  cases o with
  | tbl ps => exact fun t => let ⟨ps1, e1, t1⟩ := k t; b c (.tbl ps1) e1 t1
  | _ => exact b c _ k
theorem Same.upN {H H' : Hp} {p : Addr} {o : HO} (s : Same H H') (h : H p = none) : Same H (upd H' p o) := fun b x e => by
  rw [upd_ne (ne_of_none e h)]
  exact s b x e
theorem same_new {H : Hp} {p : Addr} {o : HO} (h : H p = none) : Same H (upd H p o) := (Same.refl H).upN h
/-- what is handed on where a new object stands at its place -/
def New (H : Hp) (o : HO) (Q : VK) : Prop := ∀ p H', H p = none → Same H H' → H' p = some o → Q (.ref p) H'
theorem New.go {H : Hp} {o : HO} {Q : VK} (h : New H o Q) : ∀ p, H p = none → Q (.ref p) (upd H p o) :=
  fun p n => h p _ n (same_new n) upd_same
section
variable {X : Cx} {e : Expr} {te : TE}
theorem valsRev : ∀ {xs : List V} {us : List Value}, Vals xs us → Vals xs.reverse us.reverse
  | _, _, .nil => .nil
  | _, _, .cons r t => by
    rw [List.reverse_cons, List.reverse_cons]
    exact (valsRev t).append (.cons r .nil)
/-- xs[::-1] of a list -/
def tRevL (K : PySem.W.Frag) (te : TE) : TE := fun σ H Q => te σ H fun x H1 => ∃ a xs, x = .ref a ∧ SqL K H1 a xs ∧ New H1 (.lst xs.reverse) Q
theorem pe_revL {p0 p1 p2 pos : Pos} {j : Nat} (he : PE X e te) :
    PE X (.Subscript e (.Slice none none (some (.UnaryOp .USub (.Constant (.int 1) j p0) p1)) p2) pos) (tRevL X.K te) := by
  constructor
  intro pins s σ H Q I h
  refine Subscript_ (thn (he.run pins s σ H _ I h) fun v s1 ⟨x, H1, I1, r1, a, xs, hx, hl, q⟩ => ?_)
  subst hx
  cases r1
  refine wpAny_Slice ?_
  rw [evalPart_none]
  refine wpAny_pure ?_
  refine wpAny_pure ?_
  rw [evalPart_some]
  have hneg : PE X (.UnaryOp .USub (.Constant (.int 1) j p0) p1) _ := pe_un un_neg pe_int
  refine thn (hneg.run pins s1 σ H1 (fun y H2 => y = .int (-1) ∧ H2 = H1) I1 ⟨1, rfl, rfl, rfl⟩) fun u s2 ⟨y, H2, I2, ry, hy, hH⟩ => ?_
  subst hy hH
  obtain ⟨t, rfl⟩ := ry
  obtain ⟨its, r, ht, hz⟩ := I2.list hl
  have I4 : Inv X pins σ H2 { s2 with heap := s2.heap.push { cls := .type "slice", data := .fields #[.none, .none, .int (-1) t] } } :=
    I2.kept (t' := s2.toks) fun b ob q => Heap.get?_push_of_some _ q
  obtain ⟨its, r, ht, hz⟩ := I4.list hl
  have hlen := r.length
  refine tail_any ht.isList.typeIs slot_list_getitem.lookup ?_ (by with_unfolding_all rfl)
  refine wpAny_getItem_list_slice ht.isList (Heap.IsSliceOf.new ..) .none .none (.int (-1) t) (by decide) ?_ (by rw [List.size_toArray] <;> omega)
  rw [PySem.W.krv_pick]
  refine ⟨.ref _, _, I4.laid (t' := s2.toks) (o := .lst xs.reverse) (fun b ob q => Heap.get?_push_of_some _ q) (Nat.le_refl _) ?_, rfl, q.go _ (I4.hok.fresh (Nat.le_refl _))⟩
  exact ⟨by rw [List.length_reverse]; exact hz, _, 0, valsRev r, Heap.get?_push_size _ rfl⟩
end
end Cl

namespace Cl
open PySem PySem.Spec PyProof.Rows L2

/-! ### a def of the text, with its promise -/
structure Def (P : Program) (w : World) (K : PySem.W.Frag) (mg : Str → Option Value) (base : Heap)
    (k : Nat) (x : Str) (ps : List Str) (sp : Sp) : Prop where
  ex : ∃ f fd, FnG P w K mg base CX0 k f fd ps sp ∧ mg x = some (.ref f) ∧
    PySem.W.keepIn K (.ref f) = true ∧ Binds K fd ps []
section
variable {X : Cx} {k : Nat} {ps : List Str} {sp : Sp} {x : Str} {p pos : Pos} {e : Expr} {es : List Expr} {t : TA}
theorem callD (D : Def X.prog X.w X.K X.mg X.base k x ps sp) (hr : RG k X.A) (ha : PA X (e :: es) t)
    (hg : Gl X x := by rfl) (hdb : (x == ("__debug__" : Str)) = false := by decide)
    (he : starEach (e :: es) X.env = (false, eval e X.env) :: starEach es X.env := by rfl)
    (hpl : (backTo pos (starEach es X.env)).any (·.1) = false := by rfl) :
    PE X (.Call (.Name x p) (e :: es) [] pos) (tCall sp [] E0 t) := by
  obtain ⟨f, fd, F, hm, hk, hb⟩ := D.ex
  exact callG F hr hg hm hk hb .nil pass0 ha hdb he hpl
end
section
variable {P : Program} {w : World} {K : PySem.W.Frag} {mg : Str → Option Value} {base : Heap}
theorem Def.mk1 {k : Nat} {x qual : Str} {st : Stmt} {f : Addr} {fd : FuncData} {ps : List Str} {sp : Sp}
    (F : Fun K x qual st f fd) (G : FnG P w K mg base CX0 k f fd ps sp) (hm : mg x = some (.ref f))
    (b : Binds K fd ps []) : Def P w K mg base k x ps sp := ⟨f, fd, G, hm, F.kp, b⟩
end

/-! ### heaps -/
theorem Same.rfl' {H : Hp} : Same H H := .refl H
/-! ### rules that hand on a heap in which a new object stands -/
section
variable {X : Cx} {es : List Expr} {e : Expr} {t : TA} {te : TE} {pos : Pos}
def tTupN (t : TA) : TE := fun σ H Q => t σ H fun xs H1 => xs.length ≤ sizeLine ∧ New H1 (.tup xs) Q
def tLstN (t : TA) : TE := fun σ H Q => t σ H fun xs H1 => xs.length ≤ sizeLine ∧ New H1 (.lst xs) Q
theorem tupN {j} (h : PA X es t) : PE X (.Tuple es j pos) (tTupN t) := by
  constructor
  intro pins s σ H Q I hq
  refine wpAny_Tuple_spliced ?_
  refine thn (h.run pos pins s σ H _ I hq) fun us s1 ⟨xs, H1, I1, r, z, q⟩ => ⟨by rw [← r.length]; exact z, ?_⟩
  refine ⟨.ref s1.heap.objs.size, _, I1.laid (t' := s1.toks) (o := .tup xs) (fun b u e => Heap.get?_push_of_some _ e) (Nat.le_refl _) ?_, rfl,
    q.go _ (I1.hok.fresh (Nat.le_refl _))⟩
  exact ⟨z, us, r, ⟨_, Heap.get?_push_size _ rfl, rfl, _, rfl⟩⟩
theorem lstN (h : PA X es t) : PE X (.List es pos) (tLstN t) := by
  constructor
  intro pins s σ H Q I hq
  refine wpAny_List_spliced ?_
  refine thn (h.run pos pins s σ H _ I hq) fun us s1 ⟨xs, H1, I1, r, z, q⟩ => ⟨by rw [← r.length]; exact z, ?_⟩
  refine ⟨.ref s1.heap.objs.size, _, I1.laid (t' := s1.toks) (o := .lst xs) (fun b u e => Heap.get?_push_of_some _ e) (Nat.le_refl _) ?_, rfl,
    q.go _ (I1.hok.fresh (Nat.le_refl _))⟩
  exact ⟨z, us, 0, r, Heap.get?_push_size _ rfl⟩
def rSlLN (K : PySem.W.Frag) : V → Option Int → Option Int → Hp → VK → Prop := fun x lo hi H Q =>
  ∃ a xs, x = .ref a ∧ SqL K H a xs ∧ New H (.lst (cutV xs lo hi)) Q
theorem sl_listN : SlR X (rSlLN X.K) := fun pins s σ H x v vl vu lo hi sl Q I rx hs pl pu ⟨a, xs, h1, h2, q⟩ =>
  sl_list pins s σ H x v vl vu lo hi sl Q I rx hs pl pu ⟨a, xs, h1, h2, q.go⟩
def rSlTN (K : PySem.W.Frag) : V → Option Int → Option Int → Hp → VK → Prop := fun x lo hi H Q =>
  ∃ a xs, x = .ref a ∧ SqT K H a xs ∧ ¬ (HT.sIx xs.length 0 lo = 0 ∧ HT.sIx xs.length xs.length hi = xs.length) ∧ New H (.tup (cutV xs lo hi)) Q
theorem sl_tupN : SlR X (rSlTN X.K) := fun pins s σ H x v vl vu lo hi sl Q I rx hs pl pu ⟨a, xs, h1, h2, h3, q⟩ =>
  sl_tup pins s σ H x v vl vu lo hi sl Q I rx hs pl pu ⟨a, xs, h1, h2, h3, q.go⟩
theorem call_list_ofN : CallR X (.type "list") (fun xs H Q => ∃ p ys, xs = [.ref p] ∧ (SqL X.K H p ys ∨ SqT X.K H p ys) ∧ New H (.lst ys) Q) :=
  fun pins s σ H xs us Q I r ⟨p, ys, h1, h2, q⟩ => call_list_of pins s σ H xs us Q I r ⟨p, ys, h1, h2, q.go⟩
end
/-! ### cuts: what stands between two statements, or behind a part, by a word of one's own -/
section
variable {X : Cx} {st : Stmt} {rest : List Stmt} {t u : TS} {e : Expr} {te : TE} {tt : TT}
def tCut (t u : TS) : TS := fun D σ H => ∃ M : L2.St → Hp → Prop, t { D with nx := M } σ H ∧ ∀ σ' H', M σ' H' → u D σ' H'
theorem cutS (h1 : PS X st t) (h2 : PSs X rest u) : PSs X (st :: rest) (tCut t u) := by
  constructor
  rintro pins s σ H D I ⟨M, h, k⟩
  refine wpAny_execs_cons (thn (h1.run pins s σ H _ I h) fun f s1 q => ?_)
  match f, q with
  | .next, ⟨σ', H', I', q⟩ => exact h2.run pins s1 σ' H' D I' (k _ _ q)
  | .ret v, q => exact q
  | .brk, q => exact q
  | .cont, q => exact q
def tMid (te : TE) : TE := fun σ H Q => ∃ M : VK, te σ H M ∧ ∀ v H', M v H' → Q v H'
theorem cutE (h : PE X e te) : PE X e (tMid te) := ⟨fun pins s σ H Q I ⟨M, h1, k⟩ =>
  thn (h.run pins s σ H M I h1) fun v s1 ⟨x, H1, I1, r1, q1⟩ => ⟨x, H1, I1, r1, k _ _ q1⟩⟩
def tMidT (tt : TT) : TT := fun σ H Q => ∃ M : Bool → Hp → Prop, tt σ H M ∧ ∀ b H', M b H' → Q b H'
theorem cutT (h : PT X e tt) : PT X e (tMidT tt) := ⟨fun pins s σ H Q I ⟨M, h1, k⟩ =>
  thn (h.run pins s σ H M I h1) fun b s1 ⟨H1, I1, q1⟩ => ⟨H1, I1, k _ _ q1⟩⟩
end
def lcL {K : PySem.W.Frag} {a : Addr} {xs : List V} {g : TG} {tt : TT} {te : TE} {vs : List Nat} {σ : L2.St} {H1 : Hp} {D : Addr} {Qd : Hp → Prop}
    (Pv : Nat → Hp → Prop) (hD : H1 D = none) (h0 : ∀ H', Same H1 H' → H' D = some (.lst []) → Pv 0 H') (hl : ∀ i H, i ≤ xs.length → Pv i H → SqL K H a xs)
    (hs : ∀ i x H, xs[i]? = some x → Pv i H → g x (wipe σ vs) H fun σ2 H2 => wipe σ2 vs = wipe σ vs ∧ tt σ2 H2 fun b H3 =>
      if b = true then te σ2 H3 fun y H4 => ∃ acc, H4 D = some (.lst acc) ∧ acc.length < sizeLine ∧ Pv (i + 1) (upd H4 D (.lst (acc ++ [y]))) else Pv (i + 1) H3)
    (hd : ∀ H, Pv xs.length H → Qd H) :=
  lc_list (K := K) (a := a) (xs := xs) (g := g) (tt := tt) (te := te) (vs := vs) (σ := σ) (H1 := H1) (D := D) (Qd := Qd) Pv (h0 _ (same_new hD) upd_same) hl hs hd
def lcT {K : PySem.W.Frag} {a : Addr} {xs : List V} {g : TG} {tt : TT} {te : TE} {vs : List Nat} {σ : L2.St} {H1 : Hp} {D : Addr} {Qd : Hp → Prop}
    (Pv : Nat → Hp → Prop) (hD : H1 D = none) (h0 : ∀ H', Same H1 H' → H' D = some (.lst []) → Pv 0 H') (hl : ∀ i H, i ≤ xs.length → Pv i H → SqT K H a xs)
    (hs : ∀ i x H, xs[i]? = some x → Pv i H → g x (wipe σ vs) H fun σ2 H2 => wipe σ2 vs = wipe σ vs ∧ tt σ2 H2 fun b H3 =>
      if b = true then te σ2 H3 fun y H4 => ∃ acc, H4 D = some (.lst acc) ∧ acc.length < sizeLine ∧ Pv (i + 1) (upd H4 D (.lst (acc ++ [y]))) else Pv (i + 1) H3)
    (hd : ∀ H, Pv xs.length H → Qd H) :=
  lc_tup (K := K) (a := a) (xs := xs) (g := g) (tt := tt) (te := te) (vs := vs) (σ := σ) (H1 := H1) (D := D) (Qd := Qd) Pv (h0 _ (same_new hD) upd_same) hl hs hd
/-- the heap without the deck -/
def hide (d l : Addr) (H : Hp) : Hp := fun b => if b = d ∨ b = l then none else H b
theorem hide_at {d l b : Addr} {H : Hp} {o : HO} (h : hide d l H b = some o) : b ≠ d ∧ b ≠ l ∧ H b = some o := by
  unfold hide at h
  split at h
  · cases h
  · rename_i n
    exact ⟨fun e => n (.inl e), fun e => n (.inr e), h⟩
theorem hide_ne {d l b : Addr} {H : Hp} (h1 : b ≠ d) (h2 : b ≠ l) : hide d l H b = H b := by
  unfold hide
  rw [if_neg]
  rintro (e | e)
  · exact h1 e
  · exact h2 e
/-- the deck stands: a list of the script's rest, its number, its count -/
structure Deck (H : Hp) (d l : Addr) : Prop where
  ne : d ≠ l
  ex : ∃ (ns : List Int) (s c : Int), H d = some (.lst [.ref l, .int s, .int c]) ∧ H l = some (.lst (ns.map V.int)) ∧ ns.length ≤ 63
/-- the deck still stands, and all else that stood stands -/
structure Step (d l : Addr) (H H' : Hp) : Prop where
  deck : Deck H' d l
  same : Same (hide d l H) (hide d l H')
section
variable {d l p a : Addr} {H H' H2 : Hp} {o : HO} {K : PySem.W.Frag} {xs : List V}
theorem Deck.nd (D : Deck H d l) (h : H p = none) : p ≠ d ∧ p ≠ l := by
  obtain ⟨ns, s, c, h1, h2, _⟩ := D.ex
  exact ⟨(ne_of_none h1 h).symm, (ne_of_none h2 h).symm⟩
theorem Step.refl (D : Deck H d l) : Step d l H H := ⟨D, .refl _⟩
theorem Step.trans (A : Step d l H H') (B : Step d l H' H2) : Step d l H H2 := ⟨B.deck, A.same.trans B.same⟩
theorem Same.hide (S : Same H H') : Same (Cl.hide d l H) (Cl.hide d l H') := fun b x e => by
  obtain ⟨e1, e2, e3⟩ := hide_at e
  rw [hide_ne e1 e2]
  exact S b x e3
theorem Step.of (D : Deck H d l) (S : Same H H') : Step d l H H' := by
  obtain ⟨ns, s, c, h1, h2, h3⟩ := D.ex
  exact ⟨⟨D.ne, ns, s, c, S _ _ h1, S _ _ h2, h3⟩, S.hide⟩
theorem Step.new (D : Deck H d l) (h : H p = none) : Step d l H (upd H p o) := Step.of D (same_new h)
/-- a new object ahead of a step is there behind it -/
theorem Step.at (S : Step d l H H') (h1 : p ≠ d) (h2 : p ≠ l) (h : H p = some o) : Keep (H' p) o := by
  have e := S.same p o (by rw [hide_ne h1 h2]; exact h)
  rw [hide_ne h1 h2] at e
  exact e
theorem Step.tupH (S : Step d l H H') (D : Deck H d l) (h : H p = some (.tup xs)) : H' p = some (.tup xs) := by
  obtain ⟨ns, s, c, h1, h2, h3⟩ := D.ex
  exact S.at (ne_of h h1 (by intro z; cases z)) (ne_of h h2 (by intro z; cases z)) h
end
theorem dropLast_map (ns : List Int) : (ns.map V.int).dropLast = ns.dropLast.map V.int := by
  rw [List.map_dropLast]

/-! ### promises of the deck's defs -/
def spDeck (K : PySem.W.Frag) : Sp := fun vs H Q _ => ∃ (a : Addr) (ns : List Int), vs = [.ref a] ∧ SqL K H a (ns.map V.int) ∧ ns.length ≤ 63 ∧
  ∀ d l H', Same H H' → Deck H' d l → Q (.ref d) H'
def spDraw : Sp := fun vs H Q _ => ∃ (d l : Addr) (m : Int), vs = [.ref d, .int m] ∧ 0 < m ∧ m < 2 ^ 64 ∧ Deck H d l ∧
  ∀ v H', 0 ≤ v → v < m → Step d l H H' → Q (.int v) H'
theorem mulc {a b : Int} (h : -(2 ^ 64) < a ∧ a < 2 ^ 64) : CMul a b := .inl h
theorem mulr {a b : Int} (h : -(2 ^ 64) < b ∧ b < 2 ^ 64) : CMul a b := .inr h
theorem modlt {a m : Int} (h : 0 < m) (h2 : m ≤ 2 ^ 64) : -(2 ^ 64) < a % m ∧ a % m < 2 ^ 64 := by
  have := Int.emod_nonneg a (show m ≠ 0 by omega)
  have := Int.emod_lt_of_pos a h
  omega
theorem shapedInts (ns : List Int) : SeqAt.shaped (.list (ns.map PyData.int)) = true := by
  have h1 : ∀ ns : List Int, PyData.canLayAll0 (ns.map PyData.int) = true := by
    intro ns
    induction ns with
    | nil => rfl
    | cons n r ih => simp [PyData.canLayAll0, PyData.canLay0, ih]
  have h2 : ∀ ns : List Int, PyData.depthAll (ns.map PyData.int) = 0 := by
    intro ns
    induction ns with
    | nil => rfl
    | cons n r ih => simp [PyData.depthAll, PyData.depth, ih]
  simp [SeqAt.shaped, PyData.canLay0, PyData.depth, h1, h2]
theorem dpInts {K : PySem.W.Frag} {H : Hp} : ∀ ns : List Int, DpAll K H (ns.map V.int) (ns.map PyData.int)
  | [] => .nil
  | n :: r => .cons (.int n) (dpInts r)
theorem eqvNil (ns : List Int) : PyData.eqv (.list (ns.map PyData.int)) (.list []) = ns.isEmpty := by
  cases ns <;> simp [PyData.eqv, PyData.eqvAll]

/-! ### data whose repr is short -/
structure Fine (d : PyData) : Prop where
  lv : d.leavesShort 200 = true
  sh : d.showable = true
  nd : d.hasDict = false
  dp : d.depth ≤ 60
  bk : d.bulk ≤ 80000
def okI (i : Int) : Prop := i.natAbs < 2 ^ 190
theorem okI.log {i : Int} (h : okI i) : i.natAbs.log2 < 190 := PySem.Flt.log2_lt_of (by decide) h
theorem okI.len {i : Int} (h : okI i) : (PyData.shown (.int i)).length ≤ 200 := by
  have e := int_text_length_le (k := 190) (by decide) h.log
  show (Str.ofString (toString i)).length ≤ 200
  rw [PySem.ofString_length]
  omega
theorem okI.of {i : Int} (h1 : -(2 ^ 189) < i) (h2 : i < 2 ^ 189) : okI i := by
  unfold okI
  omega
def rReprF (K : PySem.W.Frag) : List V → Hp → VK → Prop := fun xs H Q => ∃ v d, xs = [v] ∧ Dp K H v d ∧ Fine d ∧ Q (.str d.shown) H
theorem call_repr {X : Cx} (hg : X.A.guards = some []) (hu : X.A.units + 64 < cLine) : CallR X (.builtin "repr") (rReprF X.K) :=
  fun pins s σ H xs us Q I r ⟨v, d, h1, h2, f, q⟩ => call_reprD hg hu pins s σ H xs us Q I r ⟨v, d, h1, h2, f.sh, f.nd, f.dp, by
    have e := PyData.shown_le_bulk 200 (by decide) d f.lv
    have e2 := f.bk
    have e3 : sizeLine = 16777216 := by decide
    omega, q⟩
theorem fineInts2 {i j : Int} (h1 : okI i) (h2 : okI j) : Fine (.tuple [.int i, .int j]) := by
  have a1 := h1.len
  have a2 := h2.len
  have b1 : i.natAbs.log2 < 1920 := by have := h1.log; omega
  have b2 : j.natAbs.log2 < 1920 := by have := h2.log; omega
  constructor
  · simp [PyData.leavesShort, PyData.leavesShortAll, a1, a2]
  · simp [PyData.showable, PyData.showableAll, b1, b2]
  · rfl
  · simp [PyData.depth, PyData.depthAll]
  · simp [PyData.bulk, PyData.bulkAll]
theorem fineBool (b : Bool) : Fine (.bool b) := by constructor <;> first | rfl | (cases b <;> decide)
end Cl

namespace Cl
open PySem PySem.Spec PyProof.Rows L2
/-! ### the nearest whole number -/
def nr (n d : Int) : Int := (2 * n + d) / (2 * d)
theorem nr_law {n g : Int} (h : 0 < g) : nr n g = if 2 * n < (2 * (n / g) + 1) * g then n / g else n / g + 1 := by
  have e1 := Int.mul_ediv_add_emod n g
  have e2 := Int.emod_nonneg n (show g ≠ 0 by omega)
  have e3 := Int.emod_lt_of_pos n h
  generalize n / g = k at *
  generalize n % g = r at *
  subst e1
  unfold nr
  have c1 : (2 * k + 1) * g = 2 * (g * k) + g := by rw [Int.add_mul, Int.mul_assoc, Int.mul_comm k g]; omega
  have c2 : 2 * (g * k + r) + g = (2 * r + g) + (2 * g) * k := by rw [Int.mul_assoc 2 g k]; omega
  rw [c1, c2, Int.add_mul_ediv_left _ _ (show 2 * g ≠ 0 by omega)]
  split
  · rw [Int.ediv_eq_zero_of_lt (by omega) (by omega)]; omega
  · have c3 : 2 * r + g = (2 * r - g) + (2 * g) * 1 := by omega
    rw [c3, Int.add_mul_ediv_left _ _ (show 2 * g ≠ 0 by omega), Int.ediv_eq_zero_of_lt (by omega) (by omega)]; omega
theorem nr_move {n d g : Int} (h : 0 < g) : nr (n + d * g) g = nr n g + d := by
  unfold nr
  have c : 2 * (n + d * g) + g = (2 * n + g) + (2 * g) * d := by
    rw [Int.mul_add, Int.mul_assoc 2 g d, Int.mul_comm d g]; omega
  rw [c, Int.add_mul_ediv_left _ _ (show 2 * g ≠ 0 by omega)]
theorem nr_times {n g t : Int} (ht : 0 < t) : nr (n * t) (g * t) = nr n g := by
  unfold nr
  have c1 : 2 * (n * t) + g * t = (2 * n + g) * t := by rw [Int.add_mul, Int.mul_assoc]
  have c2 : 2 * (g * t) = (2 * g) * t := by rw [Int.mul_assoc]
  rw [c1, c2, Int.mul_ediv_mul_of_pos_left _ _ ht]
theorem nr_ok {n g B : Int} (h : 0 < g) (h1 : -B < n) (h2 : n < B) (hB : 0 < B) : -(B + 1) ≤ nr n g ∧ nr n g ≤ B + 1 := by
  unfold nr
  have hg : 0 < 2 * g := by omega
  constructor
  · refine Int.le_ediv_of_mul_le hg ?_
    have : B * 1 ≤ B * g := Int.mul_le_mul_of_nonneg_left (by omega) (by omega)
    have e : -(B + 1) * (2 * g) = -(2 * (B * g)) - 2 * g := by rw [Int.neg_mul, Int.add_mul, Int.mul_left_comm B 2 g]; omega
    rw [e]; omega
  · refine Int.ediv_le_of_le_mul hg ?_
    have : B * 1 ≤ B * g := Int.mul_le_mul_of_nonneg_left (by omega) (by omega)
    have e : (B + 1) * (2 * g) = 2 * (B * g) + 2 * g := by rw [Int.add_mul, Int.mul_left_comm B 2 g]; omega
    rw [e]; omega
def spNear : Sp := fun vs H Q _ => ∃ n d : Int, vs = [.int n, .int d] ∧ 0 < d ∧ d < 2 ^ 60 ∧ Q (.int (nr n d)) H
def spCorner (K : PySem.W.Frag) : Sp := fun vs H Q _ => ∃ (g : Int) (a : Addr) (x y : Int), vs = [.int g, .ref a] ∧ SqT K H a [.int x, .int y] ∧ 0 < g ∧ g < 2 ^ 60 ∧
  New H (.tup [.int (nr x g), .int (nr y g)]) Q

def spLaw (K : PySem.W.Frag) : Sp := fun vs H Q _ => ∃ (a : Addr) (ns : List Int), vs = [.ref a] ∧ SqL K H a (ns.map V.int) ∧ ns.length ≤ 63 ∧ ∀ H', Q (.bl true) H'
section
variable {X : Cx}
def CDivX (_ j : Int) : Prop := j ≠ 0 ∧ j.natAbs.log2 < 9000
theorem op_fdivX : OpR X (binaryOp .FloorDiv) (rI CDivX fun i j => .int (i.fdiv j)) :=
  opI fun i j _ _ _ _ _ hc q => floordiv_int hc.1 q (.inl (PyProof.noPylong_of_log2 hc.2))
end
/-! ### the greatest number that parts -/
def spGp : Sp := fun vs H Q _ => ∃ n m : Int, vs = [.int n, .int m] ∧ Q (.int (Int.gcd n m : Nat)) H
def gpar (n m d : Int) : Int := (Int.gcd (Int.gcd n m : Nat) d : Nat)
def spP (n m d : Int) : Int := if d < 0 then -gpar n m d else gpar n m d
def spSpotOf : Sp := fun vs H Q _ => ∃ n m d : Int, vs = [.int n, .int m, .int d] ∧ d ≠ 0 ∧ d.natAbs < 2 ^ 200 ∧
  New H (.tup [.int (n / spP n m d), .int (m / spP n m d), .int (d / spP n m d)]) Q
theorem gpar_dvd (n m d : Int) : gpar n m d ∣ n ∧ gpar n m d ∣ m ∧ gpar n m d ∣ d := by
  unfold gpar
  have h1 : (Int.gcd (Int.gcd n m : Nat) d : Int) ∣ (Int.gcd n m : Nat) := Int.gcd_dvd_left ..
  refine ⟨Int.dvd_trans h1 (Int.gcd_dvd_left ..), Int.dvd_trans h1 (Int.gcd_dvd_right ..), Int.gcd_dvd_right ..⟩
theorem gpar_pos {n m d : Int} (h : d ≠ 0) : 0 < gpar n m d := by
  unfold gpar
  have : 0 < Int.gcd (Int.gcd n m : Nat) d := Int.gcd_pos_of_ne_zero_right _ h
  omega
theorem gpar_le {n m d : Int} (h : d ≠ 0) : gpar n m d ≤ d.natAbs := by
  have := (gpar_dvd n m d).2.2
  have h2 : gpar n m d ∣ (d.natAbs : Int) := Int.dvd_natAbs.mpr this
  exact Int.le_of_dvd (by omega) h2
theorem spP_dvd (n m d : Int) : spP n m d ∣ n ∧ spP n m d ∣ m ∧ spP n m d ∣ d := by
  obtain ⟨h1, h2, h3⟩ := gpar_dvd n m d
  unfold spP
  split
  · exact ⟨Int.neg_dvd.mpr h1, Int.neg_dvd.mpr h2, Int.neg_dvd.mpr h3⟩
  · exact ⟨h1, h2, h3⟩
theorem spP_ne {n m d : Int} (h : d ≠ 0) : spP n m d ≠ 0 := by
  have := gpar_pos (n := n) (m := m) h
  unfold spP
  split <;> omega
/-- the spot of d above nought: some part that all three have, taken out -/
theorem spot_pos {n m d : Int} (h : 0 < d) : ∃ p : Int, 0 < p ∧ n = n / spP n m d * p ∧ m = m / spP n m d * p ∧ d = d / spP n m d * p ∧ 0 < d / spP n m d ∧ d / spP n m d ≤ d := by
  obtain ⟨h1, h2, h3⟩ := gpar_dvd n m d
  have h0 := gpar_pos (n := n) (m := m) (d := d) (by omega)
  have e : spP n m d = gpar n m d := if_neg (by omega)
  rw [e]
  have e3 := Int.ediv_mul_cancel h3
  refine ⟨gpar n m d, h0, (Int.ediv_mul_cancel h1).symm, (Int.ediv_mul_cancel h2).symm, e3.symm, ?_, Int.ediv_le_self _ (by omega)⟩
  exact Int.ediv_pos_of_pos_of_dvd h (by omega) h3
theorem nr_spot {n m d g : Int} (h : 0 < d) : nr (n / spP n m d) (d / spP n m d * g) = nr n (d * g) ∧ nr (m / spP n m d) (d / spP n m d * g) = nr m (d * g) := by
  obtain ⟨p, hp, e1, e2, e3, _⟩ := spot_pos (n := n) (m := m) h
  have c : d * g = d / spP n m d * g * p := by
    conv => lhs; rw [e3]
    rw [Int.mul_assoc, Int.mul_assoc, Int.mul_comm p g]
  have k1 := nr_times (n := n / spP n m d) (g := d / spP n m d * g) hp
  have k2 := nr_times (n := m / spP n m d) (g := d / spP n m d * g) hp
  rw [← e1, ← c] at k1
  rw [← e2, ← c] at k2
  exact ⟨k1.symm, k2.symm⟩
theorem nr_lies {n g : Int} (h : 0 < g) : (2 * nr n g - 1) * g ≤ 2 * n ∧ 2 * n < (2 * nr n g + 1) * g := by
  unfold nr
  have e1 := Int.mul_ediv_add_emod (2 * n + g) (2 * g)
  have e2 := Int.emod_nonneg (2 * n + g) (show 2 * g ≠ 0 by omega)
  have e3 := Int.emod_lt_of_pos (2 * n + g) (show 0 < 2 * g by omega)
  generalize (2 * n + g) / (2 * g) = k at *
  generalize (2 * n + g) % (2 * g) = r at *
  have c1 : (2 * k - 1) * g = 2 * g * k - g := by rw [Int.sub_mul, Int.mul_right_comm]; omega
  have c2 : (2 * k + 1) * g = 2 * g * k + g := by rw [Int.add_mul, Int.mul_right_comm]; omega
  omega
end Cl

namespace Cl
open PySem PySem.Spec PyProof.Rows L2
/-! ### kinds of things -/
def isI : V → Bool
  | .int _ => true
  | _ => false
def isB : V → Bool
  | .bl _ => true
  | _ => false
/-- a thing with the name of its class -/
inductive Kd (K : PySem.W.Frag) (H : Hp) : V → String → Prop where
  | non : Kd K H .non "NoneType"
  | bl (b : Bool) : Kd K H (.bl b) "bool"
  | int (i : Int) : Kd K H (.int i) "int"
  | str (x : Str) : Kd K H (.str x) "str"
  | lst {a : Addr} {xs : List V} (h : SqL K H a xs) : Kd K H (.ref a) "list"
  | tup {a : Addr} {xs : List V} (h : SqT K H a xs) : Kd K H (.ref a) "tuple"
  | dct {a : Addr} {kvs : List (Key × V)} (h : H a = some (.dK kvs)) : Kd K H (.ref a) "dict"
section
variable {K : PySem.W.Frag} {H : Hp} {v : V} {T : String}
theorem Kd.ty (h : Kd K H v T) : TyX K H v (.type T) := by
  cases h with
  | non => exact .base .non
  | bl b => exact .base (.bl b)
  | int i => exact .base (.int i)
  | str x => exact .base (.str x)
  | lst h =>
    rcases h with (h | ⟨o, h⟩) | ⟨o, its, n, h1, h2, _⟩
    · exact .base (.lst h)
    · exact .base (.frz h)
    · exact .kList h1 h2
  | tup h =>
    rcases h with (h | ⟨o, h⟩) | ⟨o, its, n, h1, h2, _⟩
    · exact .base (.tup h)
    · exact .fTuple h
    · exact .kTuple h1 h2
  | dct h => exact .base (.dK h)
theorem Kd.int? (h : Kd K H v T) : kitB T "int" = some (isI v || isB v) := by
  cases h <;> first | (show kitB _ _ = some true; decide +kernel) | (show kitB _ _ = some false; decide +kernel)
theorem Kd.bool? (h : Kd K H v T) : kitB T "bool" = some (isB v) := by
  cases h <;> first | (show kitB _ _ = some true; decide +kernel) | (show kitB _ _ = some false; decide +kernel)
theorem Kd.tuple? (h : Kd K H v T) : kitB T "tuple" = some (decide (T = "tuple")) := by
  cases h <;> first | (show kitB _ _ = some true; decide +kernel) | (show kitB _ _ = some false; decide +kernel)
theorem Kd.str? (h : Kd K H v T) : kitB T "str" = some (decide (T = "str")) := by
  cases h <;> first | (show kitB _ _ = some true; decide +kernel) | (show kitB _ _ = some false; decide +kernel)
end
theorem seT {K : PySem.W.Frag} {H H' : Hp} {a : Addr} {xs : List V} (e : Same H H') (h : SqT K H a xs) : SqT K H' a xs := by
  rcases h with (h | ⟨o, h⟩) | h
  · exact .inl (.inl (e _ _ h))
  · exact .inl (.inr ⟨o, e _ _ h⟩)
  · exact .inr h
/-- isinstance(thing, a built-in class) -/
theorem isi {K : PySem.W.Frag} {H : Hp} {v : V} {T c : String} {b : Bool} {Q : VK} (h : Kd K H v T) (e : kitB T c = some b) (q : Q (.bl b) H) :
    rIsi K [v, .ty c] H Q := ⟨v, .ty c, .type T, .type c, b, rfl, .ty c, h.ty, kit_ty e, q⟩
def spWhole (K : PySem.W.Frag) : Sp := fun vs H Q _ => ∃ v T, vs = [v] ∧ Kd K H v T ∧ Q (.bl (isI v)) H

/-! ### lists of draws -/
def Acc (d l pD : Addr) (H0 : Hp) (i : Nat) (P : Int → Prop) (H' : Hp) : Prop :=
  ∃ xs : List Int, Step d l H0 H' ∧ H' pD = some (.lst (xs.map V.int)) ∧ xs.length = i ∧ ∀ x ∈ xs, P x
section
variable {d l pD : Addr} {H0 H H4 : Hp} {i : Nat} {P : Int → Prop} {y : Int}
theorem Step.updN (S : Step d l H0 H4) (h1 : pD ≠ d) (h2 : pD ≠ l) (n : H0 pD = none) {o : HO} : Step d l H0 (upd H4 pD o) := by
  obtain ⟨ns, s, c, e1, e2, e3⟩ := S.deck.ex
  refine ⟨⟨S.deck.ne, ns, s, c, by rw [upd_ne h1.symm]; exact e1, by rw [upd_ne h2.symm]; exact e2, e3⟩, ?_⟩
  refine fun b x e => ?_
  obtain ⟨n1, n2, n3⟩ := hide_at e
  have e5 := S.same b x e
  rw [hide_ne n1 n2] at e5 ⊢
  rw [upd_ne (ne_of_none n3 n)]
  exact e5
theorem Acc.start (D : Deck H0 d l) (S : Same H0 H) (e : H pD = some (.lst [])) : Acc d l pD H0 0 P H :=
  ⟨[], Step.of D S, e, rfl, fun x h => nomatch h⟩
theorem Acc.turn (A : Acc d l pD H0 i P H) (S : Step d l H H4) (D : Deck H0 d l) (n : H0 pD = none) (hi : i < 1000) (h : P y) :
    ∃ acc, H4 pD = some (.lst acc) ∧ acc.length < sizeLine ∧ Acc d l pD H0 (i + 1) P (upd H4 pD (.lst (acc ++ [.int y]))) := by
  obtain ⟨xs, S0, e, l1, a⟩ := A
  obtain ⟨h1, h2⟩ := D.nd n
  refine ⟨_, S.at h1 h2 e, by rw [List.length_map, l1]; exact small1000 (by omega), xs ++ [y], (S0.trans S).updN h1 h2 n, ?_, by rw [List.length_append, l1]; rfl, fun x hx => ?_⟩
  · rw [upd_same, List.map_append]; rfl
  · rcases List.mem_append.mp hx with z | z
    · exact a x z
    · rw [List.mem_singleton.mp z]; exact h
end
def lcR {lo : Int} {n : Nat} {g : TG} {tt : TT} {te : TE} {vs : List Nat} {σ : L2.St} {H1 : Hp} {D : Addr} {Qd : Hp → Prop}
    (Pv : Nat → Hp → Prop) (hD : H1 D = none) (h0 : ∀ H', Same H1 H' → H' D = some (.lst []) → Pv 0 H')
    (hs : ∀ i H, i < n → Pv i H → g (.int (lo + i)) (wipe σ vs) H fun σ2 H2 => wipe σ2 vs = wipe σ vs ∧ tt σ2 H2 fun b H3 =>
      if b = true then te σ2 H3 fun y H4 => ∃ acc, H4 D = some (.lst acc) ∧ acc.length < sizeLine ∧ Pv (i + 1) (upd H4 D (.lst (acc ++ [y]))) else Pv (i + 1) H3)
    (hd : ∀ H, Pv n H → Qd H) :=
  lc_range (lo := lo) (n := n) (g := g) (tt := tt) (te := te) (vs := vs) (σ := σ) (H1 := H1) (D := D) (Qd := Qd) Pv (h0 _ (same_new hD) upd_same) hs hd
theorem two {xs : List Int} (h : xs.length = 2) : ∃ x y, xs = [x, y] := by
  match xs, h with
  | [x, y], _ => exact ⟨x, y, rfl⟩
end Cl

namespace Cl
open PySem PySem.Spec PyProof.Rows L2
/-! ### a test of a thing's kind by a small def, asked quietly -/
/-- the thing u stands in the heap with its class's name -/
def KQ (K : PySem.W.Frag) (h : Heap) (u : Value) (T : String) : Prop := ∃ P : Heap → Prop, PySem.W.KitX K u (.type T) P ∧ P h ∧ (∀ h' : Heap, (∀ a o, u = .ref a → h.get? a = some o → h'.get? a = some o) → P h') ∧
  u ≠ .builtin "__main__.__loader__#opaque" ∧ ∀ a, u = .ref a → ∃ o, h.get? a = some o ∧ o.cls = .type T
theorem kq_at {K : PySem.W.Frag} {h : Heap} {a : Addr} {T : String} (Z : PySem.W.KitX K (.ref a) (.type T) (PySem.W.KitAt a T)) (p : ∃ o, h.get? a = some o ∧ o.cls = .type T) : KQ K h (.ref a) T :=
  ⟨_, Z, p, fun h' k => let ⟨o, e, c⟩ := p; ⟨o, k a o rfl e, c⟩, (fun z => nomatch z), fun b e => by cases e; exact p⟩
theorem Kd.kq {X : Cx} {pins : List (Addr × Obj)} {σ : L2.St} {H : Hp} {s : Shared} {v : V} {T : String} {u : Value} (I : Inv X pins σ H s) (h : Kd X.K H v T) (r : RelV v u) : KQ X.K s.heap u T := by
  cases h with
  | non => cases (show u = Value.none from r); exact ⟨_, PySem.W.kitx_none, trivial, fun _ _ => trivial, (fun z => nomatch z), fun a z => nomatch z⟩
  | bl b => cases (show u = Value.bool b from r); exact ⟨_, PySem.W.kitx_bool, trivial, fun _ _ => trivial, (fun z => nomatch z), fun a z => nomatch z⟩
  | int i => obtain ⟨t, q⟩ := (show ∃ t, u = Value.int i t from r); cases q; exact ⟨_, PySem.W.kitx_int, trivial, fun _ _ => trivial, (fun z => nomatch z), fun a z => nomatch z⟩
  | str x => obtain ⟨t, q⟩ := (show ∃ t, u = Value.str x t from r); cases q; exact ⟨_, PySem.W.kitx_str, trivial, fun _ _ => trivial, (fun z => nomatch z), fun a z => nomatch z⟩
  | @lst a xs h =>
    cases (show u = Value.ref a from r)
    obtain ⟨its, rv, ht, hz⟩ := I.list h
    exact kq_at PySem.W.kitx_list ht.isList.typeIs
  | @tup a xs h =>
    cases (show u = Value.ref a from r)
    obtain ⟨its, rv, ht, hz⟩ := I.tuple h
    exact kq_at PySem.W.kitx_tuple ht.typeIs
  | @dct a kvs ea =>
    cases (show u = Value.ref a from r)
    obtain ⟨_, _, vs, _, o, es, ep, h1, h2, _⟩ := (show ObjOk X.prog X.w H s.heap a (.dK kvs) from I.hok a _ ea)
    exact kq_at PySem.W.kitx_dict ⟨o, h1, h2.1⟩
theorem KQ.keeps {K : PySem.W.Frag} {h h' : Heap} {u : Value} {T : String} (q : KQ K h u T) (k : ∀ a o, u = .ref a → h.get? a = some o → h'.get? a = some o) : KQ K h' u T := by
  obtain ⟨P, Z, p, m, n, c⟩ := q
  refine ⟨P, Z, m h' k, fun h'' k2 => m h'' fun a o e g => k2 a o e (k a o e g), n, fun a e => ?_⟩
  obtain ⟨o, g, w⟩ := c a e
  exact ⟨o, k a o e g, w⟩
section
variable {P : Program} {w : World} {K : PySem.W.Frag} {mg : Str → Option Value}
/-- the modules' names stand in this heap -/
def Stands (K : PySem.W.Frag) (mg : Str → Option Value) (h : Heap) : Prop := K.In h ∧ h.Ns mainGlobals mg ∧ (∃ mb, h.Ns builtinsNs mb ∧ ∀ x : Str, x ≠ "__name__" → mb x = bootBuiltins x) ∧ h.NoLimit
theorem Stands.keeps {h h' : Heap} (s : Stands K mg h) (k : ∀ b o, h.get? b = some o → h'.get? b = some o) : Stands K mg h' := by
  obtain ⟨a, b, ⟨mb, c, d⟩, e⟩ := s
  exact ⟨fun x o z => k _ _ (a x o z), b.keeps k, ⟨mb, c.keeps k, d⟩, e.keeps k⟩
/-- f(u): a test of u's class, nothing changed -/
structure QW (P : Program) (w : World) (K : PySem.W.Frag) (mg : Str → Option Value) (f : Addr) : Prop where
  run : ∀ (A : Around) (s : Shared) (u : Value) (T : String) (b1 b2 : Bool), A.depth < recursionLimit → Stands K mg s.heap → KQ K s.heap u T → kitB T "int" = some b1 → kitB T "bool" = some b2 →
    codeAny (model P w) A (.call (.ref f) ⟨[u], []⟩) (fun r s' => r = .ok (.ret (.bool (b1 && !b2))) ∧ Keeps s s') s
theorem keeps_trans {s s1 s2 : Shared} (a : Keeps s s1) (b : Keeps s1 s2) : Keeps s s2 := by
  obtain ⟨h, tk, rfl, k⟩ := a
  obtain ⟨h2, tk2, rfl, k2⟩ := b
  exact ⟨h2, tk2, rfl, fun b o e => k2 b o (k b o e)⟩
/-- isinstance(name, T) in an env of a function -/
theorem quiet_isi {A : Around} {E : Value → Shared → Prop} {env : Env} {s : Shared} {x c : Str} {m : Str → Option Value} {u : Value} {T tc : String} {b : Bool} {Q : Value → Shared → Prop} {p1 p2 p3 p4 : Pos}
    (hk : env.scope.kind = .function) (hx : env.kindOf x = some .local) (hi : env.kindOf "isinstance" = some .globalImplicit) (hc : env.kindOf c = some .globalImplicit) (hg : env.globals = mainGlobals) (hb : env.builtins = builtinsNs)
    (St : Stands K mg s.heap) (mi : mg "isinstance" = none) (mc : mg c = none) (bc : bootBuiltins c = some (.type tc)) (hn : s.heap.Ns env.locals m) (hm : m x = some u) (q : KQ K s.heap u T) (e : kitB T tc = some b)
    (h : ∀ tk, Q (.bool b) { s with toks := tk })
    (hd : (x == ("__debug__" : Str)) = false := by decide) (hdc : (c == ("__debug__" : Str)) = false := by decide) (hcn : c ≠ "__name__" := by decide)
    (he : starEach [.Name x p2, .Name c p3] env = (false, eval (.Name x p2) env) :: starEach [.Name c p3] env := by rfl) (he2 : starEach [.Name c p3] env = [(false, eval (.Name c p3) env)] := by rfl) :
    wpAny (model P w) A (eval (.Call (.Name "isinstance" p1) [.Name x p2, .Name c p3] [] p4) env) Q E s := by
  obtain ⟨inK, ns, ⟨mb, nb, hmb⟩, lim⟩ := St
  have glb : ∀ {y : Str} {v : Value} {p : Pos} {R : Value → Shared → Prop}, env.kindOf y = some .globalImplicit → mg y = none → bootBuiltins y = some v → y ≠ "__name__" → (y == ("__debug__" : Str)) = false → R v s → wpAny (model P w) A (eval (.Name y p) env) R E s :=
    fun {y v p R} k1 k2 k3 k4 k5 r => Calls.Name_function_global hk k1 (Calls.loadGlobal_builtin (by rw [hg]; exact ns) k2 (by rw [hb]; exact nb) ((hmb y k4).trans k3) r) k5
  refine wpAny_Call_Name_kw (glb hi mi PyProof.Rows.boot_isinstance (by decide) (by decide) ?_)
  refine PyProof.Rows.callWith_builtin1 ?_ he (by rw [he2]; rfl)
  rw [he, he2]
  refine Calls.spliced_cons (wpAny_Name (wpAny_loadName_local hk hx hn hm ?_) hd)
  refine Calls.spliced_cons (glb hc mc bc hcn hdc ?_)
  refine Calls.spliced_nil ?_
  obtain ⟨Pz, Z, pz, _, nl, _⟩ := q
  exact PySem.W.kia_one Z inK pz (kit_ty e) nl h
end
end Cl
namespace Cl
open PySem PySem.Spec PyProof.Rows L2
/-! ### def is_whole(thing): return isinstance(thing, int) and not isinstance(thing, bool) -/
section
variable {P : Program} {w : World} {K : PySem.W.Frag} {mg : Str → Option Value}
theorem qw_of {x qual : Str} {st : Stmt} {f : Addr} {fd : FuncData} {p1 p2 p3 p4 p5 p6 p7 p8 p9 p10 p11 : Pos} {y : Str} {k : Nat}
    (F : Fun K x qual st f fd) (S : FnScope [y] [y] (defScope st)) (hloc : (defScope st).names.lookup y = some .local)
    (hi : (defScope st).names.lookup ("isinstance" : Str) = some .globalImplicit) (hc : (defScope st).names.lookup ("int" : Str) = some .globalImplicit) (hb : (defScope st).names.lookup ("bool" : Str) = some .globalImplicit)
    (mi : mg "isinstance" = none) (mc : mg "int" = none) (mb : mg "bool" = none)
    (hbody : defBody st = [.Return (some (.BoolOp .And [.Call (.Name "isinstance" p1) [.Name y p2, .Name "int" p3] [] p4, .UnaryOp .Not (.Call (.Name "isinstance" p5) [.Name y p6, .Name "bool" p7] [] p8) p9] p10)) p11])
    (hbind : Binds K fd [y] []) (hyd : (y == ("__debug__" : Str)) = false := by decide) : QW P w K mg f := by
  refine ⟨fun A s u T b1 b2 hdep St q e1 e2 => ?_⟩
  have hb0 := hbind s [u] St.1 rfl
  obtain ⟨oc, od, kV, doc, pm, an, cdv, ct, osl, rfl, lk, hcd⟩ := F.ex
  obtain ⟨inK, ns, nb, lim⟩ := id St
  refine codeAny_call_function hdep (inK _ _ lk) rfl S.co S.gen rfl (PySem.W.codeRec_of inK hcd) (hb0 _ _ _ _ ?_)
  have kinds : ∀ z ∈ [y].zip ([u] ++ []), (defScope st).names.lookup z.1 = some .local ∨
      ((defScope st).names.lookup z.1 = some .cell ∧ ((cellsFrom (s.heap.objs.size + 1) (defScope st).names []).lookup z.1).isSome = true) := by
    intro z hz
    simp only [List.append_nil, List.zip_cons_cons, List.zip_nil_right, List.mem_singleton] at hz
    subst hz
    exact .inl hloc
  refine wpAny_newFunctionEnv_cells S.kind kinds fun env he s1 z => ?_
  subst he
  have k1 := z.toInCall.keep
  have St1 : Stands K mg s1.heap := St.keeps k1
  have q1' : KQ K s1.heap u T := q.keeps fun a o _ e => k1 a o e
  have ks1 : Keeps s s1 := z.done
  refine ⟨St1.2.2.2, codeAny_func ?_⟩
  show wpAny _ _ (execs (defBody st) _) _ _ s1
  rw [hbody]
  have hm : (bindL (newEnv (defScope st) s.heap.objs.size mainGlobals (cellsFrom (s.heap.objs.size + 1) (defScope st).names []) (qual ++ ".<locals>.") (some f) cdv none builtinsNs).kindOf ([y].zip ([u] ++ [])) fun _ => none) y = some u := by
    show (bindL (fun n => (defScope st).names.lookup n) [(y, u)] fun _ => none) y = some u
    simp [bindL, hloc]
  have isi : ∀ {E' : Value → Shared → Prop} {A' : Around} {c : Str} {tc : String} {b : Bool} {q1 q2 q3 q4 : Pos} {s2 : Shared} {Q2 : Value → Shared → Prop}, Keeps s1 s2 → (defScope st).names.lookup c = some .globalImplicit → mg c = none → bootBuiltins c = some (.type tc) → kitB T tc = some b → (c == ("__debug__" : Str)) = false → c ≠ "__name__" →
      (∀ tk, Q2 (.bool b) { s2 with toks := tk }) → wpAny (model P w) A' (eval (.Call (.Name "isinstance" q1) [.Name y q2, .Name c q3] [] q4) (newEnv (defScope st) s.heap.objs.size mainGlobals (cellsFrom (s.heap.objs.size + 1) (defScope st).names []) (qual ++ ".<locals>.") (some f) cdv none builtinsNs)) Q2 E' s2 := by
    intro E' A' c tc b q1 q2 q3 q4 s2 Q2 ks hcc hmc hbc he hd hn2 h
    obtain ⟨h2, tk2, rfl, k2⟩ := ks
    exact quiet_isi (K := K) (mg := mg) (T := T) S.kind hloc hi hcc rfl rfl (St1.keeps k2) mi hmc hbc (z.toInCall.ns.keeps k2) hm (q1'.keeps fun a o _ e => k2 a o e) he h hyd hd hn2 rfl rfl
  refine wpAny_execs_cons (wpAny_Return_some ?_)
  refine BoolOp_and (isi (GxR.keeps_refl _) hc mc PyProof.Rows.boot_int e1 (by decide) (by decide) fun tk => wpAny_truthy_bool ?_)
  cases b1 with
  | false => exact ⟨rfl, keeps_trans ks1 (GxR.keeps_tok _ _)⟩
  | true =>
    refine BoolOp_one (UnaryOp_ (isi (GxR.keeps_tok _ _) hb mb PyProof.Rows.boot_bool e2 (by decide) (by decide) fun tk2 => not_of (wpAny_truthy_bool ?_)))
    exact ⟨rfl, keeps_trans ks1 (GxR.keeps_tok _ _)⟩
end
end Cl

namespace Cl
open PySem PySem.Spec PyProof.Rows L2
open GxR (TabB TabG Tabbed GenS inv_tab sh_eta)
/-! ### all(test for x in t), t a tuple, the test asked quietly -/
def EltT (P : Program) (w : World) (K : PySem.W.Frag) (mg : Str → Option Value) (scope : Scope) (x : Str) (elt : Expr) (D : Nat) (Cp : List (Str × Addr) → Heap → Prop) (ok : Heap → Value → Bool → Prop) : Prop :=
  ∀ (cenv : Env) (A' : Around) (E' : Value → Shared → Prop) (u : Value) (b : Bool) (s₂ : Shared) (m₂ : Str → Option Value), A'.handled = none → A'.depth ≤ D → cenv.scope = scope → cenv.globals = mainGlobals → cenv.builtins = builtinsNs →
    Stands K mg s₂.heap → Cp cenv.cells s₂.heap → s₂.heap.Ns cenv.locals m₂ → m₂ x = some u → ok s₂.heap u b →
    wpAny (model P w) A' (eval elt cenv) (fun y s₃ => y = .bool b ∧ Keeps s₂ s₃) E' s₂
theorem Same.tabbed {H H' : Hp} {P : Addr} (h : TabG H P) (t : Tabbed P H H') : Same H H' := fun b o e => by
  by_cases hb : b = P
  · subst hb
    obtain ⟨ps, e1, _⟩ := h
    rw [e1] at e
    cases e
    obtain ⟨ps', e2, t2⟩ := t.1
    exact fun _ => ⟨ps', e2, t2⟩
  · rw [t.2 b hb]
    exact .of e
theorem Same.tab {H H' : Hp} {P : Addr} (s : Same H H') (h : TabG H P) : TabG H' P := by
  obtain ⟨ps, e, t⟩ := h
  obtain ⟨ps', e', t'⟩ := s P _ e t
  exact ⟨ps', e', t'⟩
def tAllT (K : PySem.W.Frag) (P : Addr) (cap : L2.St → Hp → Prop) (okV : Hp → V → Bool → Prop) (te : TE) : TE := fun σ H Q => te σ H fun v H1 => ∃ (a : Addr) (xs : List V) (bs : List Bool), v = .ref a ∧ SqT K H1 a xs ∧ bs.length = xs.length ∧
  (∀ (i : Nat) x b, xs[i]? = some x → bs[i]? = some b → okV H1 x b) ∧ cap σ H1 ∧ TabG H1 P ∧ ∀ H2, Same H1 H2 → TabG H2 P → Q (.bl (bs.all id)) H2
theorem all_range (bs : List Bool) : (List.range bs.length).all (fun j => bs.getD j false) = bs.all id := by
  rw [Bool.eq_iff_iff, List.all_eq_true, List.all_eq_true]
  constructor
  · intro h b hb
    obtain ⟨j, hj, e⟩ := List.getElem_of_mem hb
    have q := h j (List.mem_range.mpr hj)
    rw [List.getD_eq_getElem?_getD, List.getElem?_eq_getElem hj, e] at q
    exact q
  · intro h j hj
    have hj' := List.mem_range.mp hj
    rw [List.getD_eq_getElem?_getD, List.getElem?_eq_getElem hj']
    exact h _ (List.getElem_mem hj')
section
variable {X : Cx}
theorem pe_allT {c P : Addr} {elt iter : Expr} {x : Str} {px p pos gpos : Pos} {scope : Scope} {te : TE} {k : Nat} {Cp : List (Str × Addr) → Heap → Prop} {ok : Heap → Value → Bool → Prop} {cap : L2.St → Hp → Prop} {okV : Hp → V → Bool → Prop}
    (hr : Room k X.A) (hg : Gl X "all") (hm : X.mg "all" = none) (TB : TabB X.base X.mg c P) (hcode : X.env.code = .ref c) (S : GenS X.env scope x) (hi : PE X iter te)
    (hel : EltT X.prog X.w X.K X.mg scope x elt (X.A.depth + 1) Cp ok)
    (okk : ∀ h h' u b, ok h u b → (∀ a o, u = .ref a → h.get? a = some o → h'.get? a = some o) → ok h' u b) (okr : ∀ h u b a, ok h u b → u = .ref a → ∃ o, h.get? a = some o ∧ o.cls ≠ .none)
    (okI : ∀ {pins : List (Addr × Obj)} {σ : L2.St} {H : Hp} {s : Shared} {v : V} {u : Value} {b : Bool}, Inv X pins σ H s → RelV v u → okV H v b → ok s.heap u b)
    (cpI : ∀ {pins : List (Addr × Obj)} {σ : L2.St} {H : Hp} {s : Shared}, Inv X pins σ H s → cap σ H → Cp (cloFrom X.env.cells scope.names []) s.heap)
    (cpk : ∀ h h', (∀ b o, o.cls ≠ .none → h.get? b = some o → h'.get? b = some o) → Cp (cloFrom X.env.cells scope.names []) h → Cp (cloFrom X.env.cells scope.names []) h')
    (teσ : ∀ {pins : List (Addr × Obj)} {σ : L2.St} {H : Hp} {s : Shared}, True)
    (hs : ∀ v, genFold iter X.env v = pure v)
    (he : starEach [.GeneratorExp elt [⟨.Name x px, iter, [], 0⟩] scope gpos] X.env = (false, eval (.GeneratorExp elt [⟨.Name x px, iter, [], 0⟩] scope gpos) X.env) :: starEach [] X.env := by rfl) :
    PE X (.Call (.Name "all" p) [.GeneratorExp elt [⟨.Name x px, iter, [], 0⟩] scope gpos] [] pos) (tAllT X.K P cap okV te) := by
  refine ⟨fun pins s σ H Q I h => ?_⟩
  refine wpAny_Call_Name_kw (ld_blt I hg hm PyProof.Rows.boot_all ?_)
  refine PyProof.Rows.callWith_builtin1 ?_ he (by rfl)
  rw [he]
  show wpAny _ _ (spliced ((false, eval (.GeneratorExp elt [⟨.Name x px, iter, [], 0⟩] scope gpos) X.env) :: backTo pos (starEach [] X.env))) _ _ s
  refine Calls.spliced_cons ?_
  refine wpAny_GeneratorExp_walksQD hr.hd S.co (closure_ok S.free) S.cell S.dot S.loc S.kind (by have := hr.dp; omega) ?_ hs
  refine thn (hi.run pins s σ H _ I h) fun xv s1 ⟨v, H1, I1, r1, q1⟩ => ?_
  obtain ⟨a, xs, bs, rfl, hS, lbs, hok, hcap, hT, q⟩ := q1
  cases r1
  obtain ⟨ps, hP, ht⟩ := id hT
  obtain ⟨its, rv, tup, hz⟩ := I1.tuple hS
  have lx := rv.length
  refine wpAny_pyIter_tuple tup ?_
  have hPs : s1.heap.get? P = some { cls := .none, data := .fields ps } := I1.hok P _ hP
  have hPlt : P < s1.heap.objs.size := Heap.lt_size hPs
  have halt : a < s1.heap.objs.size := by obtain ⟨o, e, _⟩ := id tup; exact Heap.lt_size e
  have haP : a ≠ P := fun e => by
    obtain ⟨o, e1, e2, _⟩ := id tup
    rw [e, hPs] at e1
    cases e1
    cases e2
  generalize hito : ({ cls := .type "tuple_iterator", data := .fields #[.ref a, .int 0 0] } : Obj) = ito
  have hP2 : (s1.heap.push ito).get? P = some { cls := .none, data := .fields ps } := Heap.get?_push_of_some _ hPs
  have cd : PySem.W.CodeHd (s1.heap.push ito) c P := TB.code.keeps fun b u e => Heap.get?_push_of_some _ (I1.bk b u e)
  have lim2 : (s1.heap.push ito).NoLimit := I1.nolimit.push ito
  have sz2 : (s1.heap.push ito).objs.size = s1.heap.objs.size + 1 := Heap.size_push ..
  have cont : ∀ (code : Value) (h3 : Heap) (tk : Nat) (ps' : Array Value), Heap.ExtBut P (s1.heap.push ito) h3 → (s1.heap.push ito).objs.size ≤ h3.objs.size → h3.get? P = some { cls := .none, data := .fields ps' } → (∃ more, ps' = ps ++ more) → TriplesOk ps'.toList →
      wpAny (model X.prog X.w) X.A (builtinsFor X.env.globals X.env.builtins) (fun bi s₄ =>
        ∃ Ia fp wr n₀ Pf St₀ pz F, Value.ref s1.heap.objs.size = .ref Ia ∧ (∀ A' : Around, A'.handled = none → Walks X.prog X.w A' Ia fp wr n₀ Pf St₀) ∧ St₀ 0 s₄.heap ∧ (∀ b ∈ fp, b < s₄.heap.objs.size) ∧ s₄.heap.NoLimit ∧ cStatics ∉ wr ∧
          (∀ href : Heap, (∀ b o, s₄.heap.get? b = some o → href.get? b = some o) →
            QuietGenD X.prog X.w (genEnv scope (cloFrom X.env.cells scope.names []) s₄.heap.objs.size code bi X.env) x [] elt (List.range s₄.heap.objs.size) wr Pf pz F href (X.A.depth + 1) (X.A.units + 8)) ∧
          (∀ a h₅ tk gs, gs.bare = true → s₄.heap.objs.size < a → h₅.objs.size = a + 1 → (∀ b o, s₄.heap.get? b = some o → h₅.get? b = some o) →
            WalksS X.prog X.w X.A.in4 a (a :: s₄.heap.objs.size :: List.range s₄.heap.objs.size) (s₄.heap.objs.size :: wr) (GenOnlyQ s₄.gens.size) (passing pz n₀ 0).length
              (fun j y => ∃ i, (passing pz n₀ 0)[j]? = some i ∧ F i y) (GenAt X.prog X.w X.A.in4 a s₄.gens.size s₄.heap.objs.size (List.range s₄.heap.objs.size) wr pz n₀ F) →
            GenAt X.prog X.w X.A.in4 a s₄.gens.size s₄.heap.objs.size (List.range s₄.heap.objs.size) wr pz n₀ F 0 { s₄ with gens := s₄.gens.push gs, toks := tk, heap := h₅ } →
            wpAny (model X.prog X.w) X.A (spliced (backTo pos (starEach [] X.env))) (fun vs s2 => wpAny (model X.prog X.w) X.A (call (.builtin "all") (.ref a :: vs)) (EP X pins σ Q) X.xe s2) X.xe { s₄ with gens := s₄.gens.push gs, toks := tk, heap := h₅ })) X.xe { s1 with heap := h3, toks := tk } := by
    intro code h3 tk ps' hx hsz hP3 hmore ht3
    obtain ⟨bm, ob, e1, e2, e3, e4, e5, e6, e7, e8⟩ := TB.bm
    have keep3 : ∀ b u, b ≠ P → s1.heap.get? b = some u → h3.get? b = some u := fun b u hb e => hx b u hb (Heap.get?_push_of_some _ e)
    have hcP : cStatics ≠ P := fun e => by
      obtain ⟨_, hns, _⟩ := I1.nolimit
      obtain ⟨o', es, ep, ho, hd, _⟩ := hns
      rw [e, hPs] at ho
      cases ho
      cases hd
    have hcl : cStatics < s1.heap.objs.size := let ⟨_, hns, _⟩ := I1.nolimit; hns.lt
    have bP : ∀ b o, X.base.get? b = some o → b ≠ P := fun b o e z => by
      have := (I1.bs b o e).2
      rw [z, hP] at this
      cases this
    have stB : Stands X.K X.mg X.base := ⟨I1.mod.kin, I1.mod.glob, I1.mod.blt, I1.mod.nolimit⟩
    refine wpAny_builtinsFor (m := X.mg) (by rw [I1.ok.glob]; exact ((I1.mod.glob.keeps I1.bk).push ito).extBut hx TB.gP) e1 e2 (keep3 _ _ e4 (I1.bk _ _ e5)) e6 e7 e8 ?_
    refine ⟨s1.heap.objs.size, [s1.heap.objs.size, a], [s1.heap.objs.size], its.toArray.size, fun i v => its.toArray[i]? = some v, (fun i h => h.IsTupleIter s1.heap.objs.size a i ∧ h.IsTuple a its.toArray), (fun _ => true), (fun i y => i < its.toArray.size ∧ y = .bool (bs.getD i false)), rfl,
      fun A' hA => Walks.tuple hA _ _ (Nat.ne_of_lt halt) _, ⟨?_, ?_⟩, ?_, lim2.extBut hx hcP, ?_, ?_, ?_⟩
    · refine ⟨ito, hx _ _ (fun z => Nat.ne_of_lt hPlt z.symm) (Heap.get?_push_size _ (by rw [← hito]; rfl)), by rw [← hito], by rw [← hito]; rfl⟩
    · obtain ⟨o, g1, g2, g3⟩ := id tup
      exact ⟨o, keep3 a o haP g1, g2, g3⟩
    · intro b hb
      show b < h3.objs.size
      simp only [List.mem_cons, List.not_mem_nil, or_false] at hb
      rcases hb with z | z
      · rw [z]; exact Nat.lt_of_lt_of_le (by rw [sz2]; exact Nat.lt_succ_self _) hsz
      · rw [z]; exact Nat.lt_of_lt_of_le halt (Nat.le_trans (by rw [sz2]; exact Nat.le_succ _) hsz)
    · intro z
      rw [List.mem_singleton.mp z] at hcl
      exact Nat.lt_irrefl _ hcl
    · intro href hhref
      refine ⟨fun A' E' i v s₂ m₂ hA hD hU hPv hn hm hk => ?_, fun A' E' i v s₂ m₂ hA hD hU hPv hp hn hm hk => ?_⟩
      · simp only [List.forIn_nil]
        exact wpAny_pure ⟨rfl, GxR.keeps_refl _⟩
      · have key : ∀ b o, b ≠ P → s1.heap.get? b = some o → s₂.heap.get? b = some o := fun b o hb e =>
          hk b (List.mem_range.mpr (Heap.lt_size (keep3 b o hb e))) (fun z => by
            have l := Heap.lt_size e
            rw [List.mem_singleton.mp z] at l
            exact Nat.lt_irrefl _ l) o (hhref b o (keep3 b o hb e))
        have hi' : i < its.length := by
          have := (Array.getElem?_eq_some_iff.mp hPv).1
          simpa using this
        obtain ⟨v', ev, rel⟩ := rv.get (List.getElem?_eq_getElem (show i < xs.length by omega))
        have evv : v' = v := by
          have h1 : its[i]? = some v := by simpa using hPv
          rw [h1] at ev
          exact (Option.some.inj ev).symm
        subst evv
        have hb1 : bs[i]? = some (bs.getD i false) := by
          rw [List.getD_eq_getElem?_getD, List.getElem?_eq_getElem (show i < bs.length by omega)]
          rfl
        have o1 := okI I1 rel (hok i _ _ (List.getElem?_eq_getElem (show i < xs.length by omega)) hb1)
        have o2 := okk _ s₂.heap _ _ o1 fun a' o e g => key a' o (fun z => by
          obtain ⟨o', g1, g2⟩ := okr _ _ _ a' o1 e
          rw [z, hPs] at g1
          cases g1
          exact g2 rfl) g
        refine wpAny_mono (hel _ A' E' v' _ s₂ m₂ hA hD rfl I1.ok.glob rfl (stB.keeps fun b o e => key b o (bP b o e) (I1.bk b o e)) ?_ hn hm o2) (fun y s3 r => ⟨⟨by simpa using hi', r.1⟩, r.2⟩) fun _ _ e => e
        exact cpk s1.heap s₂.heap (fun b o hc e => key b o (fun z => by
          rw [z, hPs] at e
          cases e
          exact hc rfl) e) (cpI I1 hcap)
    · intro g h5 tk5 gs hgb hag hsz5 hk5 W5 hat
      simp only [GxR.passing_true, List.length_range] at W5
      refine Calls.spliced_nil ?_
      have W := W5.in4_1
      refine call_all_walkS (W.self 0 _ _ _ hat ⟨g, _, _, _, _, _, _, fun j => bs.getD j false, rfl, W, hat, ?_, fun s' hm => ?_⟩)
      · intro j y sj Qj Ej hy hQj
        obtain ⟨i, hij, hi2, rfl⟩ := hy
        try rw [GxR.passing_true] at hij
        obtain ⟨hj, ej⟩ := List.getElem?_eq_some_iff.mp hij
        rw [List.getElem_range] at ej
        subst ej
        exact wpAny_truthy_bool hQj
      · obtain ⟨more, em⟩ := hmore
        have nwr : ∀ b u, s1.heap.get? b = some u → b ∉ h3.objs.size :: [s1.heap.objs.size] := fun b u e hb => by
          have hl := Heap.lt_size e
          simp only [List.mem_cons, List.not_mem_nil, or_false] at hb
          rcases hb with z | z
          · rw [z] at hl
            have h9 : (h3.objs.size : Nat) < s1.heap.objs.size := hl
            omega
          · rw [z] at hl
            exact Nat.lt_irrefl _ hl
        have J := inv_tab (more := more) (h' := s'.heap) (g' := s'.gens) (d' := s'.drawn) (t' := s'.toks) I1 hP (fun b u hb e => hm.heap b u (nwr b u e) (hk5 b u (keep3 b u hb e)))
          (by rw [← em]; exact hm.heap P _ (nwr P _ hPs) (hk5 P _ hP3)) (AllBare.movedS (I1.bare.push hgb) hm)
        rw [sh_eta s1 s' hm.os] at J
        have tb : Tabbed P H1 (upd H1 P (.tbl (ps ++ more))) := ⟨⟨ps ++ more, upd_same, by rw [← em]; exact ht3⟩, fun b hb => upd_ne hb⟩
        refine ⟨.bl _, _, J, ?_, q _ (Same.tabbed hT tb) tb.1⟩
        show Value.bool _ = Value.bool _
        rw [← all_range bs, show its.toArray.size = bs.length by simp; omega]
  refine ⟨lim2, ?_⟩
  cases hf : codeAmong gpos ps.toList with
  | none =>
    refine wpAny_genexprCodeX hcode (cd.code hP2 ht) (cd.tab hP2) hf fun c' h' tk hx hge hlt hco' _ htab' _ => ?_
    obtain ⟨o1, vs, f1, tf, fl, tg, inF, tx, tt, op, _, _, _, _, _, _, _, _, _, htr, _⟩ := hco'
    exact cont _ h' tk _ hx (Nat.le_trans hge (Nat.le_of_lt hlt)) htab'.2 ⟨_, rfl⟩ htr
  | some cv =>
    refine wpAny_genexprCode_hit hcode (cd.code hP2 ht) hf ?_
    exact cont cv (s1.heap.push ito) s1.toks ps (Heap.ExtBut.refl _ _) (Nat.le_refl _) hP2 ⟨#[], by simp⟩ ht
end
end Cl

namespace Cl
open PySem PySem.Spec PyProof.Rows L2
open GxR (TabB TabG)
/-! ### a def whose code object's table grows -/
section
variable {P : Program} {w : World} {K : PySem.W.Frag} {mg : Str → Option Value} {base : Heap}
theorem okGT {x qual : Str} {st : Stmt} {f : Addr} {fd : FuncData} {N ps : List Str} {k : Nat} {sp : Sp} {c : Addr}
    (F : Fun K x qual st f fd) (hc : fd.code = .ref c) (S : FnScope N ps (defScope st))
    (len : ∀ vs H Q E, sp vs H Q E → vs.length = ps.length)
    (body : ∀ (A : Around) (outer : List Env) (s : Shared) (H : Hp) (vs : List V) (Q : VK) (E : XK),
      RG k (A.deeper (envOfC qual (defScope st) s.heap.objs.size f (.ref c))) → sp vs H Q E →
      ∃ t, PSs (cxOf CX0 P w K mg base N qual (defScope st) f (.ref c) A outer s H E).nox (defBody st) t ∧
        t { nx := fun _ H' => Q .non H', rt := Q } (start N vs) H) :
    FnG P w K mg base CX0 (k + 1) f fd ps sp := by
  obtain ⟨oc, od, kV, doc, pm, an, cdv, ct, osl, rfl, lk, hcd⟩ := F.ex
  have hc : cdv = .ref c := hc
  subst hc
  constructor
  · exact len
  intro A outer s H args us vs Q E hr e0 hb r hsp
  have nvs := len _ _ _ _ hsp
  have keepB : ∀ b o, base.get? b = some o → s.heap.get? b = some o := fun b o z => (e0.bs b o z).1
  have inK : K.In s.heap := e0.mod.kin.keeps keepB
  have nolim : s.heap.NoLimit := e0.mod.nolimit.keeps keepB
  have kinds : ∀ y ∈ ps.zip us, (defScope st).names.lookup y.1 = some .local ∨
      ((defScope st).names.lookup y.1 = some .cell ∧
        ((cellsFrom (s.heap.objs.size + 1) (defScope st).names []).lookup y.1).isSome = true) := by
    rintro ⟨n, v⟩ hy
    rcases S.par n (List.of_mem_zip hy).1 with z | z
    · exact .inl z
    · exact .inr ⟨z, PySem.W.cellsFrom_some _ _ _ (.inl z)⟩
  refine codeAny_call_function hr.room.depth (inK _ _ lk) rfl S.co S.gen rfl
    (PySem.W.codeRec_of inK hcd) (hb _ _ _ _ ?_)
  refine wpAny_newFunctionEnv_cells S.kind kinds fun env he s1 x => ?_
  subst he
  refine ⟨nolim.keeps x.toInCall.keep, codeAny_func ?_⟩
  have hr2 : RG k (A.deeper (envOfC qual (defScope st) s.heap.objs.size f (.ref c))) := ⟨hr.room.deeper _, hr.gd⟩
  obtain ⟨t, ht, hq⟩ := body A outer s H vs Q E hr2 hsp
  have I : Inv (cxOf CX0 P w K mg base N qual (defScope st) f (.ref c) A outer s H E) [] (start N vs) H s1 :=
    inv_start S hr.room.hd e0 nvs r x
  refine wpAny_mono (ht.nox.run [] s1 (start N vs) H _ I hq) (fun fl s' hs => ?_) fun _ _ z => z
  match fl, hs with
  | .ret u, ⟨v, σ', H', J, rv, q⟩ => exact ⟨v, H', J.os, J.bare, J.base, J.hok, rv, q⟩
  | .next, ⟨σ', H', J, q⟩ => exact ⟨V.non, H', J.os, J.bare, J.base, J.hok, rfl, q⟩
  | .brk, ⟨_, _, _, q⟩ => exact q.elim
  | .cont, ⟨_, _, _, q⟩ => exact q.elim
end
/-! ### the end: the law's call, some defs' tables growing -/
def TabN (mg : Str → Option Value) (h : Heap) (n : Str) : Prop := ∃ (f : Addr) (o : Obj) (fd : FuncData) (c P : Addr), mg n = some (.ref f) ∧ h.get? f = some o ∧ o.data = .func fd ∧ fd.code = .ref c ∧ PySem.W.CodeHd h c P ∧ h.TableAt c P #[]
theorem endGT {l : PySem.W.OpenLaw} {n k : Nat} {q : Program} {loose : List Str} {XP : (Str → Option Value) → Heap → Prop}
    {YP : World → Heap → Prop} {d : DefRec} {K : Params → PySem.W.Frag} {sp : PySem.W.Frag → List (Addr × Addr) → Sp} {x : Str} {ts : List Str}
    (hn : l.most = some n) (hn2 : n ≤ sizeLine) (hdf : d.params.defaults = []) (hr : RG k callerA) (hrec : (ts.all fun n => (recsOf q).any fun e => e.name == n) = true)
    (hY : ∀ (w : World) (h : Heap), YP w h → (K w.params).In h)
    (F : ∀ (w : World) (mg : Str → Option Value) (fa : Addr) (h : Heap), (K w.params).In h → h.Ns mainGlobals mg →
      mg d.name = some (.ref fa) → (∀ n ∈ ts, TabN mg h n) → ∃ (fd : FuncData) (cs : List (Addr × Addr)), (∀ p ∈ cs, PySem.W.CodeHd h p.1 p.2 ∧ h.TableAt p.1 p.2 #[] ∧ (K w.params).lookup p.2 = none) ∧ (∀ (s : Shared) (u : Value), BindsTo s fd ⟨[u], []⟩ [(x, u)]) ∧
        ∀ base : Heap, (K w.params).In base → base.Ns mainGlobals mg → (∀ p ∈ cs, TabB base mg p.1 p.2) → FnG l.prog w (K w.params) mg base CX0 k fa fd [x] (sp (K w.params) cs))
    (hsp : ∀ (w : World) (cs : List (Addr × Addr)) (H : Hp) (a : Addr) (ns : List Int), ns.length ≤ n → (∀ z ∈ ns, Builtin.Int.intBits z ≤ 1048576) →
      (∀ p ∈ cs, H p.2 = some (.tbl #[])) → SqL (K w.params) H a (ns.map V.int) → sp (K w.params) cs [.ref a] H (fun v _ => v = .bl true) E0) :
    PySem.W.WalkO q loose XP YP l.row.toRowW d [] (fun f vs => PySem.call f vs) := by
  refine Att.attach_callB hn hdf fun w s₀ s1 mg mb fa o pm cd doc a us ns G Y ho hd hcd hmg obj hints nlen bits gens => ?_
  have inK : (K w.params).In s1.heap := hY w _ Y
  have tn : ∀ n ∈ ts, TabN mg s1.heap n := fun n hn => by
    obtain ⟨dL, h1, h2⟩ := List.any_eq_true.mp (List.all_eq_true.mp hrec n hn)
    have h2 : dL.name = n := beq_iff_eq.mp h2
    obtain ⟨f, o, fd, c, P, t1, t2, t3, t4, t5, t6⟩ := G.T.tab dL h1
    exact ⟨f, o, fd, c, P, by rw [← h2]; exact t1, t2, t3, t4, .of t5 t6, t6⟩
  obtain ⟨fd, cs, hcs, bind, hF⟩ := F w mg fa _ inK G.T.g hmg tn
  have rv := vals_ints hints
  have nv : us.length = ns.length := hints.length
  obtain ⟨T, hT⟩ : ∃ T, T = cs.map (·.2) := ⟨_, rfl⟩
  have isT : ∀ b ∈ T, s1.heap.get? b = some { cls := .none, data := .fields #[] } := fun b hb => by
    rw [hT] at hb
    obtain ⟨p, hp, e⟩ := List.mem_map.mp hb
    rw [← e]
    exact (hcs p hp).2.1.2
  have memT : ∀ p ∈ cs, p.2 ∈ T := fun p hp => by rw [hT]; exact List.mem_map.mpr ⟨p, hp, rfl⟩
  have aT : a ∉ T := fun z => by
    have q := isT a z
    rw [obj] at q
    have z' : Data.seq us.toArray _ = Data.fields #[] := congrArg Obj.data (Option.some.inj q)
    cases z'
  have small : ns.length ≤ sizeLine := Nat.le_trans nlen hn2
  have go : ∀ H : Hp, (∀ b ∈ T, H b = some (.tbl #[])) → (∀ b, b ∉ T → H b = none ∨ ∃ ob xs, H b = some (.frz ob (.lst xs))) → SqL (K w.params) H a (ns.map V.int) → HOk l.prog w H s1.heap → (∀ b, H b ≠ none → b = a ∨ b ∈ T) →
      (H a ≠ none → (K w.params).lookup a = none) → codeAny (model l.prog w) callerA (.call (.ref fa) ⟨[.ref a], []⟩)
        (fun r s' => r = .ok (.ret (.bool true)) ∧ OldK s1.heap s'.heap ∧ s'.os = s1.os ∧ AllBare s'.gens) s1 := by
    intro H hTb only hS hok atA offK
    have left : ∀ {b : Addr} {o : Obj}, s1.heap.get? b = some o → H b = none → (hidT s1.heap H).get? b = some o :=
      fun e z => hidT_get e z
    -- what is no list and no empty table is not tracked
    have nothing : ∀ {b : Addr} {o : Obj}, s1.heap.get? b = some o → (∀ vs n, o.data ≠ .seq vs n) → o.data ≠ .fields #[] → H b = none := fun {b o} e h1 h2 => by
      cases z : H b with
      | none => rfl
      | some u =>
        rcases atA b (by rw [z]; intro y; cases y) with y | y
        · rw [y, obj] at e
          cases e
          exact absurd rfl (h1 _ _)
        · rw [isT b y] at e
          cases e
          exact absurd rfl h2
    have spaces : ∀ {b : Addr} {m : Str → Option Value}, s1.heap.Ns b m → (hidT s1.heap H).Ns b m :=
      fun {b m} ⟨o, es, ep, e, z, r⟩ => ⟨o, es, ep, left e (nothing e (fun vs n y => by rw [z] at y; cases y) (fun y => by rw [z] at y; cases y)), z, r⟩
    have inB : (K w.params).In (hidT s1.heap H) := fun b o e => left (inK b o e) (by
      cases z : H b with
      | none => rfl
      | some u =>
        rcases atA b (by rw [z]; intro y; cases y) with y | y
        · subst y
          rw [offK (by rw [z]; intro y; cases y)] at e
          cases e
        · rw [hT] at y
          obtain ⟨p, hp, ep⟩ := List.mem_map.mp y
          rw [← ep, (hcs p hp).2.2] at e
          cases e)
    have md : Mod (K w.params) mg (hidT s1.heap H) := by
      obtain ⟨mc, c1, c2⟩ := G.T.nolimit
      exact ⟨inB, spaces G.T.g, ⟨mb, spaces G.T.b, G.T.builtins⟩, ⟨mc, spaces c1, c2⟩⟩
    have TB : ∀ p ∈ cs, TabB (hidT s1.heap H) mg p.1 p.2 := fun p hp => by
      have hTp := isT _ (memT p hp)
      refine ⟨?_, ?_, fun z => ?_⟩
      · obtain ⟨o, us', file, tf, flags, tg, inF, text, tt, e1, r1, r2, r3, r⟩ := (hcs p hp).1
        refine ⟨o, us', file, tf, flags, tg, inF, text, tt, left e1 (nothing e1 (fun vs n z => ?_) fun z => ?_), r1, r2, r3, r⟩
        · rw [r2] at z
          cases z
        · rw [r2] at z
          cases z
          simp at r3
      · obtain ⟨bm, ob, b1, b2, b3, b4, b5, b6⟩ := G.T.bmain
        have nG : bm ≠ mainGlobals := fun y => by
          obtain ⟨o, es, ep, e, z, _⟩ := G.T.g
          rw [y, e] at b3
          cases b3
          rw [z] at b6
          cases b6
        have nP : bm ≠ p.2 := fun y => by
          rw [y, hTp] at b3
          cases b3
          cases b6
        refine ⟨bm, ob, b1, b2, nG, nP, left b3 (nothing b3 (fun vs n z => ?_) fun z => ?_), b4, b5, b6⟩
        · rw [b6] at z
          cases z
        · rw [b6] at z
          cases z
      · obtain ⟨o, es, ep, e, y, _⟩ := G.T.g
        rw [z, hTp] at e
        cases e
        cases y
    have e0 : Env0 l.prog w (K w.params) mg (hidT s1.heap H) callerA [] s1 H :=
      ⟨rfl, md, fun b o e => of_hidT e, Nat.le_of_eq (hidT_size _ _), trivial, fun b z => (nomatch z), hok, .of_eq gens⟩
    have run := (hF _ inB (spaces G.T.g) TB).run callerA [] s1 H ⟨[.ref a], []⟩ [.ref a] [.ref a] _ _ hr e0
      (bind s1 (.ref a)) (.cons rfl .nil) (hsp w cs H a ns nlen bits (fun p hp => hTb _ (memT p hp)) hS)
    refine codeAny_mono run fun res s' h => ?_
    match res, h with
    | .error e, h => exact h.elim
    | .ok .next, h => exact h.elim
    | .ok .brk, h => exact h.elim
    | .ok .cont, h => exact h.elim
    | .ok (.ret u), ⟨v, H', os, bare, un, hok', r', q⟩ =>
      have q' : v = .bl true := q
      subst q'
      have r2 : u = Value.bool true := r'
      subst r2
      have stays : ∀ b o, b ∉ T → s1.heap.get? b = some o → s'.heap.get? b = some o := fun b o hb e => by
        cases z : H b with
        | none => exact un.keep b o e z (fun y => (nomatch y)) (fun y => (nomatch y))
        | some u =>
          rcases only b hb with y | ⟨ob, xs, y⟩
          · rw [z] at y
            cases y
          · obtain ⟨e1, _⟩ := hok b _ y
            obtain ⟨e2, _⟩ := hok' b _ (un.frzs b ob _ y)
            rw [e] at e1
            cases e1
            exact e2
      have grows : ∀ b ∈ T, ∃ more : Array Value, s'.heap.get? b = some { cls := .none, data := .fields (#[] ++ more) } := fun b hb => by
        obtain ⟨more, z⟩ := un.tbls b #[] (hTb b hb)
        exact ⟨more, hok' b _ z⟩
      refine ⟨rfl, ⟨fun b o e => ?_, fun b o e => ?_⟩, os, bare⟩
      · by_cases hb : b ∈ T
        · obtain ⟨more, hm⟩ := grows b hb
          have hb2 := hb
          rw [hT] at hb2
          obtain ⟨p, hp, ep⟩ := List.mem_map.mp hb2
          rw [isT b hb] at e
          cases e
          exact .inr (.inl ⟨by rw [← ep]; exact (hcs p hp).2.1.isCodeTable, rfl, #[], more, rfl, hm⟩)
        · exact .inl (stays b o hb e)
      · by_cases hb : b ∈ T
        · obtain ⟨more, hm⟩ := grows b hb
          exact ⟨_, hm⟩
        · exact ⟨o, stays b o hb e⟩
  let Hf : Option HO → Hp := fun u b => if b ∈ T then some (.tbl #[]) else if b = a then u else none
  have hf : ∀ u b, b ∈ T → Hf u b = some (.tbl #[]) := fun u b hb => if_pos hb
  have hf2 : ∀ u b, b ∉ T → b ≠ a → Hf u b = none := fun u b hb hn => (if_neg hb).trans (if_neg hn)
  have hf3 : ∀ u, Hf u a = u := fun u => (if_neg aT).trans (if_pos rfl)
  cases hk : (K w.params).lookup a with
  | some o =>
    have e := inK a o hk
    rw [obj] at e
    cases e
    refine go (Hf none) (hf none) (fun b hb => ?_) (.inr ⟨_, us.toArray, _, hk, rfl, rfl, rfl, ?_, by simpa using rv⟩)
      (fun b u z => ?_) (fun b z => ?_) fun z => absurd (hf3 none) z
    · by_cases hn : b = a
      · rw [hn]; exact .inl (hf3 none)
      · exact .inl (hf2 none b hb hn)
    · rw [List.size_toArray, nv]
      exact small
    · by_cases hb : b ∈ T
      · rw [hf none b hb] at z
        cases z
        exact isT b hb
      · by_cases hn : b = a
        · rw [hn, hf3] at z; cases z
        · rw [hf2 none b hb hn] at z; cases z
    · by_cases hb : b ∈ T
      · exact .inr hb
      · by_cases hn : b = a
        · exact .inl hn
        · exact absurd (hf2 none b hb hn) z
  | none =>
    let ob : Obj := { cls := .type "list", data := .seq us.toArray }
    refine go (Hf (some (.frz ob (.lst (ns.map V.int))))) (hf _) (fun b hb => ?_) (.inl (.inr ⟨ob, hf3 _⟩)) (fun b u z => ?_) (fun b z => ?_) fun _ => hk
    · by_cases hn : b = a
      · rw [hn]; exact .inr ⟨_, _, hf3 _⟩
      · exact .inl (hf2 _ b hb hn)
    · by_cases hb : b ∈ T
      · rw [hf _ b hb] at z
        cases z
        exact isT b hb
      · by_cases hn : b = a
        · rw [hn, hf3] at z
          cases z
          rw [hn]
          exact ⟨obj, by rw [List.length_map]; exact small, us, _, rv, obj⟩
        · rw [hf2 _ b hb hn] at z; cases z
    · by_cases hb : b ∈ T
      · exact .inr hb
      · by_cases hn : b = a
        · exact .inl hn
        · exact absurd (hf2 _ b hb hn) z
end Cl

namespace Cl
open PySem PySem.Spec PyProof.Rows L2
open GxR (TabB TabG Tabbed GenS)
/-! ### all(is_whole(part) for part in thing) -/
/-- a tuple of these parts, or another thing -/
def Th (K : PySem.W.Frag) (H : Hp) (v : V) : Option (List V) → Prop
  | none => ∃ T, Kd K H v T ∧ T ≠ "tuple"
  | some xs => ∃ a, v = .ref a ∧ SqT K H a xs ∧ ∀ x ∈ xs, ∃ T, Kd K H x T
theorem Kd.same {K : PySem.W.Frag} {H H' : Hp} {v : V} {T : String} (h : Kd K H v T) (s : Same H H') : Kd K H' v T := by
  cases h with
  | non => exact .non
  | bl b => exact .bl b
  | int i => exact .int i
  | str x => exact .str x
  | lst h => exact .lst (by
      rcases h with (h | ⟨o, h⟩) | h
      · exact .inl (.inl (s _ _ h))
      · exact .inl (.inr ⟨o, s _ _ h⟩)
      · exact .inr h)
  | tup h => exact .tup (seT s h)
  | dct h => exact .dct (s _ _ h)
theorem Th.same {K : PySem.W.Frag} {H H' : Hp} {v : V} {o : Option (List V)} (h : Th K H v o) (s : Same H H') : Th K H' v o := by
  cases o with
  | none => obtain ⟨T, h, n⟩ := h; exact ⟨T, h.same s, n⟩
  | some xs => obtain ⟨a, e, h, p⟩ := h; exact ⟨a, e, seT s h, fun x hx => let ⟨T, q⟩ := p x hx; ⟨T, q.same s⟩⟩
def wholes : Option (List V) → Int → Bool
  | none, _ => false
  | some xs, m => decide ((xs.length : Int) = m) && xs.all isI
def spAre (K : PySem.W.Frag) (P : Addr) : Sp := fun vs H Q _ => ∃ v m o, vs = [v, .int m] ∧ TabG H P ∧ Th K H v o ∧ ∀ H', Same H H' → Q (.bl (wholes o m)) H'
/-- is_whole(u), told quietly -/
def okQ (K : PySem.W.Frag) (h : Heap) (u : Value) (b : Bool) : Prop := ∃ T b1 b2, KQ K h u T ∧ kitB T "int" = some b1 ∧ kitB T "bool" = some b2 ∧ b = (b1 && !b2)
section
variable {P : Program} {w : World} {K : PySem.W.Frag} {mg : Str → Option Value}
theorem elt_qw {fn x : Str} {f : Addr} {p1 p2 p3 : Pos} {scope : Scope} {D : Nat} {Cp : List (Str × Addr) → Heap → Prop} (W : QW P w K mg f) (hD : D < recursionLimit) (hf : mg fn = some (.ref f)) (hkf : PySem.W.keepIn K (.ref f) = true)
    (hk : scope.kind = .function) (hl : scope.names.lookup x = some .local) (hg : scope.names.lookup fn = some .globalImplicit) (hd : (x == ("__debug__" : Str)) = false := by decide) (hdf : (fn == ("__debug__" : Str)) = false := by decide) :
    EltT P w K mg scope x (.Call (.Name fn p1) [.Name x p2] [] p3) D Cp (okQ K) := by
  intro cenv A' E' u b s m hA hdep hs hglo hblt St hcp hn hm ok
  obtain ⟨T, b1, b2, q, e1, e2, rfl⟩ := ok
  refine wpAny_Call_Name_kw (Calls.Name_function_global (by rw [hs]; exact hk) (show cenv.scope.names.lookup fn = some .globalImplicit by rw [hs]; exact hg) (Calls.loadGlobal_global (by rw [hglo]; exact St.2.1) hf ?_) hdf)
  refine PySem.W.callWith_K (h₀ := s.heap) (first := []) St.1 hkf ?_
  show wpAny _ _ (spliced [(false, eval (.Name x p2) cenv)]) _ _ s
  refine Calls.spliced_cons (wpAny_Name (wpAny_loadName_local (by rw [hs]; exact hk) (show cenv.scope.names.lookup x = some .local by rw [hs]; exact hl) hn hm ?_) hd)
  refine Calls.spliced_nil ⟨St.1, wpAny_call (codeAny_mono (W.run A' s u T b1 b2 (by omega) St q e1 e2) fun res s' hq => ?_)⟩
  obtain ⟨rfl, k⟩ := hq
  exact ⟨rfl, k⟩
theorem okQ.keeps {h h' : Heap} {u : Value} {b : Bool} (q : okQ K h u b) (k : ∀ a o, u = .ref a → h.get? a = some o → h'.get? a = some o) : okQ K h' u b := by
  obtain ⟨T, b1, b2, q, e⟩ := q
  exact ⟨T, b1, b2, q.keeps k, e⟩
theorem okQ.cls {h : Heap} {u : Value} {b : Bool} {a : Addr} (q : okQ K h u b) (e : u = .ref a) : ∃ o, h.get? a = some o ∧ o.cls ≠ .none := by
  obtain ⟨T, b1, b2, q, _⟩ := q
  obtain ⟨_, _, _, _, _, c⟩ := q
  obtain ⟨o, g, w⟩ := c a e
  exact ⟨o, g, by rw [w]; exact fun z => nomatch z⟩
theorem okQ.of {X : Cx} {pins : List (Addr × Obj)} {σ : L2.St} {H : Hp} {s : Shared} {v : V} {T : String} {u : Value} (I : Inv X pins σ H s) (h : Kd X.K H v T) (r : RelV v u) : okQ X.K s.heap u (isI v) := by
  refine ⟨T, _, _, h.kq I r, h.int?, h.bool?, ?_⟩
  cases v <;> first | rfl | (rename_i b; cases b <;> rfl)
end
end Cl
namespace Cl
open PySem PySem.Spec PyProof.Rows L2
open GxR (TabB TabG Tabbed GenS)
section
variable {X : Cx}
theorem pe_allW {c P f : Addr} {iter : Expr} {fn x : Str} {px p pos gpos p1 p2 p3 : Pos} {scope : Scope} {te : TE} {k : Nat}
    (hr : Room k X.A) (hD : X.A.depth + 1 < recursionLimit) (hg : Gl X "all") (hm : X.mg "all" = none) (TB : TabB X.base X.mg c P) (hcode : X.env.code = .ref c) (W : QW X.prog X.w X.K X.mg f) (hf : X.mg fn = some (.ref f)) (hkf : PySem.W.keepIn X.K (.ref f) = true)
    (hi : PE X iter te) (S : GenS X.env scope x) (hgf : scope.names.lookup fn = some .globalImplicit) (hs : ∀ v, genFold iter X.env v = pure v := by intro _; rfl)
    (hd : (x == ("__debug__" : Str)) = false := by decide) (hdf : (fn == ("__debug__" : Str)) = false := by decide)
    (he : starEach [.GeneratorExp (.Call (.Name fn p1) [.Name x p2] [] p3) [⟨.Name x px, iter, [], 0⟩] scope gpos] X.env = (false, eval (.GeneratorExp (.Call (.Name fn p1) [.Name x p2] [] p3) [⟨.Name x px, iter, [], 0⟩] scope gpos) X.env) :: starEach [] X.env := by rfl) :
    PE X (.Call (.Name "all" p) [.GeneratorExp (.Call (.Name fn p1) [.Name x p2] [] p3) [⟨.Name x px, iter, [], 0⟩] scope gpos] [] pos) (tAllT X.K P (fun _ _ => True) (fun H v b => ∃ T, Kd X.K H v T ∧ b = isI v) te) :=
  pe_allT (Cp := fun _ _ => True) (ok := okQ X.K) hr hg hm TB hcode S hi (elt_qw W hD hf hkf S.kind S.loc hgf hd hdf) (fun _ _ _ _ q k => q.keeps k) (fun _ _ _ _ q e => q.cls e)
    (fun I r ⟨T, h, e⟩ => by rw [e]; exact .of I h r) (fun _ _ => trivial) (fun _ _ _ q => q) trivial hs he
end
end Cl
namespace Cl
open PySem PySem.Spec PyProof.Rows L2
open GxR (TabB TabG Tabbed GenS)
theorem roomD {k : Nat} {A : Around} (r : Room k A) : A.depth + 1 < recursionLimit := by have := r.dp; omega
theorem genS {env : Env} {scope : Scope} {x : Str} (h1 : scope.kind = .function) (h2 : scope.isCoroutine = false) (h3 : ∀ y ∈ scope.names, y.2 ≠ .cell ∧ y.2 ≠ .free) (h4 : scope.names.lookup (".0" : Str) = some NameKind.local) (h5 : scope.names.lookup x = some .local) : GenS env scope x :=
  ⟨h1, h2, fun y h => (h3 y h).1, h4, h5, fun y h e => absurd e (h3 y h).2⟩
end Cl

namespace Cl
open PySem PySem.Spec PyProof.Rows L2
/-! ### pairs of whole numbers -/
def pd (p : Int × Int) : PyData := .tuple [.int p.1, .int p.2]
def At2 (K : PySem.W.Frag) (H : Hp) (v : V) (p : Int × Int) : Prop := ∃ a, v = .ref a ∧ SqT K H a [.int p.1, .int p.2]
def llt (p q : Int × Int) : Bool := decide (p.1 < q.1 ∨ (p.1 = q.1 ∧ p.2 < q.2))
def mn (p q : Int × Int) : Int × Int := if llt q p then q else p
def mx (p q : Int × Int) : Int × Int := if llt p q then q else p
theorem At2.dp {K : PySem.W.Frag} {H : Hp} {v : V} {p : Int × Int} (h : At2 K H v p) : Dp K H v (pd p) := by
  obtain ⟨a, rfl, h⟩ := h
  exact .tup h (.cons (.int _) (.cons (.int _) .nil))
theorem At2.same {K : PySem.W.Frag} {H H' : Hp} {v : V} {p : Int × Int} (h : At2 K H v p) (s : Same H H') : At2 K H' v p := by
  obtain ⟨a, rfl, h⟩ := h
  exact ⟨a, rfl, seT s h⟩
theorem lt_pd (p q : Int × Int) : PySem.W.dataLt (pd p) (pd q) = llt p q := by
  obtain ⟨a, b⟩ := p
  obtain ⟨c, d⟩ := q
  have e1 : PySem.W.keyToks (pd (a, b)) = [.inl 1, .inl a, .inl 1, .inl b, .inl 0] := by simp [pd, PySem.W.keyToks, PySem.W.keyToksAll]
  have e2 : PySem.W.keyToks (pd (c, d)) = [.inl 1, .inl c, .inl 1, .inl d, .inl 0] := by simp [pd, PySem.W.keyToks, PySem.W.keyToksAll]
  unfold PySem.W.dataLt llt
  rw [e1, e2, lex_self (O := itemOrd)]
  by_cases h : a = c
  · subst h
    rw [lex_self (O := itemOrd), lex_self (O := itemOrd)]
    by_cases h2 : b = d
    · subst h2
      rw [lex_self (O := itemOrd), lex_self (O := itemOrd)]
      simp
      rfl
    · rw [lex_diff (O := itemOrd) (by simpa using h2)]
      show decide (b < d) = _
      simp
  · rw [lex_diff (O := itemOrd) (by simpa using h)]
    show decide (a < c) = _
    simp [h]
theorem alike_pd (p q : Int × Int) : PySem.W.alike (pd p) (pd q) = true := rfl
theorem pd_inj {p q : Int × Int} (h : pd p = pd q) : p = q := by
  unfold pd at h
  injection h with h
  injection h with h1 h2
  injection h1 with h1
  injection h2 with h2 _
  injection h2 with h2
  exact Prod.ext h1 h2
section
variable {X : Cx}
def rCmp2 (K : PySem.W.Frag) (f : Int × Int → Int × Int → Bool) : R2 := fun x y H Q => ∃ p q, At2 K H x p ∧ At2 K H y q ∧ Q (.bl (f p q)) H
theorem op_le2 (hu : X.A.units + 64 < cLine) : OpR X (compareOp .LtE) (rCmp2 X.K fun p q => !llt q p) := by
  intro pins s σ H x y v u Q I rx ry ⟨p, q, hp, hq, h⟩
  obtain ⟨as, r1⟩ := Dp.reads I _ x v hp.dp rx
  obtain ⟨bs, r2⟩ := Dp.reads I _ y u hq.dp ry
  exact PySem.W.le_data r1 r2 (alike_pd p q) (fun z => nomatch z) (by show X.A.units + min 1 1 < cLine; omega) ⟨.bl _, H, I, rfl, by rw [lt_pd]; exact h⟩
theorem op_gt2 (hu : X.A.units + 64 < cLine) : OpR X (compareOp .Gt) (rCmp2 X.K fun p q => llt q p) := by
  intro pins s σ H x y v u Q I rx ry ⟨p, q, hp, hq, h⟩
  obtain ⟨as, r1⟩ := Dp.reads I _ x v hp.dp rx
  obtain ⟨bs, r2⟩ := Dp.reads I _ y u hq.dp ry
  exact PySem.W.gt_data r1 r2 (alike_pd p q) (fun z => nomatch z) (by show X.A.units + min 1 1 < cLine; omega) ⟨.bl _, H, I, rfl, by rw [lt_pd]; exact h⟩

/-- min, max of a tuple of two pairs: the pair itself -/
def rBest1 (K : PySem.W.Frag) (f : Int × Int → Int × Int → Int × Int) : List V → Hp → VK → Prop := fun xs H Q =>
  ∃ a u v p q, xs = [.ref a] ∧ SqT K H a [u, v] ∧ At2 K H u p ∧ At2 K H v q ∧ ∀ w, (w = u ∨ w = v) → At2 K H w (f p q) → Q w H
def rBest2 (K : PySem.W.Frag) (f : Int × Int → Int × Int → Int × Int) : List V → Hp → VK → Prop := fun xs H Q =>
  ∃ u v p q, xs = [u, v] ∧ At2 K H u p ∧ At2 K H v q ∧ ∀ w, (w = u ∨ w = v) → At2 K H w (f p q) → Q w H
theorem pick2 {pins : List (Addr × Obj)} {σ : L2.St} {H : Hp} {s : Shared} {h' : Heap} {tk : Nat} {u v : V} {u0 v0 w0 : Value} {p q r : Int × Int} {bs : List Addr} {Q : VK} {i : Nat}
    (I : Inv X pins σ H s) (hk : ∀ b o, s.heap.get? b = some o → h'.get? b = some o) (ru : RelV u u0) (rv : RelV v v0) (hu : At2 X.K H u p) (hv : At2 X.K H v q)
    (e : #[u0, v0][i]? = some w0) (rd : Reads h' w0 (pd r) bs) (h : ∀ w, (w = u ∨ w = v) → At2 X.K H w r → Q w H) :
    EP X pins σ Q w0 { s with heap := h', toks := tk } := by
  have J : Inv X pins σ H { s with heap := h', toks := tk } := I.kept hk
  match i, e with
  | 0, e =>
    cases e
    obtain ⟨as, r1⟩ := Dp.reads J _ u u0 hu.dp ru
    have e2 := pd_inj (rd.unique _ _ r1).1
    subst e2
    exact ⟨u, H, J, ru, h u (.inl rfl) hu⟩
  | 1, e =>
    cases e
    obtain ⟨as, r1⟩ := Dp.reads J _ v v0 hv.dp rv
    have e2 := pd_inj (rd.unique _ _ r1).1
    subst e2
    exact ⟨v, H, J, rv, h v (.inr rfl) hv⟩
  | i + 2, e => exact absurd e (by simp)
theorem all_alike (p q : Int × Int) : PySem.W.AlikeAll [pd p, pd q] := by
  constructor
  · intro x hx y hy
    simp only [List.mem_cons, List.not_mem_nil, or_false] at hx hy
    rcases hx with rfl | rfl <;> rcases hy with rfl | rfl <;> rfl
  · intro x hx
    simp only [List.mem_cons, List.not_mem_nil, or_false] at hx
    rcases hx with rfl | rfl <;> exact fun z => nomatch z
theorem best_mn (p q : Int × Int) : PySem.W.minD (pd p) [pd q] = pd (mn p q) := by
  unfold PySem.W.minD mn
  simp only [List.foldl, lt_pd]
  split <;> rfl
theorem best_mx (p q : Int × Int) : PySem.W.maxD (pd p) [pd q] = pd (mx p q) := by
  unfold PySem.W.maxD mx
  simp only [List.foldl, lt_pd]
  split <;> rfl
theorem cr_min1 (hc : X.calm = true) (hu : X.A.units + 64 < cLine) : CallR X (.builtin "min") (rBest1 X.K mn) := by
  intro pins s σ H xs us Q I r ⟨a, u, v, p, q, e, hS, hp, hq, h⟩
  subst e
  rw [Vals.ref1 r]
  obtain ⟨its, rv, ht, hz⟩ := I.tuple hS
  obtain ⟨u0, v0, rfl, r1, r2⟩ := vals2 rv
  obtain ⟨as, rd1⟩ := Dp.reads I _ u u0 hp.dp r1
  obtain ⟨bs, rd2⟩ := Dp.reads I _ v v0 hq.dp r2
  refine PySem.W.min_tuple_data (x := pd p) (xs := [pd q]) (I.ok.hd hc) ht (.cons rd1 (.cons rd2 .nil)) (all_alike p q) (by show X.A.units + 1 + max 1 (max 1 0) < cLine; omega) fun i w h' tk cs hi rd hk => ?_
  rw [best_mn] at rd
  exact pick2 I hk r1 r2 hp hq hi rd h
theorem cr_max1 (hc : X.calm = true) (hu : X.A.units + 64 < cLine) : CallR X (.builtin "max") (rBest1 X.K mx) := by
  intro pins s σ H xs us Q I r ⟨a, u, v, p, q, e, hS, hp, hq, h⟩
  subst e
  rw [Vals.ref1 r]
  obtain ⟨its, rv, ht, hz⟩ := I.tuple hS
  obtain ⟨u0, v0, rfl, r1, r2⟩ := vals2 rv
  obtain ⟨as, rd1⟩ := Dp.reads I _ u u0 hp.dp r1
  obtain ⟨bs, rd2⟩ := Dp.reads I _ v v0 hq.dp r2
  refine PySem.W.max_tuple_data (x := pd p) (xs := [pd q]) (I.ok.hd hc) ht (.cons rd1 (.cons rd2 .nil)) (all_alike p q) (by show X.A.units + 1 + max 1 (max 1 0) < cLine; omega) fun i w h' tk cs hi rd hk => ?_
  rw [best_mx] at rd
  exact pick2 I hk r1 r2 hp hq hi rd h
/-- max(u, v), min(u, v) of two pairs -/
theorem cr_max2 (hc : X.calm = true) (hu : X.A.units + 64 < cLine) : CallR X (.builtin "max") (rBest2 X.K mx) := by
  intro pins s σ H xs us Q I r ⟨u, v, p, q, e, hp, hq, h⟩
  subst e
  obtain ⟨u0, v0, rfl, r1, r2⟩ := vals2 r
  have nm : (toString "max" ++ toString ".loop" : String) = "max.loop" := by decide
  have bp : Builtin.Builtins.bindParams "max" ["key", "default"] 0 ⟨[], []⟩ = pure [none, none] := rfl
  refine call_function_tree F.kind_max F.plain_max F.entry_max (F.args_max2 _ _) ?_
  show wpAny _ X.A.in1 (Builtin.Builtins.bindParams "max" ["key", "default"] 0 ⟨[], []⟩ >>= _) _ _ s
  refine wpAny_bind (wpAny_of_eq bp ?_)
  show wpAny _ X.A.in1 (newTuple [u0, v0] >>= _) _ _ s
  refine wpAny_bind (wpAny_newObj_type ?_)
  have I1 : Inv X pins σ H { s with heap := s.heap.push { cls := .type "tuple", data := .seq #[u0, v0] } } :=
    I.kept (t' := s.toks) fun b ob z => Heap.get?_push_of_some _ z
  obtain ⟨as, rd1⟩ := Dp.reads I1 _ u u0 hp.dp r1
  obtain ⟨bs, rd2⟩ := Dp.reads I1 _ v v0 hq.dp r2
  have rds : ReadsAll (s.heap.push { cls := .type "tuple", data := .seq #[u0, v0] }) [u0, v0] [pd p, pd q] _ := .cons rd1 (.cons rd2 .nil)
  have cm := PySem.W.cmpIn_gt (prog := X.prog) (w := X.w) (A := X.A.in1) (s := { s with heap := s.heap.push { cls := .type "tuple", data := .seq #[u0, v0] } }) (vs := #[u0, v0]) rds (all_alike p q)
    (by show X.A.units + 1 + max 1 (max 1 0) < cLine; omega)
  refine wpAny_bind (wpAny_mono (PySem.W.iter_tupleW (A := X.A.in1) (vs := #[u0, v0]) (I.ok.hd hc) ⟨_, Heap.get?_push_size _ rfl, rfl, _, rfl⟩ (Q := fun it s2 => ∃ I' fp wr, ∃ G : Array GenState → Array GenState → Prop, ∃ St : Nat → Shared → Prop, it = .ref I' ∧
    WalksS X.prog X.w X.A.in1 I' fp wr G 2 (fun i v => #[u0, v0][i]? = some v) St ∧ St 0 s2 ∧ (∀ b ∈ fp, b < s2.heap.objs.size) ∧ (∀ b o, (s.heap.push { cls := .type "tuple", data := .seq #[u0, v0] }).get? b = some o → b ∉ wr) ∧
    (∀ b o, (s.heap.push { cls := .type "tuple", data := .seq #[u0, v0] }).get? b = some o → s2.heap.get? b = some o) ∧ s2.os = s.os ∧ s2.gens = s.gens ∧ G = (fun a b => b = a) ∧ s2.drawn = s.drawn) fun s2 e2 W st hfp hw hk => ?_) (fun it s2 hh => ?_) fun _ _ z => z)
  · exact ⟨_, _, _, _, _, rfl, W, st, hfp, hw, hk, by rw [e2], by rw [e2], rfl, by rw [e2]⟩
  · obtain ⟨I', fp, wr, G, St, rfl, W, hst, hfp, hw, hkeep, eo, eg, hG, ed⟩ := hh
    refine wpAny_bind (wpAny_newObj_type ?_)
    have hSf : s2.heap.objs.size ∉ fp := fun hm => Nat.lt_irrefl _ (hfp _ hm)
    rw [nm]
    refine wpAny_pure ⟨plainId_quiet F.plain_max_loop _, codeAny_max_loop_firstH W _ hw _ cm s2.heap.objs.size hSf (fresh_in hkeep) _ (by decide)
      (fun b o e => Heap.get?_push_of_some _ (hkeep b o e)) (W.frame 0 s2 _ s2.toks hst (Nat.le_refl _) fun b _ o e => Heap.get?_push_of_some _ e) (Heap.get?_push_size _ rfl) fun v' s' hP hm => ?_⟩
    have m := Moved.drop_new (tk := s2.toks) hm (Nat.le_refl _)
    have eb : argBest (fun i j => PySem.W.dataLt ([pd p, pd q].getD j PyData.none) ([pd p, pd q].getD i PyData.none)) (2 - 1) = if llt p q = true then 1 else 0 := by
      show (if PySem.W.dataLt (pd p) (pd q) = true then 1 else 0) = _
      rw [lt_pd]
    rw [eb] at hP
    have hs' : s' = { s with heap := s'.heap, toks := s'.toks } := by
      obtain ⟨hp', g', d', tk', os'⟩ := s'
      have h1 := m.gens
      rw [hG] at h1
      have h1 : g' = s.gens := h1.trans eg
      have h2 : d' = s.drawn := m.drawn.trans ed
      have h3 : os' = s.os := m.os.trans eo
      subst h1 h2 h3
      rfl
    have J : Inv X pins σ H { s with heap := s'.heap, toks := s'.toks } := I.kept fun b o z => by
      have z1 := Heap.get?_push_of_some { cls := .type "tuple", data := .seq #[u0, v0] } z
      exact m.heap b o (hw _ _ z1) (hkeep _ _ z1)
    rw [hs']
    cases hl : llt p q with
    | true =>
      rw [hl] at hP
      cases hP
      have e3 : mx p q = q := if_pos hl
      exact ⟨v, H, J, r2, h v (.inr rfl) (by rw [e3]; exact hq)⟩
    | false =>
      rw [hl] at hP
      cases hP
      have e3 : mx p q = p := if_neg (by rw [hl]; decide)
      exact ⟨u, H, J, r1, h u (.inl rfl) (by rw [e3]; exact hp)⟩
/-- min(u, v) of two pairs -/
theorem cr_min2 (hc : X.calm = true) (hu : X.A.units + 64 < cLine) : CallR X (.builtin "min") (rBest2 X.K mn) := by
  intro pins s σ H xs us Q I r ⟨u, v, p, q, e, hp, hq, h⟩
  subst e
  obtain ⟨u0, v0, rfl, r1, r2⟩ := vals2 r
  have nm : (toString "min" ++ toString ".loop" : String) = "min.loop" := by decide
  have bp : Builtin.Builtins.bindParams "min" ["key", "default"] 0 ⟨[], []⟩ = pure [none, none] := rfl
  refine call_function_tree F.kind_min F.plain_min F.entry_min (F.args_min2 _ _) ?_
  show wpAny _ X.A.in1 (Builtin.Builtins.bindParams "min" ["key", "default"] 0 ⟨[], []⟩ >>= _) _ _ s
  refine wpAny_bind (wpAny_of_eq bp ?_)
  show wpAny _ X.A.in1 (newTuple [u0, v0] >>= _) _ _ s
  refine wpAny_bind (wpAny_newObj_type ?_)
  have I1 : Inv X pins σ H { s with heap := s.heap.push { cls := .type "tuple", data := .seq #[u0, v0] } } :=
    I.kept (t' := s.toks) fun b ob z => Heap.get?_push_of_some _ z
  obtain ⟨as, rd1⟩ := Dp.reads I1 _ u u0 hp.dp r1
  obtain ⟨bs, rd2⟩ := Dp.reads I1 _ v v0 hq.dp r2
  have rds : ReadsAll (s.heap.push { cls := .type "tuple", data := .seq #[u0, v0] }) [u0, v0] [pd p, pd q] _ := .cons rd1 (.cons rd2 .nil)
  have cm := PySem.W.cmpIn_lt (prog := X.prog) (w := X.w) (A := X.A.in1) (s := { s with heap := s.heap.push { cls := .type "tuple", data := .seq #[u0, v0] } }) (vs := #[u0, v0]) rds (all_alike p q)
    (by show X.A.units + 1 + max 1 (max 1 0) < cLine; omega)
  refine wpAny_bind (wpAny_mono (PySem.W.iter_tupleW (A := X.A.in1) (vs := #[u0, v0]) (I.ok.hd hc) ⟨_, Heap.get?_push_size _ rfl, rfl, _, rfl⟩ (Q := fun it s2 => ∃ I' fp wr, ∃ G : Array GenState → Array GenState → Prop, ∃ St : Nat → Shared → Prop, it = .ref I' ∧
    WalksS X.prog X.w X.A.in1 I' fp wr G 2 (fun i v => #[u0, v0][i]? = some v) St ∧ St 0 s2 ∧ (∀ b ∈ fp, b < s2.heap.objs.size) ∧ (∀ b o, (s.heap.push { cls := .type "tuple", data := .seq #[u0, v0] }).get? b = some o → b ∉ wr) ∧
    (∀ b o, (s.heap.push { cls := .type "tuple", data := .seq #[u0, v0] }).get? b = some o → s2.heap.get? b = some o) ∧ s2.os = s.os ∧ s2.gens = s.gens ∧ G = (fun a b => b = a) ∧ s2.drawn = s.drawn) fun s2 e2 W st hfp hw hk => ?_) (fun it s2 hh => ?_) fun _ _ z => z)
  · exact ⟨_, _, _, _, _, rfl, W, st, hfp, hw, hk, by rw [e2], by rw [e2], rfl, by rw [e2]⟩
  · obtain ⟨I', fp, wr, G, St, rfl, W, hst, hfp, hw, hkeep, eo, eg, hG, ed⟩ := hh
    refine wpAny_bind (wpAny_newObj_type ?_)
    have hSf : s2.heap.objs.size ∉ fp := fun hm => Nat.lt_irrefl _ (hfp _ hm)
    rw [nm]
    refine wpAny_pure ⟨plainId_quiet F.plain_min_loop _, codeAny_min_loop_firstH W _ hw _ cm s2.heap.objs.size hSf (fresh_in hkeep) _ (by decide)
      (fun b o e => Heap.get?_push_of_some _ (hkeep b o e)) (W.frame 0 s2 _ s2.toks hst (Nat.le_refl _) fun b _ o e => Heap.get?_push_of_some _ e) (Heap.get?_push_size _ rfl) fun v' s' hP hm => ?_⟩
    have m := Moved.drop_new (tk := s2.toks) hm (Nat.le_refl _)
    have eb : argBest (fun i j => PySem.W.dataLt ([pd p, pd q].getD i PyData.none) ([pd p, pd q].getD j PyData.none)) (2 - 1) = if llt q p = true then 1 else 0 := by
      show (if PySem.W.dataLt (pd q) (pd p) = true then 1 else 0) = _
      rw [lt_pd]
    rw [eb] at hP
    have hs' : s' = { s with heap := s'.heap, toks := s'.toks } := by
      obtain ⟨hp', g', d', tk', os'⟩ := s'
      have h1 := m.gens
      rw [hG] at h1
      have h1 : g' = s.gens := h1.trans eg
      have h2 : d' = s.drawn := m.drawn.trans ed
      have h3 : os' = s.os := m.os.trans eo
      subst h1 h2 h3
      rfl
    have J : Inv X pins σ H { s with heap := s'.heap, toks := s'.toks } := I.kept fun b o z => by
      have z1 := Heap.get?_push_of_some { cls := .type "tuple", data := .seq #[u0, v0] } z
      exact m.heap b o (hw _ _ z1) (hkeep _ _ z1)
    rw [hs']
    cases hl : llt q p with
    | true =>
      rw [hl] at hP
      cases hP
      have e3 : mn p q = q := if_pos hl
      exact ⟨v, H, J, r2, h v (.inr rfl) (by rw [e3]; exact hq)⟩
    | false =>
      rw [hl] at hP
      cases hP
      have e3 : mn p q = p := if_neg (by rw [hl]; decide)
      exact ⟨u, H, J, r1, h u (.inl rfl) (by rw [e3]; exact hp)⟩
end
end Cl

namespace Cl
open PySem PySem.Spec PyProof.Rows L2
def pr (q : Addr × List Int) : Int × Int := (q.2.getD 0 0, q.2.getD 1 0)
def le2 (q r : Addr × List Int) : Prop := llt (pr r) (pr q) = false
theorem pr_of {q : Addr × List Int} (h : q.2.length = 2) : q.2 = [(pr q).1, (pr q).2] := by
  obtain ⟨a, xs⟩ := q
  match xs, h with
  | [x, y], _ => rfl
section
variable {P : Program} {w : World} {A : Around} {E : Value → Shared → Prop} {s : Shared} {a : Addr} {L : List (Addr × List Int)}
  {es : Array (Int × Value)} {ep : Nat} {t : SetTable} {Q : Value → Shared → Prop}
/-- sorted(set) of pairs of any whole numbers -/
theorem sorted_set2 (R : SetTR P w s.heap a L es ep t) (hh : A.handled = none) (h2 : ∀ p ∈ L, p.2.length = 2) (hu : A.units + 64 < cLine)
    (hQ : ∀ s' p (out : Array Value) (c : Nat) (L' : List (Addr × List Int)), (∀ b o, s.heap.get? b = some o → s'.heap.get? b = some o) →
      s'.gens = s.gens → s'.os = s.os → s.heap.objs.size ≤ p → s'.heap.get? p = some (seqObj "list" out c) →
      out.toList = L'.map (fun q => Value.ref q.1) → L'.Perm L → L'.Pairwise le2 → Q (.ref p) s') :
    wpAny (model P w) A (call (.builtin "sorted") [.ref a]) Q E s := by
  obtain ⟨o, ho, hex, hd⟩ := R.ob
  have nfew := R.few
  refine Calls.call_function_entry kind_sorted plain_sorted entry_sorted (args_sorted1 _) ?_
  unfold Builtin.«sorted»
  refine wpAny_bind (m := checkCount "sorted" 1 1 _) (wpAny_pure ?_)
  refine wpAny_bind (collect_set (A := A.in1) hh ⟨o, ho, hex.1, hd⟩ R.fits (by unfold scanBound; have := R.size; omega) R.tab.ris R.led fun s1 vs k1 hz g1 o1 pm => ?_)
  have rows : es.toList.map (·.2) = L.map fun q => Value.ref q.1 := by
    rw [R.rows]
    unfold rowsOf
    rw [List.map_map]
    rfl
  rw [rows] at pm
  -- what was collected is the set's rows, put in some order
  obtain ⟨L1, e1, p1⟩ : ∃ L1 : List (Addr × List Int), vs = L1.map (fun q => Value.ref q.1) ∧ L1.Perm L := by
    clear hQ k1 g1 o1 hz
    have gen : ∀ (L : List (Addr × List Int)) (us vs : List Value), us = L.map (fun q => Value.ref q.1) → vs.Perm us → ∃ L1 : List (Addr × List Int), vs = L1.map (fun q => Value.ref q.1) ∧ L1.Perm L := by
      intro L us vs eu hp
      induction hp generalizing L with
      | nil =>
        cases L with
        | nil => exact ⟨[], rfl, .nil⟩
        | cons q L => cases eu
      | @cons x l1 l2 hp ih =>
        cases L with
        | nil => cases eu
        | cons q L =>
          rw [List.map_cons] at eu
          injection eu with e2 e3
          obtain ⟨L1, e4, p4⟩ := ih L e3
          exact ⟨q :: L1, by rw [List.map_cons, e2, e4], p4.cons q⟩
      | swap x y l =>
        match L, eu with
        | q :: r :: L, eu =>
          rw [List.map_cons, List.map_cons] at eu
          injection eu with e2 e3
          injection e3 with e3 e4
          exact ⟨r :: q :: L, by rw [List.map_cons, List.map_cons, e2, e3, e4], .swap ..⟩
        | [_], eu => cases eu
        | [], eu => cases eu
      | trans h1 h2 ih1 ih2 =>
        obtain ⟨L2, e2, p2⟩ := ih2 L eu
        obtain ⟨L1, e1, p1⟩ := ih1 L2 e2
        exact ⟨L1, e1, p1.trans p2⟩
    exact gen L _ vs rfl pm
  have n1 : vs.length = L.length := by rw [e1, List.length_map, p1.length_eq]
  have small : vs.length ≤ sizeLine := by rw [sizeLine_eq]; omega
  refine wpAny_bind (wpAny_newList ?_ small)
  have oL : (s1.heap.push (seqObj "list" vs.toArray 0)).get? s1.heap.objs.size = some (seqObj "list" vs.toArray 0) := Heap.get?_push_size _ rfl
  let enc : Addr × List Int → PyData := fun q => .tuple [.int (pr q).1, .int (pr q).2]
  have reads : ∀ q ∈ L, ∃ as, Reads (s1.heap.push (seqObj "list" vs.toArray 0)) (.ref q.1) (enc q) as ∧ s1.heap.objs.size ∉ as := fun q hq => by
    obtain ⟨ob, its, n, x1, x2, x3, x4⟩ := R.tup q hq
    have x5 := ints_of_items x4
    rw [pr_of (h2 q hq)] at x5
    have lt := Heap.lt_size x1
    have y1 := Heap.get?_push_of_some (seqObj "list" vs.toArray 0) (k1 _ _ x1)
    obtain ⟨l, el⟩ : ∃ l, its.toList = l := ⟨_, rfl⟩
    rw [el] at x5
    have ei : its = l.toArray := by rw [← el]
    subst ei
    match l, x5 with
    | [.int _ t1, .int _ t2], .cons _ _ (.cons _ _ .nil) =>
      refine ⟨_, Reads.tuple y1 x2 x3 (.cons (.int _ _) (.cons (.int _ _) .nil)), fun z => ?_⟩
      have z2 : s1.heap.objs.size = q.1 := by simpa using z
      exact absurd (Nat.lt_of_lt_of_le lt hz) (by rw [z2]; exact Nat.lt_irrefl _)
  have each : ∀ l : List (Addr × List Int), (∀ q ∈ l, q ∈ L) → PySem.W.EachIs (fun (v : Value) (q : Addr × List Int) => v = .ref q.1) (l.map fun q => Value.ref q.1) l ∧
      PySem.W.EachIs (fun v q => ∃ as, Reads (s1.heap.push (seqObj "list" vs.toArray 0)) v (enc q) as ∧ s1.heap.objs.size ∉ as) (l.map fun q => Value.ref q.1) l := by
    intro l
    induction l with
    | nil => intro _; exact ⟨.nil, .nil⟩
    | cons q l ih =>
      intro h
      obtain ⟨i1, i2⟩ := ih fun r hr => h r (List.mem_cons_of_mem _ hr)
      exact ⟨.cons rfl i1, .cons (reads q (h q List.mem_cons_self)) i2⟩
  obtain ⟨c1, c2⟩ := each L1 fun q hq => p1.mem_iff.mp hq
  rw [← e1] at c1 c2
  refine wpAny_bind (wpAny_holding (PySem.W.list_sort_data (s := { s1 with heap := s1.heap.push (seqObj "list" vs.toArray 0) }) (enc := enc) oL c1 c2 (.of fun _ _ => rfl) (.tuples fun b => ⟨_, _, rfl⟩) (by rw [p1.length_eq, sizeLine_eq]; omega)
    (fun b _ => by show A.in1.units + 1 + 1 < cLine; show A.units + 1 + 1 + 1 < cLine; omega) fun out a1 a2 => ?_))
  obtain ⟨c, hc⟩ := sortedHeap_at (vs := vs) (out := out.toArray) oL
  have eo : out = (L1.mergeSort (PySem.W.dataLe false enc)).map fun q => Value.ref q.1 := by
    revert a2
    generalize L1.mergeSort (PySem.W.dataLe false enc) = M
    intro a2
    clear hc a1
    induction a2 with
    | nil => rfl
    | cons h t ih => rw [List.map_cons, ← ih, h]
  have pM : (L1.mergeSort (PySem.W.dataLe false enc)).Perm L := (List.mergeSort_perm _ _).trans p1
  have pw : (L1.mergeSort (PySem.W.dataLe false enc)).Pairwise le2 := by
    have hle : PySem.W.dataLe false enc = fun p q => decide ((pr p).1 < (pr q).1 ∨ ((pr p).1 = (pr q).1 ∧ (pr p).2 ≤ (pr q).2)) :=
      PySem.W.dataLe_ii (fun q => (pr q).1) (fun q => (pr q).2)
    rw [hle]
    refine List.Pairwise.imp (fun {q r} h => ?_) (List.pairwise_mergeSort (fun p q r h1 h2 => ?_) (fun p q => ?_) L1)
    · have h := of_decide_eq_true h
      unfold le2 llt
      exact decide_eq_false (by omega)
    · have h1 := of_decide_eq_true h1
      have h2 := of_decide_eq_true h2
      exact decide_eq_true (by omega)
    · rw [Bool.or_eq_true, decide_eq_true_eq, decide_eq_true_eq]
      omega
  refine wpAny_pure ⟨_, rfl, hQ _ s1.heap.objs.size out.toArray c (L1.mergeSort (PySem.W.dataLe false enc)) (fun b u e => ?_) g1 o1 hz hc eo pM pw⟩
  have e5 := k1 b u e
  have lt5 := Heap.lt_size e5
  show (sortedHeap (s1.heap.push (seqObj "list" vs.toArray 0)) s1.heap.objs.size vs out.toArray).get? b = some u
  rw [sortedHeap_old (Nat.ne_of_lt lt5) (by rw [size_push']; exact Nat.lt_succ_of_lt lt5)]
  exact Heap.get?_push_of_some _ e5
end
section
variable {X : Cx}
def rSortedS2 (K : PySem.W.Frag) (P : Program) (w : World) : List V → Hp → VK → Prop := fun vs H Q => ∃ (a : Addr) (L : List (Addr × List Int)),
  vs = [V.ref a] ∧ H a = some (SetTO P w a L) ∧ (∀ p ∈ L, SqT K H p.1 (p.2.map V.int)) ∧ (∀ p ∈ L, p.2.length = 2) ∧
  ∀ L' : List (Addr × List Int), L'.Perm L → (L'.map (·.2)).Nodup → L'.Pairwise le2 → New H (.lst (L'.map fun q => V.ref q.1)) Q
theorem cr_sortedS2 (hc : X.calm = true) (hu : X.A.units + 64 < cLine) : CallR X (.builtin "sorted") (rSortedS2 X.K X.prog X.w) := by
  intro pins s σ H vs us Q I r ⟨a, L, e, ha, hk, h2, q⟩
  subst e
  obtain ⟨es, ep, t, R⟩ := SetT0.full (I.hok a _ ha).1 fun p hp => I.isT (hk p hp)
  rw [Vals.ref1 r]
  refine sorted_set2 R (I.ok.hd hc) h2 hu fun s' p out c L' k g o hp hg hout pm pw => ?_
  have few : L'.length < 64 := by rw [pm.length_eq]; exact R.few
  have len : (L'.map fun q => V.ref q.1).length ≤ sizeLine := by rw [List.length_map, sizeLine_eq]; omega
  have hn : H p = none := I.hok.fresh hp
  have hv : Vals (L'.map fun q => V.ref q.1) out.toList := by rw [hout]; exact vals_of_refs L'
  have J : Inv X pins σ (upd H p (.lst (L'.map fun q => V.ref q.1))) { s with heap := s'.heap, gens := s'.gens, drawn := s'.drawn, toks := s'.toks } :=
    I.call (ch := []) (Un.laid k hp hn) (I.hok.laid k hp ⟨len, out.toList, c, hv, hg⟩) (by rw [g]; exact I.bare) (fun _ z => nomatch z)
  have e : s' = { s with heap := s'.heap, gens := s'.gens, drawn := s'.drawn, toks := s'.toks } := by
    cases s'
    cases s
    cases o
    rfl
  rw [e]
  exact ⟨.ref p, _, J, rfl, (q L' pm ((pm.map (·.2)).nodup_iff.mpr R.nd) pw).go p hn⟩
def rSetN (K : PySem.W.Frag) (P : Program) (w : World) : List V → Hp → VK → Prop := fun xs H Q => ∃ (l : Addr) (ks : List (Addr × List Int)), xs = [V.ref l] ∧ SqL K H l (ks.map fun p => V.ref p.1) ∧
  (∀ p ∈ ks, SqT K H p.1 (p.2.map V.int)) ∧ ks.length < 64 ∧ ∀ a H' L, Same H H' → H a = none → H' a = some (SetTO P w a L) → (∀ p ∈ L, p ∈ ks) → (∀ p ∈ ks, p.2 ∈ L.map (·.2)) → Q (.ref a) H'
theorem cr_setN (hc : X.calm = true) (hu : X.A.units + 64 < cLine) : CallR X (.type "set") (rSetN X.K X.prog X.w) := by
  intro pins s σ H xs us Q I r ⟨l, ks, e, h1, h2, h3, q⟩
  exact cr_setOfT hc hu pins s σ H xs us Q I r ⟨l, ks, e, h1, h2, h3, fun a L n s1 s2 => q a _ L (same_new n) n upd_same s1 s2⟩
end
end Cl

namespace Cl
open PySem PySem.Spec PyProof.Rows L2 HT
/-! ### t[::-1] of a tuple -/
theorem rev_adjust (n : Nat) : Builtin.Slice.sliceAdjust none none (-1) (n : Int) = ((n : Int) - 1, -1) := rfl
theorem rev_places (n : Nat) : Builtin.Slice.slicePlaces ((n : Int) - 1) (-1) (-1) = n := by
  unfold Builtin.Slice.slicePlaces
  rw [if_neg (by decide)]
  split
  · rw [show ((n : Int) - 1 - -1 - 1) / (- -1) = (n : Int) - 1 by rw [show (- -1 : Int) = 1 by decide, Int.ediv_one]; omega]
    omega
  · omega
theorem fm_congr {α β : Type} {f g : α → Option β} : ∀ (l : List α), (∀ k ∈ l, f k = g k) → l.filterMap f = l.filterMap g
  | [], _ => rfl
  | x :: l, h => by
    rw [List.filterMap_cons, List.filterMap_cons, h x List.mem_cons_self, fm_congr l fun k hk => h k (List.mem_cons_of_mem _ hk)]
theorem rev_pick (xs : Array Value) : ((List.range xs.size).filterMap fun (k : Nat) => xs[((xs.size : Int) - 1 + (k : Int) * -1).toNat]?).toArray = xs.toList.reverse.toArray := by
  congr 1
  have e : (List.range xs.size).filterMap (fun (k : Nat) => xs[((xs.size : Int) - 1 + (k : Int) * -1).toNat]?) =
      ((List.range xs.size).map fun k => xs.size - 1 - k).filterMap (xs[·]?) := by
    rw [List.filterMap_map]
    refine fm_congr _ fun k hk => ?_
    have hk := List.mem_range.mp hk
    show xs[((xs.size : Int) - 1 + (k : Int) * -1).toNat]? = xs[xs.size - 1 - k]?
    congr 1
    omega
  rw [e, PySem.W.krv_range, List.filterMap_reverse, PySem.W.krv_all]
section
variable {prog : Program} {w : World} {A : Around} {E : Value → Shared → Prop} {s : Shared}
theorem getItem_tuple_rev {t sl : Addr} {items : Array Value} {tk : Tok} {Q : Value → Shared → Prop} (ht : IsTup s.heap t items)
    (hs : s.heap.IsSliceOf sl .none .none (.int (-1) tk)) (hsz : items.size ≤ sizeLine)
    (h : Q (.ref s.heap.objs.size) { s with heap := s.heap.push { cls := .type "tuple", data := .seq items.toList.reverse.toArray } }) :
    wpAny (model prog w) A (getItem (.ref t) (.ref sl)) Q E s := by
  obtain ⟨os, hos, hcs, hds⟩ := id hs
  have isS : s.TypeIs (.ref sl) "slice" := ⟨os, hos, hcs⟩
  have fits : sizeOk (.seq items.toList.reverse.toArray) := by
    show items.toList.reverse.toArray.size ≤ sizeLine
    rw [List.size_toArray, List.length_reverse, Array.length_toList]
    exact hsz
  unfold getItem
  try with_reducible refine wpAny_holding ?_
  first | refine wpAny_bind (wpAny_pure ?_) | skip
  refine wpAny_bind (wpAny_sequenceKey ht.typeIs (by decide) ?_)
  refine wpAny_bind (wpAny_callSpecial?_slot (name := Str.ofString "__getitem__") ht.typeIs PyProof.Rows.slot_tuple_getitem
    (wpAny_call_entry PyProof.Rows.slot_tuple_getitem ht.typeIs entry_tuple_getitem ?_ (args_tuple_getitem _ _)))
  show wpAny _ _ (Builtin.Tuple.tupleItemsOf (.ref t) >>= _) _ _ s
  refine wpAny_bind (tupleItemsOf_ ht ?_)
  refine wpAny_bind (wpAny_typeOf isS ?_)
  rw [if_pos (by decide)]
  have applied : ∀ (A' : Around) (E' : Value → Shared → Prop) (Q' : Int × Int × Nat → Shared → Prop), Q' ((items.size : Int) - 1, -1, items.size) s →
      wpAny (model prog w) A' (Builtin.Slice.sliceApplied (.ref sl) (pure (items.size : Int))) Q' E' s := fun A' E' Q' q => by
    unfold Builtin.Slice.sliceApplied Builtin.Slice.sliceFields
    refine wpAny_bind (wpAny_bind (wpAny_field hos hds (x := .none) rfl (wpAny_bind (wpAny_field hos hds (x := .none) rfl (wpAny_bind (wpAny_field hos hds (x := .int (-1) tk) rfl (wpAny_pure ?_)))))))
    refine wpAny_bind (slicePart_ (.int (-1) tk) ?_)
    show wpAny _ _ (if ((-1 : Int) == 0) = true then _ else _) _ _ s
    rw [if_neg (by decide)]
    refine wpAny_bind (slicePart_ .none (wpAny_bind (slicePart_ .none (wpAny_bind (wpAny_pure ?_)))))
    show wpAny _ _ (match Builtin.Slice.sliceAdjust none none (-1) (items.size : Int) with | (lo, hi) => pure (lo, (-1 : Int), Builtin.Slice.slicePlaces lo hi (-1))) _ _ s
    rw [rev_adjust]
    show wpAny _ _ (pure ((items.size : Int) - 1, (-1 : Int), Builtin.Slice.slicePlaces ((items.size : Int) - 1) (-1) (-1))) _ _ s
    rw [rev_places]
    exact wpAny_pure q
  refine wpAny_bind (applied _ _ _ ?_)
  have notw : ¬ ((((items.size : Int) - 1) == 0 && (-1 : Int) == 1 && items.size == items.size) = true) := by
    rw [show ((-1 : Int) == 1) = false by decide, Bool.and_false, Bool.false_and]
    decide
  show wpAny _ _ (if (((items.size : Int) - 1) == 0 && (-1 : Int) == 1 && items.size == items.size) = true then _ else _) _ _ s
  rw [if_neg notw, rev_pick]
  first
    | exact wpAny_bind (m := Builtin.Tuple.tupleExact _) (wpAny_newObj_type (wpAny_pure ⟨_, rfl, wpAny_pure h⟩) fits)
    | exact wpAny_bind (m := Builtin.Tuple.tupleExact _) (wpAny_newObj_type (wpAny_bind (wpAny_pure (wpAny_pure ⟨_, rfl, wpAny_pure h⟩))) fits)
    | exact wpAny_bind (wpAny_bind (m := Builtin.Tuple.tupleExact _) (wpAny_newObj_type (wpAny_pure (wpAny_pure ⟨_, rfl, wpAny_pure h⟩)) fits))
    | exact wpAny_bind (wpAny_bind (m := Builtin.Tuple.tupleExact _) (wpAny_newObj_type (wpAny_pure ⟨_, rfl, wpAny_pure h⟩) fits))
end
section
variable {X : Cx} {e : Expr} {te : TE}
def tRevT (K : PySem.W.Frag) (te : TE) : TE := fun σ H Q => te σ H fun x H1 => ∃ a xs, x = .ref a ∧ SqT K H1 a xs ∧ New H1 (.tup xs.reverse) Q
theorem pe_revT {p0 p1 p2 pos : Pos} {j : Nat} (he : PE X e te) :
    PE X (.Subscript e (.Slice none none (some (.UnaryOp .USub (.Constant (.int 1) j p0) p1)) p2) pos) (tRevT X.K te) := by
  constructor
  intro pins s σ H Q I h
  refine Subscript_ (thn (he.run pins s σ H _ I h) fun v s1 ⟨x, H1, I1, r1, a, xs, hx, hl, q⟩ => ?_)
  subst hx
  cases r1
  refine wpAny_Slice ?_
  rw [evalPart_none]
  refine wpAny_pure ?_
  refine wpAny_pure ?_
  rw [evalPart_some]
  have neg : PE X (.UnaryOp .USub (.Constant (.int 1) j p0) p1) _ := pe_un un_neg pe_int
  refine thn (neg.run pins s1 σ H1 (fun y H2 => y = .int (-1) ∧ H2 = H1) I1 ⟨1, rfl, rfl, rfl⟩) fun u s2 ⟨y, H2, I2, ry, hy, hH⟩ => ?_
  subst hy hH
  obtain ⟨t, rfl⟩ := ry
  have I4 : Inv X pins σ H2 { s2 with heap := s2.heap.push { cls := .type "slice", data := .fields #[.none, .none, .int (-1) t] } } :=
    I2.kept (t' := s2.toks) fun b ob z => Heap.get?_push_of_some _ z
  obtain ⟨its, r, ht, hz⟩ := I4.tuple hl
  have nl := r.length
  refine tail_any ht.typeIs PyProof.Rows.slot_tuple_getitem.lookup ?_ (by with_unfolding_all rfl)
  refine getItem_tuple_rev ht (Heap.IsSliceOf.new ..) (by rw [List.size_toArray] <;> omega) ?_
  refine ⟨.ref _, _, I4.laid (t' := s2.toks) (o := .tup xs.reverse) (fun b ob z => Heap.get?_push_of_some _ z) (Nat.le_refl _) ?_, rfl, q.go _ (I4.hok.fresh (Nat.le_refl _))⟩
  exact ⟨by rw [List.length_reverse]; exact hz, _, valsRev r, IsTup.new _ _⟩
end

/-! ### more rules that hand on a new object -/
section
variable {X : Cx}
def rCatTN (K : PySem.W.Frag) : R2 := fun x y H Q => ∃ a b xs ys, x = .ref a ∧ y = .ref b ∧ SqT K H a xs ∧ SqT K H b ys ∧ xs ≠ [] ∧ ys ≠ [] ∧
  xs.length + ys.length ≤ sizeLine ∧ New H (.tup (xs ++ ys)) Q
theorem op_catTN : OpR X (binaryOp .Add) (rCatTN X.K) := fun pins s σ H x y v u Q I rx ry ⟨a, b, xs, ys, h1, h2, h3, h4, h5, h6, h7, q⟩ =>
  op_catT pins s σ H x y v u Q I rx ry ⟨a, b, xs, ys, h1, h2, h3, h4, h5, h7, fun z => absurd z h6, fun _ => q.go⟩
def rCatLN : R2 := fun x y H Q => ∃ l b xs zs, x = .ref l ∧ y = .ref b ∧ H l = some (.lst xs) ∧ H b = some (.lst zs) ∧ xs.length + zs.length ≤ sizeLine ∧ New H (.lst (xs ++ zs)) Q
theorem op_catLN : OpR X (binaryOp .Add) rCatLN := fun pins s σ H x y v u Q I rx ry ⟨l, b, xs, zs, h1, h2, h3, h4, h5, q⟩ =>
  op_cat pins s σ H x y v u Q I rx ry ⟨l, b, xs, zs, h1, h2, h3, h4, h5, q.go⟩
theorem call_tuple_ofN : CallR X (.type "tuple") (fun xs H Q => ∃ p ys, xs = [.ref p] ∧ SqL X.K H p ys ∧ New H (.tup ys) Q) :=
  fun pins s σ H xs us Q I r ⟨p, ys, h1, h2, q⟩ => call_tuple_of pins s σ H xs us Q I r ⟨p, ys, h1, .inl ⟨h2, q.go⟩⟩
end
end Cl

namespace Cl
open PySem PySem.Spec PyProof.Rows L2
/-! ### what two lines have in common: the mathematics -/
abbrev Pt := Int × Int
abbrev Ln := Pt × Pt
abbrev S3 := Int × Int × Int
def trn (p q : Pt) : Int := p.1 * q.2 - p.2 * q.1
def less (p q : Pt) : Pt := (p.1 - q.1, p.2 - q.2)
def sp3 (n m d : Int) : S3 := (n / spP n m d, m / spP n m d, d / spP n m d)
theorem sp3_scale {n m d t : Int} (ht : 0 < t) (hd : 0 < d) : sp3 (n * t) (m * t) (d * t) = sp3 n m d := by
  have hdt : 0 < d * t := Int.mul_pos hd ht
  have e : spP (n * t) (m * t) (d * t) = spP n m d * t := by
    unfold spP gpar
    rw [if_neg (by omega), if_neg (by omega), Int.gcd_mul_right]
    have c : (((Int.gcd n m * t.natAbs : Nat)) : Int) = (Int.gcd n m : Nat) * t := by
      rw [Int.natCast_mul, Int.natAbs_of_nonneg (by omega)]
    rw [c, Int.gcd_mul_right, Int.natCast_mul, Int.natAbs_of_nonneg (by omega)]
  unfold sp3
  rw [e, Int.mul_ediv_mul_of_pos_left _ _ ht, Int.mul_ediv_mul_of_pos_left _ _ ht, Int.mul_ediv_mul_of_pos_left _ _ ht]
/-- the shares and their bottom, the bottom above nought -/
def kfs (l r : Ln) : Int := if trn (less l.2 l.1) (less r.2 r.1) < 0 then -1 else 1
def klm (l r : Ln) : Int × Int × Int :=
  (trn (less r.1 l.1) (less r.2 r.1) * kfs l r, trn (less r.1 l.1) (less l.2 l.1) * kfs l r, trn (less l.2 l.1) (less r.2 r.1) * kfs l r)
def acr (l r : Ln) : List S3 :=
  let t := klm l r
  if (0 ≤ t.1 ∧ t.1 ≤ t.2.2) ∧ (0 ≤ t.2.1 ∧ t.2.1 ≤ t.2.2) then
    [sp3 (t.2.2 * l.1.1 + t.1 * (l.2.1 - l.1.1)) (t.2.2 * l.1.2 + t.1 * (l.2.2 - l.1.2)) t.2.2] else []
def lo (l r : Ln) : Pt := mx (mn l.1 l.2) (mn r.1 r.2)
def hi (l r : Ln) : Pt := mn (mx l.1 l.2) (mx r.1 r.2)
def alo (l r : Ln) : List S3 :=
  if llt (hi l r) (lo l r) then [] else if lo l r = hi l r then [((lo l r).1, (lo l r).2, 1)] else [((lo l r).1, (lo l r).2, 1), ((hi l r).1, (hi l r).2, 1)]
def cmn (l r : Ln) : List S3 :=
  if trn (less l.2 l.1) (less r.2 r.1) ≠ 0 then acr l r else if trn (less l.2 l.1) (less r.1 l.1) ≠ 0 then [] else alo l r
def rev (l : Ln) : Ln := (l.2, l.1)

theorem trn_neg (p q : Pt) : trn p q = -trn q p := by
  unfold trn; grind
theorem mn_comm (p q : Pt) : mn p q = mn q p := by
  obtain ⟨a, b⟩ := p
  obtain ⟨c, d⟩ := q
  unfold mn llt
  by_cases h1 : c < a ∨ (c = a ∧ d < b) <;> by_cases h2 : a < c ∨ (a = c ∧ b < d) <;> simp [h1, h2] <;> omega
theorem mx_comm (p q : Pt) : mx p q = mx q p := by
  obtain ⟨a, b⟩ := p
  obtain ⟨c, d⟩ := q
  unfold mx llt
  by_cases h1 : c < a ∨ (c = a ∧ d < b) <;> by_cases h2 : a < c ∨ (a = c ∧ b < d) <;> simp [h1, h2] <;> omega
theorem lo_swap (l r : Ln) : lo r l = lo l r := mx_comm ..
theorem hi_swap (l r : Ln) : hi r l = hi l r := mn_comm ..
theorem alo_swap (l r : Ln) : alo r l = alo l r := by unfold alo; rw [lo_swap, hi_swap]
theorem alo_rev (l r : Ln) : alo (rev l) r = alo l r := by
  unfold alo lo hi rev
  rw [mn_comm l.2, mx_comm l.2]

theorem klm_swap (l r : Ln) (h : trn (less l.2 l.1) (less r.2 r.1) ≠ 0) : klm r l = ((klm l r).2.1, (klm l r).1, (klm l r).2.2) := by
  have e := trn_neg (less r.2 r.1) (less l.2 l.1)
  have ek : kfs r l = -kfs l r := by
    unfold kfs
    rw [e]
    split <;> split <;> omega
  unfold klm
  rw [ek]
  unfold trn less
  refine Prod.ext ?_ (Prod.ext ?_ ?_) <;> simp only <;> grind
theorem klm_pos (l r : Ln) (h : trn (less l.2 l.1) (less r.2 r.1) ≠ 0) : 0 < (klm l r).2.2 := by
  show 0 < trn (less l.2 l.1) (less r.2 r.1) * kfs l r
  unfold kfs
  split <;> omega
theorem acr_swap (l r : Ln) (h : trn (less l.2 l.1) (less r.2 r.1) ≠ 0) : acr r l = acr l r := by
  unfold acr
  rw [klm_swap l r h]
  simp only
  have e1 : (klm l r).2.2 * r.1.1 + (klm l r).2.1 * (r.2.1 - r.1.1) = (klm l r).2.2 * l.1.1 + (klm l r).1 * (l.2.1 - l.1.1) := by
    unfold klm trn less
    simp only
    grind
  have e2 : (klm l r).2.2 * r.1.2 + (klm l r).2.1 * (r.2.2 - r.1.2) = (klm l r).2.2 * l.1.2 + (klm l r).1 * (l.2.2 - l.1.2) := by
    unfold klm trn less
    simp only
    grind
  rw [e1, e2]
  split <;> split <;> first | rfl | (exfalso; omega)
theorem klm_rev (l r : Ln) (h : trn (less l.2 l.1) (less r.2 r.1) ≠ 0) : klm (rev l) r = ((klm l r).2.2 - (klm l r).1, (klm l r).2.1, (klm l r).2.2) := by
  have e : trn (less l.1 l.2) (less r.2 r.1) = -trn (less l.2 l.1) (less r.2 r.1) := by unfold trn less; grind
  have ek : kfs (rev l) r = -kfs l r := by
    unfold kfs rev
    simp only
    rw [e]
    split <;> split <;> omega
  unfold klm
  rw [ek]
  unfold trn less rev
  refine Prod.ext ?_ (Prod.ext ?_ ?_) <;> simp only <;> grind
theorem acr_rev (l r : Ln) (h : trn (less l.2 l.1) (less r.2 r.1) ≠ 0) : acr (rev l) r = acr l r := by
  unfold acr
  rw [klm_rev l r h]
  simp only
  have e1 : (klm l r).2.2 * (rev l).1.1 + ((klm l r).2.2 - (klm l r).1) * ((rev l).2.1 - (rev l).1.1) = (klm l r).2.2 * l.1.1 + (klm l r).1 * (l.2.1 - l.1.1) := by
    unfold rev
    grind
  have e2 : (klm l r).2.2 * (rev l).1.2 + ((klm l r).2.2 - (klm l r).1) * ((rev l).2.2 - (rev l).1.2) = (klm l r).2.2 * l.1.2 + (klm l r).1 * (l.2.2 - l.1.2) := by
    unfold rev
    grind
  rw [e1, e2]
  split <;> split <;> first | rfl | (exfalso; omega)
theorem cmn_rev (l r : Ln) : cmn (rev l) r = cmn l r := by
  have e : trn (less l.1 l.2) (less r.2 r.1) = -trn (less l.2 l.1) (less r.2 r.1) := by unfold trn less; grind
  have e2 : trn (less l.1 l.2) (less r.1 l.2) = -trn (less l.2 l.1) (less r.1 l.1) := by unfold trn less; grind
  unfold cmn
  show (if trn (less l.1 l.2) (less r.2 r.1) ≠ 0 then acr (rev l) r else if trn (less l.1 l.2) (less r.1 l.2) ≠ 0 then [] else alo (rev l) r) = _
  rw [e, e2, alo_rev]
  by_cases h : trn (less l.2 l.1) (less r.2 r.1) = 0
  · rw [h]; by_cases h2 : trn (less l.2 l.1) (less r.1 l.1) = 0 <;> simp [h2]
  · rw [if_pos (by omega), if_pos h, acr_rev l r h]
theorem par (w u f : Pt) (hw : w ≠ (0, 0)) (h1 : trn w u = 0) (h2 : trn w f = 0) : trn u f = 0 := by
  obtain ⟨w1, w2⟩ := w
  obtain ⟨u1, u2⟩ := u
  obtain ⟨f1, f2⟩ := f
  unfold trn at *
  simp only at *
  by_cases h : w1 = 0
  · have h0 : w2 ≠ 0 := fun z => hw (by rw [h, z])
    have : w2 * (u1 * f2 - u2 * f1) = 0 := by grind
    rcases Int.mul_eq_zero.mp this with z | z
    · exact absurd z h0
    · exact z
  · have : w1 * (u1 * f2 - u2 * f1) = 0 := by grind
    rcases Int.mul_eq_zero.mp this with z | z
    · exact absurd z h
    · exact z
theorem less_ne {p q : Pt} (h : q ≠ p) : less p q ≠ (0, 0) := fun z => h (by
  obtain ⟨a, b⟩ := p
  obtain ⟨c, d⟩ := q
  unfold less at z
  injection z with z1 z2
  simp only at z1 z2
  exact Prod.ext (by simp only; omega) (by simp only; omega))
theorem cmn_swap (l r : Ln) (hl : l.1 ≠ l.2) (hr : r.1 ≠ r.2) : cmn r l = cmn l r := by
  unfold cmn
  have e := trn_neg (less r.2 r.1) (less l.2 l.1)
  by_cases h : trn (less l.2 l.1) (less r.2 r.1) = 0
  · rw [e, h, alo_swap]
    have e3 : trn (less r.2 r.1) (less l.1 r.1) = 0 ↔ trn (less l.2 l.1) (less r.1 l.1) = 0 := by
      have n1 : ∀ p : Pt, trn p (less l.1 r.1) = -trn p (less r.1 l.1) := fun p => by unfold trn less; grind
      rw [n1]
      constructor
      · intro z
        exact par _ _ _ (less_ne hr) (by rw [e, h]; rfl) (by omega)
      · intro z
        have := par _ _ _ (less_ne hl) h z
        omega
    by_cases h2 : trn (less l.2 l.1) (less r.1 l.1) = 0
    · simp [h2, e3.mpr h2]
    · simp [h2, show ¬ trn (less r.2 r.1) (less l.1 r.1) = 0 from fun z => h2 (e3.mp z)]
  · rw [if_pos (by omega), if_pos h, acr_swap l r h]
theorem cmn_rev2 (l r : Ln) (hl : l.1 ≠ l.2) (hr : r.1 ≠ r.2) : cmn l (rev r) = cmn l r := by
  rw [← cmn_swap l (rev r) hl (fun z => hr z.symm), cmn_rev, cmn_swap l r hl hr]

/-! ### along one straight line: the first and the last of what lies in both -/
def ple (p q : Pt) : Prop := llt q p = false
theorem ple_iff {p q : Pt} : ple p q ↔ ¬ (q.1 < p.1 ∨ (q.1 = p.1 ∧ q.2 < p.2)) := by
  unfold ple llt
  exact decide_eq_false_iff_not
theorem ple_refl (p : Pt) : ple p p := ple_iff.mpr (by omega)
theorem ple_trans {p q r : Pt} (h1 : ple p q) (h2 : ple q r) : ple p r := by
  rw [ple_iff] at *
  omega
theorem ple_antisymm {p q : Pt} (h1 : ple p q) (h2 : ple q p) : p = q := by
  rw [ple_iff] at *
  exact Prod.ext (by omega) (by omega)
theorem ple_of {p q : Pt} (h : llt p q = true) : ple p q := by
  have h := of_decide_eq_true h
  rw [ple_iff]
  omega
theorem mn_or (p q : Pt) : (mn p q = p ∨ mn p q = q) ∧ ple (mn p q) p ∧ ple (mn p q) q := by
  unfold mn
  cases h : llt q p with
  | true => exact ⟨.inr rfl, ple_of h, ple_refl _⟩
  | false => exact ⟨.inl rfl, ple_refl _, h⟩
theorem mx_or (p q : Pt) : (mx p q = p ∨ mx p q = q) ∧ ple p (mx p q) ∧ ple q (mx p q) := by
  unfold mx
  cases h : llt p q with
  | true => exact ⟨.inr rfl, ple_of h, ple_refl _⟩
  | false => exact ⟨.inl rfl, ple_refl _, h⟩
def within (p : Pt) (r : Ln) : Prop := ple (mn r.1 r.2) p ∧ ple p (mx r.1 r.2)
def inBoth (l r : Ln) (p : Pt) : Prop := ((p = l.1 ∨ p = l.2) ∧ within p r) ∨ ((p = r.1 ∨ p = r.2) ∧ within p l)
theorem self_in {p : Pt} {l : Ln} (h : p = l.1 ∨ p = l.2) : within p l := by
  obtain ⟨_, a2, a3⟩ := mn_or l.1 l.2
  obtain ⟨_, b2, b3⟩ := mx_or l.1 l.2
  rcases h with rfl | rfl
  · exact ⟨a2, b2⟩
  · exact ⟨a3, b3⟩
theorem inBoth_two {l r : Ln} {p : Pt} (h : inBoth l r p) : within p l ∧ within p r := by
  rcases h with ⟨h1, h2⟩ | ⟨h1, h2⟩
  · exact ⟨self_in h1, h2⟩
  · exact ⟨h2, self_in h1⟩
theorem inBoth_mid {l r : Ln} {p : Pt} (h : inBoth l r p) : ple (lo l r) p ∧ ple p (hi l r) := by
  obtain ⟨⟨a1, a2⟩, b1, b2⟩ := inBoth_two h
  unfold lo hi
  constructor
  · rcases (mx_or (mn l.1 l.2) (mn r.1 r.2)).1 with z | z <;> rw [z] <;> assumption
  · rcases (mn_or (mx l.1 l.2) (mx r.1 r.2)).1 with z | z <;> rw [z] <;> assumption
theorem lo_in {l r : Ln} (h : ple (lo l r) (hi l r)) : inBoth l r (lo l r) := by
  have hl : ple (lo l r) (mx l.1 l.2) := ple_trans h (mn_or _ _).2.1
  have hr : ple (lo l r) (mx r.1 r.2) := ple_trans h (mn_or _ _).2.2
  obtain ⟨c, d1, d2⟩ := mx_or (mn l.1 l.2) (mn r.1 r.2)
  rcases c with z | z
  · refine .inl ⟨?_, d2, hr⟩
    show lo l r = _ ∨ lo l r = _
    unfold lo; rw [z]; exact (mn_or _ _).1
  · refine .inr ⟨?_, d1, hl⟩
    show lo l r = _ ∨ lo l r = _
    unfold lo; rw [z]; exact (mn_or _ _).1
theorem hi_in {l r : Ln} (h : ple (lo l r) (hi l r)) : inBoth l r (hi l r) := by
  have hl : ple (mn l.1 l.2) (hi l r) := ple_trans (mx_or _ _).2.1 h
  have hr : ple (mn r.1 r.2) (hi l r) := ple_trans (mx_or _ _).2.2 h
  obtain ⟨c, d1, d2⟩ := mn_or (mx l.1 l.2) (mx r.1 r.2)
  rcases c with z | z
  · refine .inl ⟨?_, hr, d2⟩
    show hi l r = _ ∨ hi l r = _
    unfold hi; rw [z]; exact (mx_or _ _).1
  · refine .inr ⟨?_, hl, d1⟩
    show hi l r = _ ∨ hi l r = _
    unfold hi; rw [z]; exact (mx_or _ _).1
def one3 (p : Pt) : S3 := (p.1, p.2, 1)
theorem along_due (l r : Ln) (T : List Pt) (hs : T.Pairwise ple) (nd : T.Nodup) (mem : ∀ p, p ∈ T ↔ inBoth l r p) :
    (T.take 1 ++ (T.drop 1).drop ((T.drop 1).length - 1)).map one3 = alo l r := by
  unfold alo
  cases hh : llt (hi l r) (lo l r) with
  | true =>
    have : T = [] := by
      refine List.eq_nil_iff_forall_not_mem.mpr fun p hp => ?_
      obtain ⟨a, b⟩ := inBoth_mid ((mem p).mp hp)
      have z : ple (lo l r) (hi l r) := ple_trans a b
      unfold ple at z
      rw [hh] at z
      cases z
    subst this
    rfl
  | false =>
    have hle : ple (lo l r) (hi l r) := hh
    have m1 := (mem _).mpr (lo_in hle)
    have m2 := (mem _).mpr (hi_in hle)
    cases T with
    | nil => cases m1
    | cons a t =>
      obtain ⟨p1, p2⟩ := List.pairwise_cons.mp hs
      obtain ⟨n1, n2⟩ := List.nodup_cons.mp nd
      have ha : a = lo l r := by
        have b := (inBoth_mid ((mem a).mp List.mem_cons_self)).1
        rcases List.mem_cons.mp m1 with z | z
        · exact z.symm
        · exact ple_antisymm (p1 _ z) b
      subst ha
      rw [if_neg (by decide)]
      rcases List.eq_nil_or_concat t with rfl | ⟨t', b, rfl⟩
      · have : hi l r = lo l r := by simpa using m2
        rw [if_pos this.symm]
        rfl
      · have hb : b = hi l r := by
          have c := (inBoth_mid ((mem b).mp (List.mem_cons_of_mem _ (by simp)))).2
          refine ple_antisymm c ?_
          rcases List.mem_cons.mp m2 with z | z
          · rw [z]; exact p1 b (by simp)
          · rcases List.mem_append.mp (by simpa using z : hi l r ∈ t' ++ [b]) with z | z
            · rw [List.concat_eq_append] at p2
              exact (List.pairwise_append.mp p2).2.2 _ z _ (by simp)
            · rw [List.mem_singleton.mp z]; exact ple_refl _
        have ne : lo l r ≠ hi l r := fun z => n1 (by rw [z, ← hb]; simp)
        rw [if_neg ne]
        subst hb
        simp [one3]
end Cl

namespace Cl
open PySem PySem.Spec PyProof.Rows L2
/-! ### lines, spots and tuples of them where they stand -/
def AtL (K : PySem.W.Frag) (H : Hp) (v : V) (l : Ln) : Prop := ∃ a u w, v = .ref a ∧ SqT K H a [u, w] ∧ At2 K H u l.1 ∧ At2 K H w l.2
def At3 (K : PySem.W.Frag) (H : Hp) (v : V) (s : S3) : Prop := ∃ a, v = .ref a ∧ SqT K H a [.int s.1, .int s.2.1, .int s.2.2]
inductive AllAt {α : Type} (R : V → α → Prop) : List V → List α → Prop
  | nil : AllAt R [] []
  | cons {v : V} {x : α} {vs : List V} {xs : List α} : R v x → AllAt R vs xs → AllAt R (v :: vs) (x :: xs)
def AtS (K : PySem.W.Frag) (H : Hp) (v : V) (ss : List S3) : Prop := ∃ a vs, v = .ref a ∧ SqT K H a vs ∧ AllAt (At3 K H) vs ss
def AtP (K : PySem.W.Frag) (H : Hp) (v : V) (ps : List Pt) : Prop := ∃ a vs, v = .ref a ∧ SqT K H a vs ∧ AllAt (At2 K H) vs ps
def BdP (p : Pt) : Prop := (-(2 ^ 60) < p.1 ∧ p.1 < 2 ^ 60) ∧ (-(2 ^ 60) < p.2 ∧ p.2 < 2 ^ 60)
def BdC (p : Pt) : Prop := (-(2 ^ 40) < p.1 ∧ p.1 < 2 ^ 40) ∧ (-(2 ^ 40) < p.2 ∧ p.2 < 2 ^ 40)
def BdL (l : Ln) : Prop := BdC l.1 ∧ BdC l.2
section
variable {K : PySem.W.Frag} {H H' : Hp} {v : V}
theorem AtL.same {l : Ln} (h : AtL K H v l) (s : Same H H') : AtL K H' v l := by
  obtain ⟨a, u, w, rfl, h1, h2, h3⟩ := h
  exact ⟨a, u, w, rfl, seT s h1, h2.same s, h3.same s⟩
theorem At3.same {t : S3} (h : At3 K H v t) (s : Same H H') : At3 K H' v t := by
  obtain ⟨a, rfl, h⟩ := h
  exact ⟨a, rfl, seT s h⟩
theorem AllAt.map {α : Type} {R R' : V → α → Prop} (f : ∀ v x, R v x → R' v x) : ∀ {vs : List V} {xs : List α}, AllAt R vs xs → AllAt R' vs xs
  | _, _, .nil => .nil
  | _, _, .cons h t => .cons (f _ _ h) (AllAt.map f t)
theorem AllAt.length {α : Type} {R : V → α → Prop} : ∀ {vs : List V} {xs : List α}, AllAt R vs xs → vs.length = xs.length
  | _, _, .nil => rfl
  | _, _, .cons _ t => by rw [List.length_cons, List.length_cons, t.length]
theorem AllAt.get {α : Type} {R : V → α → Prop} : ∀ {vs : List V} {xs : List α} {i : Nat} {v : V}, AllAt R vs xs → vs[i]? = some v → ∃ x, xs[i]? = some x ∧ R v x
  | _, _, 0, v, .cons h t, e => by cases e; exact ⟨_, rfl, h⟩
  | _, _, i + 1, v, .cons h t, e => AllAt.get t (i := i) e
theorem AllAt.app {α : Type} {R : V → α → Prop} : ∀ {vs ws : List V} {xs ys : List α}, AllAt R vs xs → AllAt R ws ys → AllAt R (vs ++ ws) (xs ++ ys)
  | _, _, _, _, .nil, h => h
  | _, _, _, _, .cons a t, h => .cons a (AllAt.app t h)
theorem AtS.same {ss : List S3} (h : AtS K H v ss) (s : Same H H') : AtS K H' v ss := by
  obtain ⟨a, vs, rfl, h1, h2⟩ := h
  exact ⟨a, vs, rfl, seT s h1, h2.map fun _ _ z => z.same s⟩
theorem AtP.same {ps : List Pt} (h : AtP K H v ps) (s : Same H H') : AtP K H' v ps := by
  obtain ⟨a, vs, rfl, h1, h2⟩ := h
  exact ⟨a, vs, rfl, seT s h1, h2.map fun _ _ z => z.same s⟩
def d3 (s : S3) : PyData := .tuple [.int s.1, .int s.2.1, .int s.2.2]
theorem AtS.dp {ss : List S3} (h : AtS K H v ss) : Dp K H v (.tuple (ss.map d3)) := by
  obtain ⟨a, vs, rfl, h1, h2⟩ := h
  refine .tup h1 ?_
  clear h1
  induction h2 with
  | nil => exact .nil
  | cons h t ih =>
    obtain ⟨b, rfl, h⟩ := h
    exact .cons (.tup h (.cons (.int _) (.cons (.int _) (.cons (.int _) .nil)))) ih
theorem AtL.rev {l : Ln} {a : Addr} {xs : List V} (h : AtL K H (.ref a) l) (h2 : SqT K H a xs) : True := trivial
end
theorem bd_less {p q : Pt} (h1 : BdC p) (h2 : BdC q) : BdP (less p q) := by
  unfold BdP BdC less at *
  simp only at *
  omega
theorem BdL.rev {l : Ln} (h : BdL l) : BdL (rev l) := ⟨h.2, h.1⟩
/-! ### promises of the program's defs -/
def spStep (K : PySem.W.Frag) : Sp := fun vs H Q _ => ∃ v l, vs = [v] ∧ AtL K H v l ∧ ∀ w H', Same H H' → At2 K H' w (less l.2 l.1) → Q w H'
def spTurn (K : PySem.W.Frag) : Sp := fun vs H Q _ => ∃ u v p q, vs = [u, v] ∧ At2 K H u p ∧ At2 K H v q ∧ BdP p ∧ Q (.int (trn p q)) H
def spSide (K : PySem.W.Frag) : Sp := fun vs H Q _ => ∃ u v l p, vs = [u, v] ∧ AtL K H u l ∧ At2 K H v p ∧ BdL l ∧ ∀ H', Same H H' → Q (.int (trn (less l.2 l.1) (less p l.1))) H'
def spSpotAt (K : PySem.W.Frag) : Sp := fun vs H Q _ => ∃ v l k m, vs = [v, .int k, .int m] ∧ AtL K H v l ∧ BdL l ∧ m ≠ 0 ∧ m.natAbs < 2 ^ 200 ∧
  ∀ w H', Same H H' → At3 K H' w (sp3 (m * l.1.1 + k * (l.2.1 - l.1.1)) (m * l.1.2 + k * (l.2.2 - l.1.2)) m) → Q w H'
def spTwo (K : PySem.W.Frag) (f : Ln → Ln → List S3) (C : Ln → Ln → Prop) : Sp := fun vs H Q _ => ∃ u v l r, vs = [u, v] ∧ AtL K H u l ∧ AtL K H v r ∧ BdL l ∧ BdL r ∧ C l r ∧
  ∀ w H', Same H H' → AtS K H' w (f l r) → Q w H'
theorem trn_lt {p q : Pt} (hp : BdP p) (hq : BdP q) : (trn p q).natAbs < 2 ^ 122 := by
  unfold BdP at *
  unfold trn
  have b : ∀ a b : Int, -(2 ^ 60) < a → a < 2 ^ 60 → -(2 ^ 60) < b → b < 2 ^ 60 → (a * b).natAbs < 2 ^ 120 := fun a b h1 h2 h3 h4 => wide_lt (a := 60) (b := 60) (by omega) (by omega)
  have b1 := b p.1 q.2 (by omega) (by omega) (by omega) (by omega)
  have b2 := b p.2 q.1 (by omega) (by omega) (by omega) (by omega)
  omega

section
variable {K : PySem.W.Frag} {H H' : Hp} {v : V} {d l : Addr}
theorem stT {a : Addr} {xs : List V} (S : Step d l H H') (D : Deck H d l) (h : SqT K H a xs) : SqT K H' a xs := by
  obtain ⟨ns, s, c, h1, h2, h3⟩ := D.ex
  rcases h with (h | ⟨o, h⟩) | h
  · exact .inl (.inl (S.tupH D h))
  · exact .inl (.inr ⟨o, S.at (ne_of h h1 (by intro z; cases z)) (ne_of h h2 (by intro z; cases z)) h⟩)
  · exact .inr h
theorem At2.step {p : Pt} (h : At2 K H v p) (S : Step d l H H') (D : Deck H d l) : At2 K H' v p := by
  obtain ⟨a, rfl, h⟩ := h
  exact ⟨a, rfl, stT S D h⟩
theorem AtL.step {r : Ln} (h : AtL K H v r) (S : Step d l H H') (D : Deck H d l) : AtL K H' v r := by
  obtain ⟨a, u, w, rfl, h1, h2, h3⟩ := h
  exact ⟨a, u, w, rfl, stT S D h1, h2.step S D, h3.step S D⟩
end
def BdN (B : Int) (p : Pt) : Prop := (-B ≤ p.1 ∧ p.1 ≤ B) ∧ (-B ≤ p.2 ∧ p.2 ≤ B)
def spUnlike (K : PySem.W.Frag) : Sp := fun vs H Q _ => ∃ u v p q, vs = [u, v] ∧ At2 K H u p ∧ At2 K H v q ∧
  ∀ w H' l, Same H H' → AtL K H' w l → l.1 = p → l.1 ≠ l.2 → (l.2 = q ∨ l.2 = (p.1 + 1, p.2)) → Q w H'
def spLess (K : PySem.W.Frag) : Sp := fun vs H Q _ => ∃ u v p q, vs = [u, v] ∧ At2 K H u p ∧ At2 K H v q ∧ ∀ w H', Same H H' → At2 K H' w (less p q) → Q w H'
def spLowest (K : PySem.W.Frag) : Sp := fun vs H Q _ => ∃ n m d : Int, vs = [.int n, .int m, .int d] ∧ 0 < d ∧ d.natAbs < 2 ^ 200 ∧ ∀ w H', Same H H' → At3 K H' w (sp3 n m d) → Q w H'
def spRight (K : PySem.W.Frag) : Sp := fun vs H Q _ => ∃ u v l r, vs = [u, v] ∧ AtL K H u l ∧ AtL K H v r ∧ BdL l ∧ BdL r ∧ l.1 ≠ l.2 ∧ r.1 ≠ r.2 ∧ ∀ H', Same H H' → Q (.bl true) H'
theorem gcd_fmod (a b : Int) (h : b ≠ 0) : Int.gcd b (a.fmod b) = Int.gcd a b := by
  have e : a.fmod b = a - b * a.fdiv b := Int.fmod_def a b
  rw [e, Int.gcd_comm a b, Int.sub_eq_add_neg, ← Int.mul_neg, Int.gcd_add_mul_left_right]
theorem fmod_small (a b : Int) (h : b ≠ 0) : (a.fmod b).natAbs < b.natAbs := by
  rcases Int.lt_or_gt_of_ne h with hb | hb
  · have e1 : (-a).fmod (-b) = -(a.fmod b) := Int.neg_fmod_neg ..
    have h1 := Int.fmod_nonneg_of_pos (-a) (show 0 < -b by omega)
    have h2 := Int.fmod_lt_of_pos (-a) (show 0 < -b by omega)
    omega
  · have h1 := Int.fmod_nonneg_of_pos a hb
    have h2 := Int.fmod_lt_of_pos a hb
    omega

/-! ### what a comprehension picks of two points -/
structure Sel (K : PySem.W.Frag) (H0 : Hp) (pts : List Pt) (r : Ln) (i : Nat) (ks : List (Addr × List Int)) : Prop where
  tup : ∀ q ∈ ks, SqT K H0 q.1 (q.2.map V.int) ∧ q.2.length = 2
  len : ks.length ≤ i
  mem : ∀ x, (∃ q ∈ ks, pr q = x) ↔ ∃ j, j < i ∧ pts[j]? = some x ∧ within x r
section
variable {K : PySem.W.Frag} {H0 : Hp} {pts : List Pt} {r : Ln} {i : Nat} {ks : List (Addr × List Int)} {pt : Pt} {c : Addr}
theorem Sel.nil : Sel K H0 pts r 0 [] := ⟨fun q h => (nomatch h), Nat.le_refl _, fun x => ⟨fun ⟨q, h, _⟩ => (nomatch h), fun ⟨j, h, _⟩ => absurd h (Nat.not_lt_zero _)⟩⟩
theorem Sel.keep (S : Sel K H0 pts r i ks) (h : pts[i]? = some pt) (w : within pt r) (hc : SqT K H0 c [.int pt.1, .int pt.2]) :
    Sel K H0 pts r (i + 1) (ks ++ [(c, [pt.1, pt.2])]) := by
  refine ⟨fun q hq => ?_, by rw [List.length_append]; exact Nat.add_le_add_right S.len 1, fun x => ⟨?_, ?_⟩⟩
  · rcases List.mem_append.mp hq with z | z
    · exact S.tup q z
    · rw [List.mem_singleton.mp z]; exact ⟨hc, rfl⟩
  · rintro ⟨q, hq, e⟩
    rcases List.mem_append.mp hq with z | z
    · obtain ⟨j, a, b⟩ := (S.mem x).mp ⟨q, z, e⟩
      exact ⟨j, by omega, b⟩
    · rw [List.mem_singleton.mp z] at e
      subst e
      exact ⟨i, by omega, h, w⟩
  · rintro ⟨j, hj, a, b⟩
    by_cases e : j = i
    · subst e
      rw [h] at a
      cases a
      exact ⟨_, List.mem_append.mpr (.inr (List.mem_singleton.mpr rfl)), rfl⟩
    · obtain ⟨q, z, e2⟩ := (S.mem x).mpr ⟨j, by omega, a, b⟩
      exact ⟨q, List.mem_append.mpr (.inl z), e2⟩
theorem Sel.drop (S : Sel K H0 pts r i ks) (h : pts[i]? = some pt) (w : ¬ within pt r) : Sel K H0 pts r (i + 1) ks := by
  refine ⟨S.tup, Nat.le_succ_of_le S.len, fun x => ⟨fun z => ?_, ?_⟩⟩
  · obtain ⟨j, a, b⟩ := (S.mem x).mp z
    exact ⟨j, by omega, b⟩
  · rintro ⟨j, hj, a, b⟩
    by_cases e : j = i
    · subst e
      rw [h] at a
      cases a
      exact absurd b w
    · exact (S.mem x).mpr ⟨j, by omega, a, b⟩
theorem Sel.two {p q : Pt} (S : Sel K H0 [p, q] r 2 ks) (x : Pt) : (∃ q ∈ ks, pr q = x) ↔ (x = p ∨ x = q) ∧ within x r := by
  rw [S.mem x]
  constructor
  · rintro ⟨j, hj, a, b⟩
    match j, hj, a with
    | 0, _, a => cases a; exact ⟨.inl rfl, b⟩
    | 1, _, a => cases a; exact ⟨.inr rfl, b⟩
  · rintro ⟨a | a, b⟩
    · exact ⟨0, by omega, by rw [a]; rfl, b⟩
    · exact ⟨1, by omega, by rw [a]; rfl, b⟩
end
theorem pr_ints {q : Addr × List Int} (h : q.2.length = 2) : q.2.map V.int = [.int (pr q).1, .int (pr q).2] := by
  rw [pr_of h]
  rfl
theorem nodup_pr {L : List (Addr × List Int)} (h : ∀ q ∈ L, q.2.length = 2) (nd : (L.map (·.2)).Nodup) : (L.map pr).Nodup := by
  have e : ∀ l : List (Addr × List Int), (∀ q ∈ l, q.2.length = 2) → l.map (·.2) = (l.map pr).map fun p : Pt => [p.1, p.2] := by
    intro l
    induction l with
    | nil => intro _; rfl
    | cons q l ih =>
      intro h
      rw [List.map_cons, List.map_cons, List.map_cons, ih fun r hr => h r (List.mem_cons_of_mem _ hr), pr_of (h q List.mem_cons_self)]
  rw [e L h] at nd
  exact List.Pairwise.of_map _ (fun _ _ hne z => hne (by rw [z])) nd
theorem cut_first (xs : List V) : cutV xs none (some 1) = xs.take 1 := by
  unfold cutV
  rw [HT.sIx_none, show HT.sIx xs.length xs.length (some 1) = min 1 xs.length from HT.sIx_nat _ _ 1, List.drop_zero, Nat.sub_zero]
  cases xs with
  | nil => rfl
  | cons x r => rw [List.length_cons, Nat.min_eq_left (by omega)]
theorem cut_rest (xs : List V) : cutV xs (some 1) none = xs.drop 1 := by
  unfold cutV
  rw [HT.sIx_none, show HT.sIx xs.length 0 (some 1) = min 1 xs.length from HT.sIx_nat _ _ 1]
  cases xs with
  | nil => rfl
  | cons x r =>
    rw [List.length_cons, Nat.min_eq_left (by omega)]
    show List.take (r.length + 1 - 1) r = r
    rw [Nat.add_sub_cancel, List.take_length]
theorem cut_last (xs : List V) : cutV xs (some (-1)) none = xs.drop (xs.length - 1) := by
  unfold cutV
  have e : HT.sIx xs.length 0 (some (-1)) = xs.length - 1 := by
    show (if (-1 : Int) < 0 then ((-1 : Int) + (xs.length : Int)).toNat else min (-1 : Int).toNat xs.length) = _
    rw [if_pos (by decide)]
    omega
  rw [HT.sIx_none, e]
  exact List.take_of_length_le (by rw [List.length_drop]; omega)

/-! ### the same rules within a comprehension, the written part named -/
section
variable {X : Cx} {K : PySem.W.Frag}
theorem op_le2k (hK : X.K = K) (hu : X.A.units + 64 < cLine) : OpR X (compareOp .LtE) (rCmp2 K fun p q => !llt q p) := hK ▸ op_le2 hu
theorem op_gt2k (hK : X.K = K) (hu : X.A.units + 64 < cLine) : OpR X (compareOp .Gt) (rCmp2 K fun p q => llt q p) := hK ▸ op_gt2 hu
theorem cr_min1k (hK : X.K = K) (hc : X.calm = true) (hu : X.A.units + 64 < cLine) : CallR X (.builtin "min") (rBest1 K mn) := hK ▸ cr_min1 hc hu
theorem cr_max1k (hK : X.K = K) (hc : X.calm = true) (hu : X.A.units + 64 < cLine) : CallR X (.builtin "max") (rBest1 K mx) := hK ▸ cr_max1 hc hu
theorem op_catTNk (hK : X.K = K) : OpR X (binaryOp .Add) (rCatTN K) := hK ▸ op_catTN
theorem ix_tupk (hK : X.K = K) : IxR X (rIxT K) := hK ▸ ix_tup
theorem ix_listk (hK : X.K = K) : IxR X (rIxL K) := hK ▸ ix_list
theorem op_neDk (hK : X.K = K) (hu : X.A.units + 64 < cLine) : OpR X (compareOp .NotEq) (rNeD K) := hK ▸ op_neD hu
theorem op_eqDk (hK : X.K = K) (hu : X.A.units + 64 < cLine) : OpR X (compareOp .Eq) (rEqD K) := hK ▸ op_eqD hu
end

theorem acc3 {K : PySem.W.Frag} {H5 H' H7 : Hp} {pD p7 : Addr} {ws : List V} {ss : List S3} {t : S3} (nD : H5 pD = none) (t1 : Same H5 H') (e : H' pD = some (.lst ws))
    (all : AllAt (At3 K H') ws ss) (s7 : Same H' H7) (n7 : H' p7 = none) (g7 : H7 p7 = some (.tup [.int t.1, .int t.2.1, .int t.2.2])) (len : ss.length ≤ 900) :
    ∃ acc, H7 pD = some (.lst acc) ∧ acc.length < sizeLine ∧ (Same H5 (upd H7 pD (.lst (acc ++ [.ref p7]))) ∧
      ∃ ws', (upd H7 pD (.lst (acc ++ [.ref p7]))) pD = some (.lst ws') ∧ AllAt (At3 K (upd H7 pD (.lst (acc ++ [.ref p7])))) ws' (ss ++ [t])) := by
  have npD : pD ≠ p7 := ne_of_none e n7
  have k7 := s7 _ _ e
  have lw := all.length
  have sT : ∀ {o : HO} {b : Addr} {xs : List V}, SqT K H7 b xs → SqT K (upd H7 pD o) b xs := fun {o b xs} z => by
    rcases z with (z | ⟨oo, z⟩) | z
    · exact .inl (.inl (by rw [upd_ne (ne_of z k7 (by intro z; cases z))]; exact z))
    · exact .inl (.inr ⟨oo, by rw [upd_ne (ne_of z k7 (by intro z; cases z))]; exact z⟩)
    · exact .inr z
  refine ⟨ws, k7, small1000 (by omega), fun b o z => ?_, ws ++ [.ref p7], upd_same, ?_⟩
  · rw [upd_ne (ne_of_none z nD)]
    exact (t1.trans s7) _ _ z
  · refine AllAt.app (all.map fun v s h => ?_) (.cons ⟨p7, rfl, .inl (.inl ?_)⟩ .nil)
    · obtain ⟨b, rfl, h9⟩ := h.same s7
      exact ⟨b, rfl, sT h9⟩
    · rw [upd_ne npD.symm]
      exact g7
end Cl

namespace Cl
open PySem PySem.Spec PyProof.Rows L2
/-! ### what two lines have in common is shown shortly -/
def ok3 (s : S3) : Prop := okI s.1 ∧ okI s.2.1 ∧ okI s.2.2
theorem okI.sh {i : Int} (h : okI i) : i.natAbs.log2 < 1920 := by have := h.log; omega
theorem fine3 : ∀ {ss : List S3}, ss.length ≤ 2 → (∀ s ∈ ss, ok3 s) → Fine (.tuple (ss.map d3))
  | [], _, _ => by constructor <;> decide
  | [a], _, h => by
    obtain ⟨h1, h2, h3⟩ := h a (by simp)
    have a1 := h1.len
    have a2 := h2.len
    have a3 := h3.len
    have b1 := h1.sh
    have b2 := h2.sh
    have b3 := h3.sh
    constructor
    · simp [d3, PyData.leavesShort, PyData.leavesShortAll, a1, a2, a3]
    · simp [d3, PyData.showable, PyData.showableAll, b1, b2, b3]
    · rfl
    · simp [d3, PyData.depth, PyData.depthAll]
    · simp [d3, PyData.bulk, PyData.bulkAll]
  | [a, b], _, h => by
    obtain ⟨h1, h2, h3⟩ := h a (by simp)
    obtain ⟨g1, g2, g3⟩ := h b (by simp)
    have a1 := h1.len
    have a2 := h2.len
    have a3 := h3.len
    have b1 := h1.sh
    have b2 := h2.sh
    have b3 := h3.sh
    have c1 := g1.len
    have c2 := g2.len
    have c3 := g3.len
    have e1 := g1.sh
    have e2 := g2.sh
    have e3 := g3.sh
    constructor
    · simp [d3, PyData.leavesShort, PyData.leavesShortAll, a1, a2, a3, c1, c2, c3]
    · simp [d3, PyData.showable, PyData.showableAll, b1, b2, b3, e1, e2, e3]
    · rfl
    · simp [d3, PyData.depth, PyData.depthAll]
    · simp [d3, PyData.bulk, PyData.bulkAll]
theorem BdC.or {p q r : Pt} (hp : BdC p) (hq : BdC q) (h : r = p ∨ r = q) : BdC r := by rcases h with rfl | rfl <;> assumption
theorem ok_one3 {p : Pt} (h : BdC p) : ok3 (one3 p) := by
  unfold BdC at h
  exact ⟨okI.of (show -(2 ^ 189) < p.1 by omega) (show p.1 < 2 ^ 189 by omega), okI.of (show -(2 ^ 189) < p.2 by omega) (show p.2 < 2 ^ 189 by omega), okI.of (show -(2 ^ 189) < (1 : Int) by omega) (show (1 : Int) < 2 ^ 189 by omega)⟩
theorem okI_div {n p : Int} (h : n.natAbs < 2 ^ 190) : okI (n / p) := Nat.lt_of_le_of_lt (Int.natAbs_ediv_le_natAbs n p) h
theorem fine_cmn {l r : Ln} (bl : BdL l) (br : BdL r) : Fine (.tuple ((cmn l r).map d3)) := by
  have b1 := bd_less bl.2 bl.1
  have b2 := bd_less br.2 br.1
  have b3 := bd_less br.1 bl.1
  have t1 := trn_lt b1 b2
  have t2 := trn_lt b3 b2
  have kM : (klm l r).2.2.natAbs < 2 ^ 122 := by
    show (trn (less l.2 l.1) (less r.2 r.1) * kfs l r).natAbs < 2 ^ 122
    unfold kfs
    split <;> omega
  have kN : (klm l r).1.natAbs < 2 ^ 122 := by
    show (trn (less r.1 l.1) (less r.2 r.1) * kfs l r).natAbs < 2 ^ 122
    unfold kfs
    split <;> omega
  have hlo : BdC (lo l r) := by
    obtain ⟨c, _⟩ := mx_or (mn l.1 l.2) (mn r.1 r.2)
    exact BdC.or (BdC.or bl.1 bl.2 (mn_or l.1 l.2).1) (BdC.or br.1 br.2 (mn_or r.1 r.2).1) c
  have hhi : BdC (hi l r) := by
    obtain ⟨c, _⟩ := mn_or (mx l.1 l.2) (mx r.1 r.2)
    exact BdC.or (BdC.or bl.1 bl.2 (mx_or l.1 l.2).1) (BdC.or br.1 br.2 (mx_or r.1 r.2).1) c
  unfold cmn
  split
  · unfold acr
    simp only
    split
    · refine fine3 (by simp) fun s hs => ?_
      rw [List.mem_singleton.mp hs]
      obtain ⟨⟨x1, x2⟩, x3, x4⟩ := bl.1
      unfold BdP less at b1
      obtain ⟨⟨y1, y2⟩, y3, y4⟩ := b1
      simp only at y1 y2 y3 y4
      have m1 := wide_lt (i := (klm l r).2.2) (j := l.1.1) (a := 122) (b := 40) kM (by omega)
      have m2 := wide_lt (i := (klm l r).2.2) (j := l.1.2) (a := 122) (b := 40) kM (by omega)
      have m3 := wide_lt (i := (klm l r).1) (j := l.2.1 - l.1.1) (a := 122) (b := 60) kN (by omega)
      have m4 := wide_lt (i := (klm l r).1) (j := l.2.2 - l.1.2) (a := 122) (b := 60) kN (by omega)
      exact ⟨okI_div (by omega), okI_div (by omega), okI_div (by omega)⟩
    · exact fine3 (by simp) fun s hs => nomatch hs
  · split
    · exact fine3 (by simp) fun s hs => nomatch hs
    · unfold alo
      split
      · exact fine3 (by simp) fun s hs => nomatch hs
      · split
        · refine fine3 (by simp) fun s hs => ?_
          rw [List.mem_singleton.mp hs]
          exact ok_one3 hlo
        · refine fine3 (by simp) fun s hs => ?_
          rcases List.mem_cons.mp hs with rfl | hs
          · exact ok_one3 hlo
          · rw [List.mem_singleton.mp hs]
            exact ok_one3 hhi

/-! ### a list that is written to: tuples and the deck stay -/
section
variable {K : PySem.W.Frag} {H : Hp} {M d l : Addr} {xs : List V} {o : HO} {v : V}
theorem updT {b : Addr} {ys : List V} (e : H M = some (.lst xs)) (h : SqT K H b ys) : SqT K (upd H M o) b ys := by
  rcases h with (z | ⟨oo, z⟩) | z
  · exact .inl (.inl (by rw [upd_ne (ne_of z e (by intro z; cases z))]; exact z))
  · exact .inl (.inr ⟨oo, by rw [upd_ne (ne_of z e (by intro z; cases z))]; exact z⟩)
  · exact .inr z
theorem At2.upd {p : Pt} (h : At2 K H v p) (e : H M = some (.lst xs)) : At2 K (upd H M o) v p := by
  obtain ⟨a, rfl, h⟩ := h
  exact ⟨a, rfl, updT e h⟩
theorem AtL.upd {r : Ln} (h : AtL K H v r) (e : H M = some (.lst xs)) : AtL K (L2.upd H M o) v r := by
  obtain ⟨a, u, w, rfl, h1, h2, h3⟩ := h
  exact ⟨a, u, w, rfl, updT e h1, At2.upd h2 e, At2.upd h3 e⟩
theorem Deck.upd (D : Deck H d l) (h1 : M ≠ d) (h2 : M ≠ l) : Deck (L2.upd H M o) d l := by
  obtain ⟨ns, s, c, e1, e2, e3⟩ := D.ex
  exact ⟨D.ne, ns, s, c, by rw [upd_ne h1.symm]; exact e1, by rw [upd_ne h2.symm]; exact e2, e3⟩
end
/-! ### lines drawn -/
def GoodLn (B : Int) (r : Ln) : Prop := BdN B r.1 ∧ BdN B r.2 ∧ r.1 ≠ r.2
def spPoint (K : PySem.W.Frag) : Sp := fun vs H Q _ => ∃ (d l : Addr) (g : Int), vs = [.ref d, .int g] ∧ 0 < g ∧ g ≤ 10 ∧ Deck H d l ∧
  ∀ w H' p, Step d l H H' → At2 K H' w p → BdN 100 p → Q w H'
def spBeside (K : PySem.W.Frag) : Sp := fun vs H Q _ => ∃ (d l : Addr) (v u w : V) (r : Ln) (p q : Pt), vs = [.ref d, v, u, w] ∧ Deck H d l ∧ AtL K H v r ∧ GoodLn 200 r ∧
  At2 K H u p ∧ BdN 100 p ∧ At2 K H w q ∧ BdN 100 q ∧ ∀ w H' r', Step d l H H' → AtL K H' w r' → GoodLn 3000 r' → Q w H'
def spLine (K : PySem.W.Frag) : Sp := fun vs H Q _ => ∃ (d l : Addr) (g : Int) (L : Addr) (ws : List V) (ls : List Ln), vs = [.ref d, .int g, .ref L] ∧ 0 < g ∧ g ≤ 10 ∧ Deck H d l ∧
  L ≠ d ∧ L ≠ l ∧ H L = some (.lst ws) ∧ AllAt (AtL K H) ws ls ∧ ls.length ≤ 10 ∧ (∀ r ∈ ls, GoodLn 3000 r) ∧
  ∀ w H' r', Step d l H H' → AtL K H' w r' → GoodLn 3000 r' → Q w H'
def AtT (K : PySem.W.Frag) (H : Hp) (v : V) (ls : List Ln) : Prop := ∃ a vs, v = .ref a ∧ SqT K H a vs ∧ AllAt (AtL K H) vs ls
def spLines (K : PySem.W.Frag) (n : Nat) : Sp := fun vs H Q _ => ∃ (d l : Addr) (g : Int), vs = [.ref d, .int g, .int n] ∧ 0 < g ∧ g ≤ 10 ∧ Deck H d l ∧
  ∀ w H' ls, Step d l H H' → AtT K H' w ls → ls.length = n → (∀ r ∈ ls, BdL r ∧ r.1 ≠ r.2) → Q w H'
def dl (r : Ln) : PyData := .tuple [pd r.1, pd r.2]
theorem AtL.dp {K : PySem.W.Frag} {H : Hp} {v : V} {r : Ln} (h : AtL K H v r) : Dp K H v (dl r) := by
  obtain ⟨a, u, w, rfl, h1, h2, h3⟩ := h
  exact .tup h1 (.cons h2.dp (.cons h3.dp .nil))
theorem lines_dp {K : PySem.W.Frag} {H : Hp} : ∀ {ws : List V} {ls : List Ln}, AllAt (AtL K H) ws ls → DpAll K H ws (ls.map dl)
  | _, _, .nil => .nil
  | _, _, .cons h t => .cons h.dp (lines_dp t)
theorem shapedLines (ls : List Ln) : SeqAt.shaped (.list (ls.map dl)) = true := by
  have h1 : ∀ ls : List Ln, PyData.canLayAll0 (ls.map dl) = true := by
    intro ls
    induction ls with
    | nil => rfl
    | cons n r ih => simp [PyData.canLayAll0, PyData.canLay0, dl, pd, ih]
  have h2 : ∀ ls : List Ln, PyData.depthAll (ls.map dl) ≤ 2 := by
    intro ls
    induction ls with
    | nil => decide
    | cons n r ih =>
      simp only [List.map_cons, PyData.depthAll]
      have : (dl n).depth = 2 := by simp [dl, pd, PyData.depth, PyData.depthAll]
      omega
  have h3 := h2 ls
  simp [SeqAt.shaped, PyData.canLay0, PyData.depth, h1]
  omega
theorem eqvNilL (ls : List Ln) : PyData.eqv (.list (ls.map dl)) (.list []) = ls.isEmpty := by
  cases ls <;> simp [PyData.eqv, PyData.eqvAll]
theorem AllAt.three {α : Type} {R : V → α → Prop} {vs : List V} {xs : List α} (h : AllAt R vs xs) (l : xs.length = 3) :
    ∃ v0 v1 v2 x0 x1 x2, vs = [v0, v1, v2] ∧ xs = [x0, x1, x2] ∧ R v0 x0 ∧ R v1 x1 ∧ R v2 x2 := by
  cases h with
  | nil => cases l
  | cons h0 h =>
    cases h with
    | nil => cases l
    | cons h1 h =>
      cases h with
      | nil => cases l
      | cons h2 h =>
        cases h with
        | nil => exact ⟨_, _, _, _, _, _, rfl, rfl, h0, h1, h2⟩
        | cons _ _ => simp at l
end Cl

namespace Cl
open PySem PySem.Spec PyProof.Rows L2
/-! ### what part of a line lies in a cell -/
abbrev Sh := Int × Int
def later (a b : Sh) : Sh := if a.1 * b.2 < b.1 * a.2 then b else a
def soon (a b : Sh) : Sh := if b.1 * a.2 < a.1 * b.2 then b else a
theorem frac_le {a b c d e f : Int} (h1 : a * d ≤ c * b) (h2 : c * f ≤ e * d) (hb : 0 < b) (hd : 0 < d) (hf : 0 < f) : a * f ≤ e * b := by
  refine Int.le_of_mul_le_mul_right (a := d) ?_ hd
  have k1 := Int.mul_le_mul_of_nonneg_right h1 (Int.le_of_lt hf)
  have k2 := Int.mul_le_mul_of_nonneg_right h2 (Int.le_of_lt hb)
  grind
theorem later_le {a b : Sh} {p q : Int} (ha : 0 < a.2) (hb : 0 < b.2) (hq : 0 < q) :
    ((later a b).1 * q ≤ p * (later a b).2) ↔ (a.1 * q ≤ p * a.2 ∧ b.1 * q ≤ p * b.2) := by
  unfold later
  split
  · rename_i h
    exact ⟨fun z => ⟨frac_le (Int.le_of_lt h) z ha hb hq, z⟩, fun z => z.2⟩
  · rename_i h
    exact ⟨fun z => ⟨z, frac_le (Int.not_lt.mp h) z hb ha hq⟩, fun z => z.1⟩
theorem soon_le {a b : Sh} {p q : Int} (ha : 0 < a.2) (hb : 0 < b.2) (hq : 0 < q) :
    (p * (soon a b).2 ≤ (soon a b).1 * q) ↔ (p * a.2 ≤ a.1 * q ∧ p * b.2 ≤ b.1 * q) := by
  unfold soon
  split
  · rename_i h
    exact ⟨fun z => ⟨frac_le z (Int.le_of_lt h) hq hb ha, z⟩, fun z => z.2⟩
  · rename_i h
    exact ⟨fun z => ⟨z, frac_le z (Int.not_lt.mp h) hq ha hb⟩, fun z => z.1⟩
theorem later_pos {a b : Sh} (ha : 0 < a.2) (hb : 0 < b.2) : 0 < (later a b).2 := by unfold later; split <;> assumption
theorem soon_pos {a b : Sh} (ha : 0 < a.2) (hb : 0 < b.2) : 0 < (soon a b).2 := by unfold soon; split <;> assumption
/-- the point at the share p of q lies in the cell's row or column, the greater side not with it -/
def HO1 (g start step num p q : Int) : Prop := (2 * num - 1) * g * q ≤ 2 * (start * q + step * p) ∧ 2 * (start * q + step * p) < (2 * num + 1) * g * q
def CL1 (g start step num p q : Int) : Prop := (2 * num - 1) * g * q ≤ 2 * (start * q + step * p) ∧ 2 * (start * q + step * p) ≤ (2 * num + 1) * g * q
def inc (f l : Sh) (step near far : Int) : Option (Sh × Sh) :=
  if step = 0 then (if near > 0 ∨ far < 0 then none else some (f, l))
  else if step < 0 then some (later f (-far, 2 * -step), soon l (-near, 2 * -step)) else some (later f (near, 2 * step), soon l (far, 2 * step))
theorem cl1_iff (g start step num p q : Int) : CL1 g start step num p q ↔ (((2 * num - 1) * g - 2 * start) * q ≤ 2 * step * p ∧ 2 * step * p ≤ ((2 * num + 1) * g - 2 * start) * q) := by
  unfold CL1
  constructor <;> intro h <;> constructor <;> grind
theorem inc_none {g start step num : Int} {f l : Sh} (h : inc f l step ((2 * num - 1) * g - 2 * start) ((2 * num + 1) * g - 2 * start) = none) {p q : Int} (hq : 0 < q) : ¬ CL1 g start step num p q := by
  unfold inc at h
  split at h
  · rename_i hs
    split at h
    · rename_i hz
      rw [cl1_iff, hs]
      intro ⟨k1, k2⟩
      rcases hz with z | z
      · have := Int.mul_pos z hq
        omega
      · have := Int.mul_pos (show 0 < -((2 * num + 1) * g - 2 * start) by omega) hq
        rw [Int.neg_mul] at this
        omega
    · cases h
  · split at h <;> cases h
theorem inc_some {g start step num : Int} {f l f' l' : Sh} (hf : 0 < f.2) (hl : 0 < l.2) (h : inc f l step ((2 * num - 1) * g - 2 * start) ((2 * num + 1) * g - 2 * start) = some (f', l')) :
    0 < f'.2 ∧ 0 < l'.2 ∧ ∀ p q : Int, 0 < q → ((f.1 * q ≤ p * f.2 ∧ p * l.2 ≤ l.1 * q ∧ CL1 g start step num p q) ↔ (f'.1 * q ≤ p * f'.2 ∧ p * l'.2 ≤ l'.1 * q)) := by
  unfold inc at h
  split at h
  · rename_i hs
    split at h
    · cases h
    · rename_i hz
      cases h
      refine ⟨hf, hl, fun p q hq => ⟨fun z => ⟨z.1, z.2.1⟩, fun z => ⟨z.1, z.2, ?_⟩⟩⟩
      rw [cl1_iff, hs]
      have h1 : ((2 * num - 1) * g - 2 * start) ≤ 0 := by omega
      have h2 : 0 ≤ ((2 * num + 1) * g - 2 * start) := by omega
      have := Int.mul_le_mul_of_nonneg_right h1 (Int.le_of_lt hq)
      have := Int.mul_nonneg h2 (Int.le_of_lt hq)
      omega
  · rename_i hs
    split at h
    · rename_i hz
      cases h
      have h2 : (0 : Int) < 2 * -step := by omega
      refine ⟨later_pos hf h2, soon_pos hl h2, fun p q hq => ?_⟩
      rw [later_le hf h2 hq, soon_le hl h2 hq, cl1_iff]
      simp only
      constructor
      · intro ⟨a, b, c, d⟩
        refine ⟨⟨a, ?_⟩, b, ?_⟩ <;> grind
      · intro ⟨⟨a, c⟩, b, d⟩
        refine ⟨a, b, ?_, ?_⟩ <;> grind
    · rename_i hz
      cases h
      have h2 : (0 : Int) < 2 * step := by omega
      refine ⟨later_pos hf h2, soon_pos hl h2, fun p q hq => ?_⟩
      rw [later_le hf h2 hq, soon_le hl h2 hq, cl1_iff]
      simp only
      constructor
      · intro ⟨a, b, c, d⟩
        refine ⟨⟨a, ?_⟩, b, ?_⟩ <;> grind
      · intro ⟨⟨a, c⟩, b, d⟩
        refine ⟨a, b, ?_, ?_⟩ <;> grind
def HOc (g : Int) (r : Ln) (c : Pt) (p q : Int) : Prop := HO1 g r.1.1 (r.2.1 - r.1.1) c.1 p q ∧ HO1 g r.1.2 (r.2.2 - r.1.2) c.2 p q
def Meets (g : Int) (r : Ln) (c : Pt) : Prop := ∃ p q : Int, 0 < q ∧ 0 ≤ p ∧ p ≤ q ∧ HOc g r c p q
def rimL (g n : Int) : Int := (2 * n - 1) * g
def rimH (g n : Int) : Int := (2 * n + 1) * g
def sharesW (g : Int) (r : Ln) (c : Pt) : Option (Sh × Sh) :=
  match inc (0, 1) (1, 1) (r.2.1 - r.1.1) (rimL g c.1 - 2 * r.1.1) (rimH g c.1 - 2 * r.1.1) with
  | none => none
  | some (f, l) => match inc f l (r.2.2 - r.1.2) (rimL g c.2 - 2 * r.1.2) (rimH g c.2 - 2 * r.1.2) with
    | none => none
    | some (f, l) => if l.1 * f.2 < f.1 * l.2 then none else some (f, l)
def midP (f l : Sh) : Int := f.1 * l.2 + l.1 * f.2
def midQ (f l : Sh) : Int := 2 * f.2 * l.2
theorem sharesW_none {g : Int} {r : Ln} {c : Pt} (h : sharesW g r c = none) : ¬ Meets g r c := by
  intro ⟨p, q, hq, h0, h1, ha, hb⟩
  have ca : CL1 g r.1.1 (r.2.1 - r.1.1) c.1 p q := ⟨ha.1, Int.le_of_lt ha.2⟩
  have cb : CL1 g r.1.2 (r.2.2 - r.1.2) c.2 p q := ⟨hb.1, Int.le_of_lt hb.2⟩
  unfold sharesW rimL rimH at h
  split at h
  · exact inc_none (by assumption) hq ca
  · rename_i f l e1
    obtain ⟨f2, l2, k1⟩ := inc_some (by decide) (by decide) e1
    have k1 := (k1 p q hq).mp ⟨by simp only; omega, by simp only; omega, ca⟩
    split at h
    · exact inc_none (by assumption) hq cb
    · rename_i f' l' e2
      obtain ⟨f3, l3, k2⟩ := inc_some f2 l2 e2
      have k2 := (k2 p q hq).mp ⟨k1.1, k1.2, cb⟩
      split at h
      · rename_i z
        have := frac_le k2.1 k2.2 f3 hq l3
        omega
      · cases h
theorem sharesW_some {g : Int} {r : Ln} {c : Pt} {f l : Sh} (h : sharesW g r c = some (f, l)) :
    0 < f.2 ∧ 0 < l.2 ∧ f.1 * l.2 ≤ l.1 * f.2 ∧ ∀ p q : Int, 0 < q → ((0 ≤ p ∧ p ≤ q ∧ CL1 g r.1.1 (r.2.1 - r.1.1) c.1 p q ∧ CL1 g r.1.2 (r.2.2 - r.1.2) c.2 p q) ↔ (f.1 * q ≤ p * f.2 ∧ p * l.2 ≤ l.1 * q)) := by
  unfold sharesW rimL rimH at h
  split at h
  · cases h
  · rename_i f1 l1 e1
    obtain ⟨f2, l2, k1⟩ := inc_some (by decide) (by decide) e1
    split at h
    · cases h
    · rename_i f' l' e2
      obtain ⟨f3, l3, k2⟩ := inc_some f2 l2 e2
      split at h
      · cases h
      · rename_i z
        cases h
        refine ⟨f3, l3, by omega, fun p q hq => ⟨fun w => (k2 p q hq).mp ?_, fun w => ?_⟩⟩
        · have := (k1 p q hq).mp ⟨by simp only; omega, by simp only; omega, w.2.2.1⟩
          exact ⟨this.1, this.2, w.2.2.2⟩
        · obtain ⟨a, b, d⟩ := (k2 p q hq).mpr w
          obtain ⟨a', b', d'⟩ := (k1 p q hq).mpr ⟨a, b⟩
          simp only at a' b'
          exact ⟨by omega, by omega, d', d⟩
theorem at_end {a s p q z n F : Int} (w : 2 * (a * q + s * p) * n < F * q * n) (w2 : 2 * (a * n + s * z) * q = F * n * q) (k : s * (z * q) ≤ s * (p * n)) : False := by
  have e1 : 2 * (a * q + s * p) * n = 2 * (a * q * n) + 2 * (s * (p * n)) := by grind
  have e2 : 2 * (a * n + s * z) * q = 2 * (a * q * n) + 2 * (s * (z * q)) := by grind
  have e3 : F * n * q = F * q * n := Int.mul_right_comm ..
  omega
theorem ends_eq {a s k l m n F : Int} (e : 2 * (a * (2 * m * n) + s * (k * n + l * m)) = F * (2 * m * n)) (e1 : 2 * (a * m + s * k) * n ≤ F * m * n) (e2 : 2 * (a * n + s * l) * m ≤ F * n * m) :
    2 * (a * m + s * k) * n = F * m * n ∧ 2 * (a * n + s * l) * m = F * n * m := by
  have c1 : 2 * (a * (2 * m * n) + s * (k * n + l * m)) = 2 * (a * m + s * k) * n + 2 * (a * n + s * l) * m := by grind
  have c2 : F * (2 * m * n) = F * m * n + F * n * m := by grind
  omega
/-- the middle of the part within lies in the cell, or nothing does -/
theorem meets_mid {g : Int} {r : Ln} {c : Pt} {f l : Sh} (h : sharesW g r c = some (f, l)) : Meets g r c ↔ HOc g r c (midP f l) (midQ f l) := by
  obtain ⟨f2, l2, fl, k⟩ := sharesW_some h
  have hQ : 0 < midQ f l := Int.mul_pos (by omega) l2
  have hm : f.1 * midQ f l ≤ midP f l * f.2 ∧ midP f l * l.2 ≤ l.1 * midQ f l := by
    unfold midP midQ
    have a1 := Int.mul_le_mul_of_nonneg_right fl (Int.le_of_lt f2)
    have a2 := Int.mul_le_mul_of_nonneg_right fl (Int.le_of_lt l2)
    constructor <;> grind
  obtain ⟨m0, m1, ca, cb⟩ := (k _ _ hQ).mpr hm
  constructor
  · intro ⟨p, q, hq, h0, h1, ha, hb⟩
    have kt := (k p q hq).mp ⟨h0, h1, ⟨ha.1, Int.le_of_lt ha.2⟩, ⟨hb.1, Int.le_of_lt hb.2⟩⟩
    have kf := (k f.1 f.2 f2).mpr ⟨Int.le_refl _, fl⟩
    have kl := (k l.1 l.2 l2).mpr ⟨fl, Int.le_refl _⟩
    have one : ∀ start step num : Int, HO1 g start step num p q → CL1 g start step num f.1 f.2 → CL1 g start step num l.1 l.2 → CL1 g start step num (midP f l) (midQ f l) → HO1 g start step num (midP f l) (midQ f l) := by
      intro start step num ht hf hl hmid
      refine ⟨hmid.1, Int.lt_iff_le_and_ne.mpr ⟨hmid.2, fun e => ?_⟩⟩
      -- both ends lie at the greater side
      have e1 : 2 * (start * f.2 + step * f.1) * l.2 ≤ (2 * num + 1) * g * f.2 * l.2 := Int.mul_le_mul_of_nonneg_right hf.2 (Int.le_of_lt l2)
      have e2 : 2 * (start * l.2 + step * l.1) * f.2 ≤ (2 * num + 1) * g * l.2 * f.2 := Int.mul_le_mul_of_nonneg_right hl.2 (Int.le_of_lt f2)
      obtain ⟨s1, s2⟩ := ends_eq e e1 e2
      have t1 : 2 * (start * f.2 + step * f.1) = (2 * num + 1) * g * f.2 := Int.eq_of_mul_eq_mul_right (by omega) s1
      have t2 : 2 * (start * l.2 + step * l.1) = (2 * num + 1) * g * l.2 := Int.eq_of_mul_eq_mul_right (by omega) s2
      have ht2 := ht.2
      rcases Int.lt_or_le step 0 with hs | hs
      · have k3 := Int.mul_le_mul_of_nonneg_left kt.2 (show 0 ≤ -step by omega)
        rw [Int.neg_mul, Int.neg_mul] at k3
        exact at_end (Int.mul_lt_mul_of_pos_right ht2 l2) (by rw [t2]) (by omega)
      · have k3 := Int.mul_le_mul_of_nonneg_left kt.1 hs
        exact at_end (Int.mul_lt_mul_of_pos_right ht2 f2) (by rw [t1]) k3
    exact ⟨one _ _ _ ha kf.2.2.1 kl.2.2.1 ca, one _ _ _ hb kf.2.2.2 kl.2.2.2 cb⟩
  · intro w
    exact ⟨_, _, hQ, m0, m1, w⟩
end Cl

namespace Cl
open PySem PySem.Spec PyProof.Rows L2
/-! ### shares that are tried one by one -/
/-- of a rising list: what N parted by q is, is in it, or lies strictly between two neighbours -/
theorem consec {q N : Int} (hq : 0 < q) : ∀ (L : List Int), L.Pairwise (· ≤ ·) → (∃ a ∈ L, a * q ≤ N) → (∃ b ∈ L, N ≤ b * q) →
    (∃ a ∈ L, a * q = N) ∨ ∃ a b, (a, b) ∈ L.dropLast.zip L.tail ∧ a * q < N ∧ N < b * q ∧ ∀ c ∈ L, c ≤ a ∨ b ≤ c
  | [], _, ⟨_, h, _⟩, _ => nomatch h
  | [a], _, ⟨x, hx, h1⟩, ⟨y, hy, h2⟩ => by
    rw [List.mem_singleton] at hx hy
    subst hx
    subst hy
    exact .inl ⟨_, List.mem_singleton_self _, Int.le_antisymm h1 h2⟩
  | a :: b :: r, hp, ⟨x, hx, h1⟩, ⟨y, hy, h2⟩ => by
    have ha : ∀ {z : Int}, z ∈ b :: r → a ≤ z := fun h => List.rel_of_pairwise_cons hp h
    have hp2 := List.Pairwise.of_cons hp
    have hax : a * q ≤ N := by
      rcases List.mem_cons.mp hx with rfl | hx
      · exact h1
      · exact Int.le_trans (Int.mul_le_mul_of_nonneg_right (ha hx) (Int.le_of_lt hq)) h1
    rcases Int.lt_or_le N (b * q) with hb | hb
    · rcases Int.lt_or_eq_of_le hax with h | h
      · refine .inr ⟨a, b, ?_, h, hb, fun c hc => ?_⟩
        · simp
        · rcases List.mem_cons.mp hc with rfl | hc
          · exact .inl (Int.le_refl _)
          · rcases List.mem_cons.mp hc with rfl | hc
            · exact .inr (Int.le_refl _)
            · exact .inr (List.rel_of_pairwise_cons hp2 hc)
      · exact .inl ⟨a, List.mem_cons_self .., h⟩
    · have hy2 : ∃ y ∈ b :: r, N ≤ y * q := by
        rcases List.mem_cons.mp hy with rfl | hy
        · exact ⟨b, List.mem_cons_self .., Int.le_trans h2 (Int.mul_le_mul_of_nonneg_right (ha (List.mem_cons_self ..)) (Int.le_of_lt hq))⟩
        · exact ⟨y, hy, h2⟩
      rcases consec hq (b :: r) hp2 ⟨b, List.mem_cons_self .., hb⟩ hy2 with ⟨z, hz, e⟩ | ⟨u, v, hz, k1, k2, k3⟩
      · exact .inl ⟨z, List.mem_cons_of_mem _ hz, e⟩
      · refine .inr ⟨u, v, ?_, k1, k2, fun c hc => ?_⟩
        · show (u, v) ∈ (a :: (b :: r).dropLast).zip ((b :: r).tail.cons b)
          simp only [List.tail_cons, List.zip_cons_cons, List.mem_cons]
          exact .inr hz
        · rcases List.mem_cons.mp hc with rfl | hc
          · left
            have hub : b ≤ u ∨ u < b := by omega
            rcases k3 b (List.mem_cons_self ..) with h | h
            · exact Int.le_trans (ha (List.mem_cons_self ..)) h
            · have : v * q ≤ b * q := Int.mul_le_mul_of_nonneg_right h (Int.le_of_lt hq)
              omega
          · exact k3 c hc
/-- one of the two rows: where what lies at the share p of q lies in it, so what lies at s, no crossing of its sides being strictly between -/
theorem row_mid {g start step num W p q a b s : Int} (hW : 0 < W) (hq : 0 < q) (ht : HO1 g start step num p q) (h1 : a * q < 2 * W * p) (h2 : 2 * W * p < b * q) (m1 : a < s) (m2 : s < b)
    (hc : step ≠ 0 → ∀ side ∈ [rimL g num, rimH g num], ∃ c : Int, 2 * step * c = (side - 2 * start) * W ∧ (2 * c ≤ a ∨ b ≤ 2 * c)) : HO1 g start step num s (2 * W) := by
  obtain ⟨t1, t2⟩ := ht
  have W2 : 0 < 2 * W := by omega
  by_cases hs : step = 0
  · subst hs
    have e1 : (2 * num - 1) * g ≤ 2 * start := Int.le_of_mul_le_mul_right (a := q) (by
      have : 2 * (start * q + 0 * p) = 2 * start * q := by rw [Int.zero_mul, Int.add_zero, Int.mul_assoc]
      omega) hq
    have e2 : 2 * start < (2 * num + 1) * g := Int.lt_of_mul_lt_mul_right (a := q) (by
      have : 2 * (start * q + 0 * p) = 2 * start * q := by rw [Int.zero_mul, Int.add_zero, Int.mul_assoc]
      omega) (Int.le_of_lt hq)
    have k : 2 * (start * (2 * W) + 0 * s) = 2 * start * (2 * W) := by rw [Int.zero_mul, Int.add_zero, Int.mul_assoc]
    refine ⟨?_, ?_⟩
    · rw [k]; exact Int.mul_le_mul_of_nonneg_right e1 (Int.le_of_lt W2)
    · rw [k]; exact Int.mul_lt_mul_of_pos_right e2 W2
  · obtain ⟨c1, e1, n1⟩ := hc hs (rimL g num) (by simp)
    obtain ⟨c2, e2, n2⟩ := hc hs (rimH g num) (by simp)
    unfold rimL at e1
    unfold rimH at e2
    unfold HO1
    generalize (2 * num - 1) * g = lo at *
    generalize (2 * num + 1) * g = hi at *
    -- times 2 W: step (2 W p - 2 c1 q) ≥ 0, step (2 W p - 2 c2 q) < 0
    have f1 := Int.mul_le_mul_of_nonneg_right t1 (Int.le_of_lt W2)
    have f2 := Int.mul_lt_mul_of_pos_right t2 W2
    have x1 : lo * q * (2 * W) = 2 * (step * (2 * c1 * q)) + 2 * (start * q * (2 * W)) := by
      have : 2 * step * c1 * q = (lo - 2 * start) * W * q := by rw [e1]
      grind
    have x2 : hi * q * (2 * W) = 2 * (step * (2 * c2 * q)) + 2 * (start * q * (2 * W)) := by
      have : 2 * step * c2 * q = (hi - 2 * start) * W * q := by rw [e2]
      grind
    have x3 : 2 * (start * q + step * p) * (2 * W) = 2 * (step * (2 * W * p)) + 2 * (start * q * (2 * W)) := by grind
    have g1 : step * (2 * c1 * q) ≤ step * (2 * W * p) := by omega
    have g2 : step * (2 * W * p) < step * (2 * c2 * q) := by omega
    have y1 : lo * (2 * W) = 2 * (step * (2 * c1)) + 2 * (start * (2 * W)) := by grind
    have y2 : hi * (2 * W) = 2 * (step * (2 * c2)) + 2 * (start * (2 * W)) := by grind
    have y3 : 2 * (start * (2 * W) + step * s) = 2 * (step * s) + 2 * (start * (2 * W)) := by grind
    have mul_q : ∀ u v : Int, u ≤ v → u * q ≤ v * q := fun u v h => Int.mul_le_mul_of_nonneg_right h (Int.le_of_lt hq)
    rcases Int.lt_or_le step 0 with hs | hs
    · have h1' : 2 * W * p ≤ 2 * c1 * q := Int.not_lt.mp fun z => by
        have := Int.mul_lt_mul_of_pos_left z (show 0 < -step by omega)
        rw [Int.neg_mul, Int.neg_mul] at this
        omega
      have h2' : 2 * c2 * q < 2 * W * p := Int.lt_of_not_ge fun z => by
        have := Int.mul_le_mul_of_nonneg_left z (show 0 ≤ -step by omega)
        rw [Int.neg_mul, Int.neg_mul] at this
        omega
      have b1 : b ≤ 2 * c1 := by
        rcases n1 with z | z
        · have := mul_q _ _ z
          omega
        · exact z
      have b2 : 2 * c2 ≤ a := by
        rcases n2 with z | z
        · exact z
        · have := mul_q _ _ z
          omega
      have w1 := Int.mul_lt_mul_of_pos_left (show s < 2 * c1 by omega) (show 0 < -step by omega)
      have w2 := Int.mul_lt_mul_of_pos_left (show 2 * c2 < s by omega) (show 0 < -step by omega)
      rw [Int.neg_mul, Int.neg_mul] at w1 w2
      exact ⟨by omega, by omega⟩
    · have hs' : 0 < step := by omega
      have h1' : 2 * c1 * q ≤ 2 * W * p := Int.le_of_mul_le_mul_left g1 hs'
      have h2' : 2 * W * p < 2 * c2 * q := Int.lt_of_mul_lt_mul_left g2 hs
      have b1 : 2 * c1 ≤ a := by
        rcases n1 with z | z
        · exact z
        · have := mul_q _ _ z
          omega
      have b2 : b ≤ 2 * c2 := by
        rcases n2 with z | z
        · have := mul_q _ _ z
          omega
        · exact z
      have w1 := Int.mul_lt_mul_of_pos_left (show 2 * c1 < s by omega) hs'
      have w2 := Int.mul_lt_mul_of_pos_left (show s < 2 * c2 by omega) hs'
      exact ⟨by omega, by omega⟩
theorem mem_zip_tail {a b : Int} : ∀ {L : List Int}, (a, b) ∈ L.dropLast.zip L.tail → a ∈ L ∧ b ∈ L := by
  intro L h
  have h1 := (List.of_mem_zip h).1
  have h2 := (List.of_mem_zip h).2
  exact ⟨(List.dropLast_sublist L).subset h1, List.mem_of_mem_tail h2⟩
/-- the shares that are tried: some of 2 W, rising, both ends and each crossing within them there, and the middles of neighbours -/
theorem tried {g W : Int} {r : Ln} {c : Pt} {L : List Int} (hW : 0 < W) (hp : L.Pairwise (· ≤ ·)) (hL : ∀ s ∈ L, ∃ t : Int, s = 2 * t ∧ 0 ≤ t ∧ t ≤ W) (h0 : 0 ∈ L) (h1 : 2 * W ∈ L)
    (hx : r.2.1 - r.1.1 ≠ 0 → ∀ side ∈ [rimL g c.1, rimH g c.1], ∃ k : Int, 2 * (r.2.1 - r.1.1) * k = (side - 2 * r.1.1) * W ∧ (0 ≤ k → k ≤ W → 2 * k ∈ L))
    (hy : r.2.2 - r.1.2 ≠ 0 → ∀ side ∈ [rimL g c.2, rimH g c.2], ∃ k : Int, 2 * (r.2.2 - r.1.2) * k = (side - 2 * r.1.2) * W ∧ (0 ≤ k → k ≤ W → 2 * k ∈ L)) :
    Meets g r c ↔ ∃ s ∈ L ++ (L.dropLast.zip L.tail).map (fun z => (z.1 + z.2) / 2), HOc g r c s (2 * W) := by
  have rng : ∀ s ∈ L ++ (L.dropLast.zip L.tail).map (fun z => (z.1 + z.2) / 2), 0 ≤ s ∧ s ≤ 2 * W := fun s hs => by
    rcases List.mem_append.mp hs with h | h
    · obtain ⟨t, e, t0, t1⟩ := hL s h
      omega
    · obtain ⟨⟨a, b⟩, hm, rfl⟩ := List.mem_map.mp h
      obtain ⟨ha, hb⟩ := mem_zip_tail hm
      obtain ⟨t, e, t0, t1⟩ := hL _ ha
      obtain ⟨u, f, u0, u1⟩ := hL _ hb
      simp only
      omega
  constructor
  · intro ⟨p, q, hq, p0, p1, ha, hb⟩
    have hN0 : (0 : Int) * q ≤ 2 * W * p := by
      rw [Int.zero_mul]
      exact Int.mul_nonneg (by omega) p0
    have hN1 : 2 * W * p ≤ 2 * W * q := Int.mul_le_mul_of_nonneg_left p1 (by omega)
    rcases consec hq L hp ⟨0, h0, hN0⟩ ⟨2 * W, h1, hN1⟩ with ⟨a, ha', e⟩ | ⟨a, b, hz, k1, k2, k3⟩
    · refine ⟨a, List.mem_append_left _ ha', ?_⟩
      have same : ∀ start step num : Int, HO1 g start step num p q → HO1 g start step num a (2 * W) := fun start step num ⟨t1, t2⟩ => by
        have x : 2 * (start * (2 * W) + step * a) * q = 2 * (start * q + step * p) * (2 * W) := by
          have : step * (a * q) = step * (2 * W * p) := by rw [e]
          grind
        have y : ∀ z : Int, z * q * (2 * W) = z * (2 * W) * q := fun z => by rw [Int.mul_right_comm]
        have s1 := Int.mul_le_mul_of_nonneg_right t1 (show 0 ≤ 2 * W by omega)
        have s2 := Int.mul_lt_mul_of_pos_right t2 (show 0 < 2 * W by omega)
        rw [y, ← x] at s1
        rw [y, ← x] at s2
        exact ⟨Int.le_of_mul_le_mul_right s1 hq, Int.lt_of_mul_lt_mul_right s2 (Int.le_of_lt hq)⟩
      exact ⟨same _ _ _ ha, same _ _ _ hb⟩
    · obtain ⟨ma, mb⟩ := mem_zip_tail hz
      obtain ⟨t, ea, t0, t1⟩ := hL _ ma
      obtain ⟨u, eb, u0, u1⟩ := hL _ mb
      have hab : a < b := Int.lt_of_mul_lt_mul_right (Int.lt_trans k1 k2) (Int.le_of_lt hq)
      have m1 : a < (a + b) / 2 := by omega
      have m2 : (a + b) / 2 < b := by omega
      refine ⟨(a + b) / 2, List.mem_append_right _ (List.mem_map.mpr ⟨(a, b), hz, rfl⟩), ?_, ?_⟩
      · refine row_mid hW hq ha k1 k2 m1 m2 fun hs side hm => ?_
        obtain ⟨k, e, hk⟩ := hx hs side hm
        refine ⟨k, e, ?_⟩
        by_cases z0 : 0 ≤ k
        · by_cases z1 : k ≤ W
          · exact k3 _ (hk z0 z1)
          · right; omega
        · left; omega
      · refine row_mid hW hq hb k1 k2 m1 m2 fun hs side hm => ?_
        obtain ⟨k, e, hk⟩ := hy hs side hm
        refine ⟨k, e, ?_⟩
        by_cases z0 : 0 ≤ k
        · by_cases z1 : k ≤ W
          · exact k3 _ (hk z0 z1)
          · right; omega
        · left; omega
  · intro ⟨s, hs, h⟩
    obtain ⟨s0, s1⟩ := rng s hs
    exact ⟨s, 2 * W, by omega, s0, s1, h⟩
/-- turned about, and moved by whole corners -/
theorem Meets.rev {g : Int} {r : Ln} {c : Pt} : Meets g (r.2, r.1) c ↔ Meets g r c := by
  have one : ∀ {r : Ln}, Meets g r c → Meets g (r.2, r.1) c := fun {r} ⟨p, q, hq, p0, p1, ha, hb⟩ => by
    refine ⟨q - p, q, hq, by omega, by omega, ?_, ?_⟩
    · have e : r.2.1 * q + (r.1.1 - r.2.1) * (q - p) = r.1.1 * q + (r.2.1 - r.1.1) * p := by grind
      unfold HO1 at ha ⊢
      simp only
      rw [e]
      exact ha
    · have e : r.2.2 * q + (r.1.2 - r.2.2) * (q - p) = r.1.2 * q + (r.2.2 - r.1.2) * p := by grind
      unfold HO1 at hb ⊢
      simp only
      rw [e]
      exact hb
  exact ⟨fun h => one h, fun h => one h⟩
theorem Meets.move {g i j : Int} {r : Ln} {c : Pt} : Meets g ((r.1.1 + i * g, r.1.2 + j * g), (r.2.1 + i * g, r.2.2 + j * g)) (c.1 + i, c.2 + j) ↔ Meets g r c := by
  have one : ∀ start step num i p q : Int, HO1 g (start + i * g) step (num + i) p q ↔ HO1 g start step num p q := fun start step num i p q => by
    unfold HO1
    have e1 : (2 * (num + i) - 1) * g * q = (2 * num - 1) * g * q + 2 * (i * g * q) := by grind
    have e2 : (2 * (num + i) + 1) * g * q = (2 * num + 1) * g * q + 2 * (i * g * q) := by grind
    have e3 : 2 * ((start + i * g) * q + step * p) = 2 * (start * q + step * p) + 2 * (i * g * q) := by grind
    rw [e1, e2, e3]
    omega
  unfold Meets HOc
  simp only [show ∀ a b k : Int, a + k - (b + k) = a - b from fun a b k => by omega, one]
theorem nr_eq {n d i : Int} (h : 0 < d) : nr n d = i ↔ (2 * i - 1) * d ≤ 2 * n ∧ 2 * n < (2 * i + 1) * d := by
  have k := nr_lies (n := n) h
  constructor
  · intro e
    rw [← e]
    exact k
  · intro ⟨a, b⟩
    have c1 : (2 * nr n d - 1) * d < (2 * i + 1) * d := by omega
    have c2 : (2 * i - 1) * d < (2 * nr n d + 1) * d := by omega
    have := Int.lt_of_mul_lt_mul_right c1 (Int.le_of_lt h)
    have := Int.lt_of_mul_lt_mul_right c2 (Int.le_of_lt h)
    omega
theorem in_cell {g start step num p q : Int} (hg : 0 < g) (hq : 0 < q) : nr (q * start + p * step) (q * g) = num ↔ HO1 g start step num p q := by
  rw [nr_eq (Int.mul_pos hq hg)]
  unfold HO1
  rw [show start * q + step * p = q * start + p * step by rw [Int.mul_comm q, Int.mul_comm p], show (2 * num - 1) * g * q = (2 * num - 1) * (q * g) by rw [Int.mul_assoc, Int.mul_comm g q], show (2 * num + 1) * g * q = (2 * num + 1) * (q * g) by rw [Int.mul_assoc, Int.mul_comm g q]]
theorem HO1.scale {g start step num p q k : Int} (hk : 0 < k) : HO1 g start step num (p * k) (q * k) ↔ HO1 g start step num p q := by
  unfold HO1
  have e1 : (2 * num - 1) * g * (q * k) = (2 * num - 1) * g * q * k := by rw [Int.mul_assoc _ q k]
  have e2 : (2 * num + 1) * g * (q * k) = (2 * num + 1) * g * q * k := by rw [Int.mul_assoc _ q k]
  have e3 : 2 * (start * (q * k) + step * (p * k)) = 2 * (start * q + step * p) * k := by grind
  rw [e1, e2, e3]
  exact ⟨fun ⟨a, b⟩ => ⟨Int.le_of_mul_le_mul_right a hk, Int.lt_of_mul_lt_mul_right b (Int.le_of_lt hk)⟩, fun ⟨a, b⟩ => ⟨Int.mul_le_mul_of_nonneg_right a (Int.le_of_lt hk), Int.mul_lt_mul_of_pos_right b hk⟩⟩
/-- in lowest terms the middle lies in the cell just when it does -/
theorem mid_low {g p q k : Int} {r : Ln} {c : Pt} (hk : 0 < k) : HOc g r c (p * k) (q * k) ↔ HOc g r c p q := by
  unfold HOc
  rw [HO1.scale hk, HO1.scale hk]
end Cl

namespace Cl
open PySem PySem.Spec PyProof.Rows L2
/-! ### promises: shares of lines within cells -/
def ShB (s : Sh) : Prop := -(2 ^ 60) < s.1 ∧ s.1 < 2 ^ 60 ∧ 0 < s.2 ∧ s.2 < 2 ^ 60
def spRims (K : PySem.W.Frag) : Sp := fun vs H Q _ => ∃ g n : Int, vs = [.int g, .int n] ∧ 0 < g ∧ g < 2 ^ 60 ∧ New H (.tup [.int (rimL g n), .int (rimH g n)]) Q
def spLow (K : PySem.W.Frag) : Sp := fun vs H Q _ => ∃ n d : Int, vs = [.int n, .int d] ∧ 0 < d ∧ d < 2 ^ 200 ∧
  ∀ w H' (p q k : Int), Same H H' → 0 < k → n = p * k → d = q * k → 0 < q → At2 K H' w (p, q) → Q w H'
def spSooner (K : PySem.W.Frag) : Sp := fun vs H Q _ => ∃ u v p q, vs = [u, v] ∧ At2 K H u p ∧ At2 K H v q ∧ ShB p ∧ ShB q ∧ Q (.bl (decide (p.1 * q.2 < q.1 * p.2))) H
def spLater (K : PySem.W.Frag) (f : Sh → Sh → Sh) : Sp := fun vs H Q _ => ∃ u v p q, vs = [u, v] ∧ At2 K H u p ∧ At2 K H v q ∧ ShB p ∧ ShB q ∧ ∀ w, At2 K H w (f p q) → Q w H
theorem later_ShB {a b : Sh} (ha : ShB a) (hb : ShB b) : ShB (later a b) := by unfold later; split <;> assumption
theorem soon_ShB {a b : Sh} (ha : ShB a) (hb : ShB b) : ShB (soon a b) := by unfold soon; split <;> assumption
theorem low_parts {n d : Int} (hd : 0 < d) : ∃ k : Int, k = (Int.gcd n d : Nat) ∧ 0 < k ∧ k ≤ d ∧ n = n / k * k ∧ d = d / k * k ∧ 0 < d / k := by
  have h0 : 0 < Int.gcd n d := Int.gcd_pos_of_ne_zero_right _ (by omega)
  have h1 : ((Int.gcd n d : Nat) : Int) ∣ n := Int.gcd_dvd_left ..
  have h2 : ((Int.gcd n d : Nat) : Int) ∣ d := Int.gcd_dvd_right ..
  refine ⟨_, rfl, by omega, Int.le_of_dvd hd h2, (Int.ediv_mul_cancel h1).symm, (Int.ediv_mul_cancel h2).symm, Int.ediv_pos_of_pos_of_dvd hd (by omega) h2⟩
end Cl

namespace Cl
open PySem PySem.Spec PyProof.Rows L2
/-! ### a loop over zip of three tuples -/
def Itz3 (K : PySem.W.Frag) (a b c : Addr) : It :=
  ⟨fun i H => ∃ xs ys zs : List V, SqT K H a xs ∧ SqT K H b ys ∧ SqT K H c zs ∧ i < xs.length ∧ i < ys.length ∧ i < zs.length,
    fun i H v H' => ∃ T x y u, v = .ref T ∧ H T = none ∧ H' = upd H T (.tup [x, y, u]) ∧ (∀ xs, SqT K H a xs → xs[i]? = some x) ∧ (∀ ys, SqT K H b ys → ys[i]? = some y) ∧ ∀ zs, SqT K H c zs → zs[i]? = some u,
    fun i H => ∃ xs ys zs : List V, SqT K H a xs ∧ SqT K H b ys ∧ SqT K H c zs ∧ i = min (min xs.length ys.length) zs.length⟩
theorem turn_zip3 {P : Program} {w : World} {K : PySem.W.Frag} {elts : List Expr} {kk : Nat} {tpos : Pos} {a b c z TI TO i1 i2 i3 : Addr} (S : ZipSep3 z TI TO i1 i2 i3 [i1, a] [i2, b] [i3, c]) (n1 : a ≠ i1) (n2 : b ≠ i2) (n3 : c ≠ i3) :
    Turn P w K (.Tuple elts kk tpos) (Itz3 K a b c) [z, TI, TO, i1, i2, i3] z (fun i h => IsZip h z TI TO .none ∧ IsTupOf3 h TI (.ref i1) (.ref i2) (.ref i3) ∧ (∃ x y u, IsTupOf3 h TO x y u) ∧ h.IsTupleIter i1 a i ∧ h.IsTupleIter i2 b i ∧ h.IsTupleIter i3 c i) where
  mem := by simp
  obj := fun i h st d hd => by
    obtain ⟨hz, hTI, ⟨x, y, u, hTO⟩, ⟨o1, e1, _, d1⟩, ⟨o2, e2, _, d2⟩, ⟨o3, e3, _, d3⟩⟩ := st
    simp only [List.mem_cons, List.not_mem_nil, or_false] at hd
    rcases hd with rfl | rfl | rfl | rfl | rfl | rfl
    · exact ⟨_, hz, fun v q => nomatch q⟩
    · exact ⟨_, hTI, fun v q => nomatch q⟩
    · exact ⟨_, hTO, fun v q => nomatch q⟩
    · exact ⟨o1, e1, fun v q => by rw [d1] at q; cases q⟩
    · exact ⟨o2, e2, fun v q => by rw [d2] at q; cases q⟩
    · exact ⟨o3, e3, fun v q => by rw [d3] at q; cases q⟩
  keep := fun i h h' st k => by
    obtain ⟨hz, hTI, ⟨x, y, u, hTO⟩, h1, h2, h3⟩ := st
    exact ⟨k z (by simp) _ hz, k TI (by simp) _ hTI, ⟨x, y, u, k TO (by simp) _ hTO⟩, h1.at fun o q => k i1 (by simp) o q, h2.at fun o q => k i2 (by simp) o q, h3.at fun o q => k i3 (by simp) o q⟩
  item := by
    intro X hP hw hK hc i pins s σ H E I hf st hg
    subst hP hw hK
    obtain ⟨hz, hTI, hTO, h1, h2, h3⟩ := st
    obtain ⟨xs, ys, zs, q1, q2, q3, l1, l2, l3⟩ := hg
    obtain ⟨t1, r1, p1, _⟩ := I.tuple q1
    obtain ⟨t2, r2, p2, _⟩ := I.tuple q2
    obtain ⟨t3, r3, p3, _⟩ := I.tuple q3
    have m1 := r1.length
    have m2 := r2.length
    have m3 := r3.length
    have hh : X.A.in1.handled = none := I.ok.hd hc
    have W := GoesN.zip3 (elts := elts) (x1 := kk) (pos := tpos) S (Draws.tuple (prog := X.prog) (w := X.w) hh i1 a n1 t1.toArray) (Draws.tuple hh i2 b n2 t2.toArray) (Draws.tuple hh i3 c n3 t3.toArray)
    refine W.goes i s _ E (by simp; omega) ⟨hz, hTI, hTO, ⟨h1, p1⟩, ⟨h2, p2⟩, ⟨h3, p3⟩⟩ fun v h' tk hY st' hk htk => ?_
    obtain ⟨T, x, y, u, rfl, hT, hx, hy, hu, hTup⟩ := hY
    obtain ⟨z', TI', TO', ⟨h1', _⟩, ⟨h2', _⟩, ⟨h3', _⟩⟩ := st'
    obtain ⟨x', ex, rx⟩ := r1.get (List.getElem?_eq_getElem l1)
    obtain ⟨y', ey, ry⟩ := r2.get (List.getElem?_eq_getElem l2)
    obtain ⟨u', eu, ru⟩ := r3.get (List.getElem?_eq_getElem l3)
    have ex' : x' = x := by simpa [ex] using hx
    have ey' : y' = y := by simpa [ey] using hy
    have eu' : u' = u := by simpa [eu] using hu
    subst ex' ey' eu'
    have new : ObjOk X.prog X.w (upd H T (.tup [xs[i], ys[i], zs[i]])) h' T (.tup [xs[i], ys[i], zs[i]]) :=
      ⟨by show 3 ≤ sizeLine; decide, [x', y', u'], .cons rx (.cons ry (.cons ru .nil)), hTup⟩
    have hk2 : ∀ d o, d ∉ [z, TI, TO, i1, i2, i3] → s.heap.get? d = some o → h'.get? d = some o := fun d o hd e =>
      hk d o (fun q => hd (by simp only [List.mem_cons, List.not_mem_nil, or_false] at q ⊢; rcases q with q | q | q | q | q <;> simp [q])) e
    have I1 := I.turnedNew (t' := tk) (ch := [z, TI, TO, i1, i2, i3]) hk2 hf hT new
    refine ⟨.ref T, _, I1, rfl, ⟨T, _, _, _, rfl, I.hok.fresh hT, rfl, fun l hl => by rw [I.tuple_inj hl q1]; exact List.getElem?_eq_getElem l1, fun l hl => by rw [I.tuple_inj hl q2]; exact List.getElem?_eq_getElem l2, fun l hl => by rw [I.tuple_inj hl q3]; exact List.getElem?_eq_getElem l3⟩, ⟨z', TI', TO', h1', h2', h3'⟩, fun d hd => ?_⟩
    have hlt : d < s.heap.objs.size := by
      simp only [List.mem_cons, List.not_mem_nil, or_false] at hd
      obtain ⟨_, _, _, hTO⟩ := hTO
      rcases hd with q | q | q | q | q | q
      · rw [q]; exact Heap.lt_size hz
      · rw [q]; exact Heap.lt_size hTI
      · rw [q]; exact Heap.lt_size hTO
      · rw [q]; obtain ⟨_, e1, _⟩ := h1; exact Heap.lt_size e1
      · rw [q]; obtain ⟨_, e1, _⟩ := h2; exact Heap.lt_size e1
      · rw [q]; obtain ⟨_, e1, _⟩ := h3; exact Heap.lt_size e1
    rw [upd_ne (Nat.ne_of_lt (Nat.lt_of_lt_of_le hlt hT))]
    exact (hf d hd).1
  done := by
    intro X hP hw hK hc i pins s σ H E I hf st hg
    subst hP hw hK
    obtain ⟨hz, hTI, hTO, h1, h2, h3⟩ := st
    obtain ⟨xs, ys, zs, q1, q2, q3, l⟩ := hg
    obtain ⟨t1, r1, p1, _⟩ := I.tuple q1
    obtain ⟨t2, r2, p2, _⟩ := I.tuple q2
    obtain ⟨t3, r3, p3, _⟩ := I.tuple q3
    have m1 := r1.length
    have m2 := r2.length
    have m3 := r3.length
    have hh : X.A.in1.handled = none := I.ok.hd hc
    have W := GoesN.zip3 (elts := elts) (x1 := kk) (pos := tpos) S (Draws.tuple (prog := X.prog) (w := X.w) hh i1 a n1 t1.toArray) (Draws.tuple hh i2 b n2 t2.toArray) (Draws.tuple hh i3 c n3 t3.toArray)
    have hi : i = min (min t1.toArray.size t2.toArray.size) t3.toArray.size := by simp; omega
    subst hi
    refine W.stops s _ E ⟨hz, hTI, hTO, ⟨h1, p1⟩, ⟨h2, p2⟩, ⟨h3, p3⟩⟩ fun h' tk hk htk => I.turnedL (t' := tk) (ch := [z, TI, TO, i1, i2, i3]) (fun d o hd e => ?_) hf
    exact hk d o (fun q => hd (by simp only [List.mem_cons, List.not_mem_nil, or_false] at q ⊢; rcases q with q | q | q | q | q <;> simp [q])) e
  self := fun A i s Q E st h => wpAny_pyIter_zip st.1 h
def iZip3 (K : PySem.W.Frag) (ta : TA) : TI := fun σ H R => ta σ H fun vs H1 => ∃ a b c xs ys zs, vs = [.ref a, .ref b, .ref c] ∧ SqT K H1 a xs ∧ SqT K H1 b ys ∧ SqT K H1 c zs ∧ R (Itz3 K a b c) H1
theorem pi_zip3 {X : Cx} {e e2 e3 : Expr} {ta : TA} {p pos tpos : Pos} {elts : List Expr} {kk : Nat} (hg : Gl X "zip") (hm : X.mg "zip" = none) (ha : PA X [e, e2, e3] ta)
    (hs : starEach [e, e2, e3] X.env = (false, eval e X.env) :: starEach [e2, e3] X.env := by rfl) (hpl : (backTo pos (starEach [e2, e3] X.env)).any (·.1) = false := by rfl) :
    PI X (.Tuple elts kk tpos) (.Call (.Name "zip" p) [e, e2, e3] [] pos) (iZip3 X.K ta) := by
  refine ⟨fun pins s σ H R I h => ?_⟩
  refine Call_ (ld_blt I hg hm PyProof.Rows.boot_zip (PyProof.Rows.callWith_type1 (thn (ha.run pos pins s σ H _ I h) fun us s1 ⟨vs, H1, I1, r1, q1⟩ => ?_) hs hpl))
  obtain ⟨a, b, c, xs, ys, zs, ex, q1, q2, q3, q⟩ := q1
  subst ex
  cases r1 with
  | cons r rr =>
    cases rr with
    | cons r' rr =>
      cases rr with
      | cons r'' rr =>
        cases rr
        cases r
        cases r'
        cases r''
        obtain ⟨t1, v1, p1, _⟩ := I1.tuple q1
        obtain ⟨t2, v2, p2, _⟩ := I1.tuple q2
        obtain ⟨t3, v3, p3, _⟩ := I1.tuple q3
        have la : a < s1.heap.objs.size := by obtain ⟨o1, g1, _⟩ := id p1; exact Heap.lt_size g1
        have lb : b < s1.heap.objs.size := by obtain ⟨o1, g1, _⟩ := id p2; exact Heap.lt_size g1
        have lc : c < s1.heap.objs.size := by obtain ⟨o1, g1, _⟩ := id p3; exact Heap.lt_size g1
        have fresh : ∀ d, d ∈ [s1.heap.objs.size + 5, s1.heap.objs.size + 3, s1.heap.objs.size + 4, s1.heap.objs.size, s1.heap.objs.size + 1, s1.heap.objs.size + 2] → FpOk X pins H1 d := fun d hd => by
          have hle : s1.heap.objs.size ≤ d := by
            simp only [List.mem_cons, List.not_mem_nil, or_false] at hd
            rcases hd with z | z | z | z | z | z
            · rw [z]; exact Nat.le_add_right _ _
            · rw [z]; exact Nat.le_add_right _ _
            · rw [z]; exact Nat.le_add_right _ _
            · rw [z]; exact Nat.le_refl _
            · rw [z]; exact Nat.le_add_right _ _
            · rw [z]; exact Nat.le_add_right _ _
          exact I1.fpOk hle (I1.hok.fresh hle)
        refine zip_begins3 (begins_tuple a t1.toArray) (begins_tuple b t2.toArray) (begins_tuple c t3.toArray) p1 p2 p3 fun h' hz hTI hTO h1 h2 h3 hsz hk => wpAny_pyIter_zip hz ?_
        have I2 : Inv X pins σ H1 { s1 with heap := h' } := I1.kept (t' := s1.toks) hk
        have ne : ∀ (d : Addr) (k : Nat), d < s1.heap.objs.size → d ≠ s1.heap.objs.size + k := fun d k hd => Nat.ne_of_lt (Nat.lt_of_lt_of_le hd (Nat.le_add_right _ _))
        exact ⟨s1.heap.objs.size + 5, [s1.heap.objs.size + 5, s1.heap.objs.size + 3, s1.heap.objs.size + 4, s1.heap.objs.size, s1.heap.objs.size + 1, s1.heap.objs.size + 2], _, _, H1, rfl, I2,
          turn_zip3 (zip_sep3 (fp1 := [a]) (fp2 := [b]) (fp3 := [c]) (fun d hd => by rw [List.mem_singleton.mp hd]; exact la) (fun d hd => by rw [List.mem_singleton.mp hd]; exact lb) (fun d hd => by rw [List.mem_singleton.mp hd]; exact lc)) (ne a 0 la) (ne b 1 lb) (ne c 2 lc),
          ⟨hz, hTI, ⟨_, _, _, hTO⟩, ⟨_, h1, rfl, rfl⟩, ⟨_, h2, rfl, rfl⟩, ⟨_, h3, rfl, rfl⟩⟩, fresh, q⟩
theorem for_zip3 {K : PySem.W.Frag} {a b c : Addr} {xs ys zs : List V} {g : TG} {tb : TS} {D : Ends} {σ : L2.St} {H : Hp} (hl : xs.length = ys.length) (hl2 : xs.length = zs.length) (Pv : Nat → L2.St → Hp → Prop) (h0 : Pv 0 σ H) (hq : ∀ i σ H, Pv i σ H → SqT K H a xs ∧ SqT K H b ys ∧ SqT K H c zs)
    (hs : ∀ (i : Nat) (x y u : V) (T : Addr) (σ : L2.St) (H : Hp), xs[i]? = some x → ys[i]? = some y → zs[i]? = some u → Pv i σ H → H T = none → g (.ref T) σ (upd H T (.tup [x, y, u])) fun σ2 H2 => tb { D with nx := Pv (i + 1), ct := Pv (i + 1), bk := D.nx } σ2 H2) (hd : ∀ σ H, Pv xs.length σ H → D.nx σ H) :
    ∃ W : Nat → Nat → L2.St → Hp → Prop, (∃ m, W 0 m σ H) ∧ ∀ i m σ H, W i m σ H →
      ((Itz3 K a b c).stop i H ∧ D.nx σ H) ∨ ((Itz3 K a b c).go i H ∧ ∃ N : L2.St → Hp → Prop, (∀ σ' H', N σ' H' → ∃ m', m' < m ∧ W (i + 1) m' σ' H') ∧ ∀ v H', (Itz3 K a b c).yld i H v H' → g v σ H' fun σ2 H2 => tb { D with nx := N, ct := N, bk := D.nx } σ2 H2) := by
  refine ⟨fun i m σ H => m = xs.length - i ∧ i ≤ xs.length ∧ Pv i σ H, ⟨xs.length, rfl, Nat.zero_le _, h0⟩, ?_⟩
  rintro i m σ H ⟨rfl, hi, p⟩
  obtain ⟨qx, qy, qz⟩ := hq i σ H p
  by_cases hlt : i < xs.length
  · refine .inr ⟨⟨xs, ys, zs, qx, qy, qz, hlt, by omega, by omega⟩, Pv (i + 1), fun σ' H' p' => ⟨xs.length - (i + 1), by omega, rfl, hlt, p'⟩, fun v H' y => ?_⟩
    obtain ⟨T, x', y', u', rfl, hT, rfl, f1, f2, f3⟩ := y
    exact hs i x' y' u' T σ H (f1 xs qx) (f2 ys qy) (f3 zs qz) p hT
  · have e : i = xs.length := by omega
    subst e
    exact .inl ⟨⟨xs, ys, zs, qx, qy, qz, by omega⟩, hd σ H p⟩
end Cl

namespace Cl
open PySem PySem.Spec PyProof.Rows L2
/-! ### pairs of lines of great numbers -/
def AtPair (K : PySem.W.Frag) (H : Hp) (v : V) (l r : Ln) : Prop := ∃ a u w, v = .ref a ∧ SqT K H a [u, w] ∧ AtL K H u l ∧ AtL K H w r
def GoodPair (l r : Ln) : Prop := BdL l ∧ BdL r ∧ l.1 ≠ l.2 ∧ r.1 ≠ r.2
def spPair (K : PySem.W.Frag) : Sp := fun vs H Q _ => ∃ (d l : Addr), vs = [.ref d] ∧ Deck H d l ∧
  ∀ w H' m n, Step d l H H' → AtPair K H' w m n → GoodPair m n → Q w H'
def spNum (B : Int) : Sp := fun vs H Q _ => ∃ (d l : Addr), vs = [.ref d] ∧ Deck H d l ∧ ∀ v H', -B ≤ v → v ≤ B → Step d l H H' → Q (.int v) H'
def spStepsP (K : PySem.W.Frag) : Sp := fun vs H Q _ => ∃ (d l : Addr), vs = [.ref d] ∧ Deck H d l ∧
  ∀ w H' p, Step d l H H' → At2 K H' w p → BdN 60000 p → p ≠ (0, 0) → Q w H'
theorem bdC_of {p : Pt} (h : BdN 10000000 p) : BdC p := by
  unfold BdN at h
  unfold BdC
  omega
theorem AllAt.twoLn {K : PySem.W.Frag} {H : Hp} {vs : List V} {p q : Pt} (h : AllAt (At2 K H) vs [p, q]) : ∃ u w, vs = [u, w] ∧ At2 K H u p ∧ At2 K H w q := by
  match vs, h with
  | [u, w], .cons a (.cons b .nil) => exact ⟨u, w, rfl, a, b⟩
theorem four {xs : List Int} (h : xs.length = 4) : ∃ x y z w, xs = [x, y, z, w] := by
  match xs, h with
  | [x, y, z, w], _ => exact ⟨x, y, z, w, rfl⟩
end Cl

namespace Cl
open PySem PySem.Spec PyProof.Rows L2
/-! ### a call of a def with a starred argument behind the first -/
section
variable {X : Cx} {k : Nat} {ps : List Str} {sp : Sp} {x : Str} {p pos : Pos} {e : Expr} {es : List Expr} {t : TA}
theorem callDS (D : Def X.prog X.w X.K X.mg X.base k x ps sp) (hr : RG k X.A) (ha : PA X (e :: es) t)
    (hg : Gl X x := by rfl) (hdb : (x == ("__debug__" : Str)) = false := by decide)
    (he : starEach (e :: es) X.env = (false, eval e X.env) :: starEach es X.env := by rfl)
    (hst : (backTo pos (starEach es X.env)).any (·.1) = true := by rfl) :
    PE X (.Call (.Name x p) (e :: es) [] pos) (tCall sp [] E0 t) := by
  obtain ⟨f, fd, F, hm, hk, hb⟩ := D.ex
  constructor
  intro pins s σ H Q I h
  refine wpAny_Call_Name_kw (ld_glob I hg hm ?_ hdb)
  refine PySem.W.callWith_S2 (h₀ := X.base) I.ok.mod.kin hk ?_ he hst
  refine thn (ha.run pos pins s σ H _ I h) fun us s1 ⟨vs, H1, I1, r, q⟩ => ⟨I1.kIn, ?_⟩
  have r2 : Vals (vs ++ []) (us ++ []) := r.append .nil
  have h2 : sp (vs ++ []) H1 Q E0 := q
  have n2 : (us ++ []).length = ps.length := r2.length.symm.trans (F.len _ _ _ _ h2)
  have run := F.run X.A X.stack s1 H1 ⟨us, []⟩ (us ++ []) (vs ++ []) Q E0 hr I1.env0 (hb s1 us I1.kIn n2) r2 h2
  refine wpAny_call (codeAny_mono run fun res s' hq => ?_)
  match res, hq with
  | .error ee, hq => exact pass0 pins σ H1 s1 ee s' I1 hq
  | .ok (.ret u), hq => exact I1.after hq
  | .ok .next, hq => exact hq.elim
  | .ok .brk, hq => exact hq.elim
  | .ok .cont, hq => exact hq.elim
end
/-! ### promises: the part of a line within a cell -/
def BdW (g : Int) (r : Ln) (c : Pt) : Prop := 0 < g ∧ g ≤ 1000 ∧ BdN 3000000 r.1 ∧ BdN 3000000 r.2 ∧ BdN 3000000 c
def AtSh (K : PySem.W.Frag) (H : Hp) (v : V) (f l : Sh) : Prop := ∃ a u w, v = .ref a ∧ SqT K H a [u, w] ∧ At2 K H u f ∧ At2 K H w l
def ShN (s : Sh) : Prop := -(2 ^ 36) < s.1 ∧ s.1 < 2 ^ 36 ∧ 0 < s.2 ∧ s.2 < 2 ^ 24
theorem ShN.b {s : Sh} (h : ShN s) : ShB s := by
  unfold ShN at h
  unfold ShB
  omega
theorem later_ShN {a b : Sh} (ha : ShN a) (hb : ShN b) : ShN (later a b) := by unfold later; split <;> assumption
theorem soon_ShN {a b : Sh} (ha : ShN a) (hb : ShN b) : ShN (soon a b) := by unfold soon; split <;> assumption
def spWithin (K : PySem.W.Frag) : Sp := fun vs H Q _ => ∃ g v r u c, vs = [.int g, v, u] ∧ AtL K H v r ∧ At2 K H u c ∧ BdW g r c ∧
  (sharesW g r c = none → ∀ H', Same H H' → Q .non H') ∧ ∀ f l w H', sharesW g r c = some (f, l) → Same H H' → AtSh K H' w f l → ShN f → ShN l → Q w H'
/-- the two numbers of a point, by 0 and 1 -/
def crd (p : Int × Int) (i : Nat) : Int := if i = 0 then p.1 else p.2
def stg (g : Int) (r : Ln) (c : Pt) : Nat → Option (Sh × Sh)
  | 0 => some ((0, 1), (1, 1))
  | i + 1 => match stg g r c i with
    | none => none
    | some (f, l) => inc f l (crd r.2 i - crd r.1 i) (rimL g (crd c i) - 2 * crd r.1 i) (rimH g (crd c i) - 2 * crd r.1 i)
theorem sharesW_stg (g : Int) (r : Ln) (c : Pt) : sharesW g r c = match stg g r c 2 with
    | none => none
    | some (f, l) => if l.1 * f.2 < f.1 * l.2 then none else some (f, l) := by
  unfold sharesW
  cases h : inc (0, 1) (1, 1) (r.2.1 - r.1.1) (rimL g c.1 - 2 * r.1.1) (rimH g c.1 - 2 * r.1.1) with
  | none => simp [stg, crd, h]
  | some z =>
    obtain ⟨f, l⟩ := z
    cases h2 : inc f l (r.2.2 - r.1.2) (rimL g c.2 - 2 * r.1.2) (rimH g c.2 - 2 * r.1.2) with
    | none => simp [stg, crd, h, h2]
    | some z => simp [stg, crd, h, h2]
theorem stg_none {g : Int} {r : Ln} {c : Pt} {i : Nat} (hi : i < 2) (h : stg g r c (i + 1) = none) : sharesW g r c = none := by
  rw [sharesW_stg]
  obtain rfl | rfl : i = 0 ∨ i = 1 := by omega
  · rw [show stg g r c 2 = match stg g r c 1 with
      | none => none
      | some (f, l) => inc f l (crd r.2 1 - crd r.1 1) (rimL g (crd c 1) - 2 * crd r.1 1) (rimH g (crd c 1) - 2 * crd r.1 1) from rfl, h]
  · rw [h]
theorem rim_b {g n : Int} (h0 : 0 < g) (h1 : g ≤ 1000) (n0 : -3000000 ≤ n) (n1 : n ≤ 3000000) : -(2 ^ 34) < rimL g n ∧ rimL g n < 2 ^ 34 ∧ -(2 ^ 34) < rimH g n ∧ rimH g n < 2 ^ 34 := by
  have k : ∀ z : Int, -6000001 ≤ z → z ≤ 6000001 → -6000001000 ≤ z * g ∧ z * g ≤ 6000001000 := fun z z0 z1 => by
    have a1 : (z + 6000001) * g ≤ (z + 6000001) * 1000 := Int.mul_le_mul_of_nonneg_left h1 (by omega)
    have a2 : (6000001 - z) * g ≤ (6000001 - z) * 1000 := Int.mul_le_mul_of_nonneg_left h1 (by omega)
    have a3 : 0 ≤ (z + 6000001) * g := Int.mul_nonneg (by omega) (by omega)
    have a4 : 0 ≤ (6000001 - z) * g := Int.mul_nonneg (by omega) (by omega)
    rw [Int.add_mul] at a1 a3
    rw [Int.sub_mul] at a2 a4
    omega
  unfold rimL rimH
  have := k (2 * n - 1) (by omega) (by omega)
  have := k (2 * n + 1) (by omega) (by omega)
  omega
/-- corner_at: its spot's corner -/
def spCornerAt (K : PySem.W.Frag) : Sp := fun vs H Q _ => ∃ (g : Int) (v : V) (s : S3), vs = [.int g, v] ∧ At3 K H v s ∧ 0 < g ∧ g < 2 ^ 60 ∧ 0 < s.2.2 ∧ s.2.2 * g < 2 ^ 60 ∧
  ∀ w H', Same H H' → At2 K H' w (nr s.1 (s.2.2 * g), nr s.2.1 (s.2.2 * g)) → Q w H'
def spShare (K : PySem.W.Frag) : Sp := fun vs H Q _ => ∃ g v r u c, vs = [.int g, v, u] ∧ AtL K H v r ∧ At2 K H u c ∧ BdW g r c ∧
  (¬ Meets g r c → ∀ H', Same H H' → Q .non H') ∧ (Meets g r c → ∀ p w H', Same H H' → At2 K H' w p → Q w H')
def spMeets (K : PySem.W.Frag) : Sp := fun vs H Q _ => ∃ g v r u c, vs = [.int g, v, u] ∧ AtL K H v r ∧ At2 K H u c ∧ BdW g r c ∧
  ∀ b H', Same H H' → (b = true ↔ Meets g r c) → Q (.bl b) H'
theorem eqv_pair (i j k l : Int) : PyData.eqv (.tuple [.int i, .int j]) (.tuple [.int k, .int l]) = decide (i = k ∧ j = l) := by
  rw [Bool.eq_iff_iff]
  simp [PyData.eqv, PyData.eqvAll]
theorem mid_b {f l : Sh} (hf : ShN f) (hl : ShN l) : 0 < midQ f l ∧ midQ f l ≤ 2 ^ 49 := by
  unfold ShN at hf hl
  unfold midQ
  have h1 : f.2 * l.2 ≤ 2 ^ 24 * 2 ^ 24 := Int.mul_le_mul (by omega) (by omega) (by omega) (by decide)
  have h2 : 0 < f.2 * l.2 := Int.mul_pos (by omega) (by omega)
  rw [Int.mul_assoc]
  omega
/-- the corner of the point at the share p of q is this one just when the point lies in its cell -/
theorem corner_share {g : Int} {r : Ln} {c : Pt} {p q : Int} (hg : 0 < g) (hq : 0 < q) :
    let s := sp3 (q * r.1.1 + p * (r.2.1 - r.1.1)) (q * r.1.2 + p * (r.2.2 - r.1.2)) q
    0 < s.2.2 ∧ s.2.2 ≤ q ∧ ((nr s.1 (s.2.2 * g), nr s.2.1 (s.2.2 * g)) = c ↔ HOc g r c p q) := by
  obtain ⟨k, _, _, _, _, h2, h3⟩ := spot_pos (n := q * r.1.1 + p * (r.2.1 - r.1.1)) (m := q * r.1.2 + p * (r.2.2 - r.1.2)) hq
  refine ⟨h2, h3, ?_⟩
  obtain ⟨e1, e2⟩ := nr_spot (n := q * r.1.1 + p * (r.2.1 - r.1.1)) (m := q * r.1.2 + p * (r.2.2 - r.1.2)) (g := g) hq
  show (nr _ (_ * g), nr _ (_ * g)) = c ↔ _
  unfold sp3
  simp only
  rw [e1, e2]
  unfold HOc
  rw [← in_cell hg hq, ← in_cell hg hq]
  constructor
  · intro e
    rw [← e]
    exact ⟨rfl, rfl⟩
  · intro ⟨a, b⟩
    exact Prod.ext a b
end Cl

namespace Cl
open PySem PySem.Spec PyProof.Rows L2
/-! ### lines of any grain, drawn; the shares tried -/
def BdR (B : Int) (r : Ln) : Prop := BdN B r.1 ∧ BdN B r.2
def spGrainW : Sp := fun vs H Q _ => ∃ d l : Addr, vs = [.ref d] ∧ Deck H d l ∧ ∀ g H', 0 < g → g ≤ 1000 → Step d l H H' → Q (.int g) H'
def spPointW (K : PySem.W.Frag) : Sp := fun vs H Q _ => ∃ (d l : Addr) (g way : Int), vs = [.ref d, .int g, .int way] ∧ 0 < g ∧ g ≤ 1000 ∧ Deck H d l ∧
  ∀ w H' p, Step d l H H' → At2 K H' w p → BdN 5000 p → Q w H'
def spLineW (K : PySem.W.Frag) : Sp := fun vs H Q _ => ∃ (d l : Addr) (g : Int) (L : Addr) (ws : List V) (ls : List Ln), vs = [.ref d, .int g, .ref L] ∧ 0 < g ∧ g ≤ 1000 ∧ Deck H d l ∧
  L ≠ d ∧ L ≠ l ∧ H L = some (.lst ws) ∧ AllAt (AtL K H) ws ls ∧ ls.length ≤ 10 ∧
  ∀ w H' r', Step d l H H' → AtL K H' w r' → BdR 60000 r' → Q w H'
def spLinesW (K : PySem.W.Frag) : Sp := fun vs H Q _ => ∃ (d l : Addr) (g : Int) (n : Nat), vs = [.ref d, .int g, .int n] ∧ 0 < g ∧ g ≤ 1000 ∧ 0 < n ∧ n ≤ 10 ∧ Deck H d l ∧
  ∀ w H' ls, Step d l H H' → AtT K H' w ls → ls.length = n → (∀ r ∈ ls, BdR 60000 r) → Q w H'
def mvL (dx dy : Int) (r : Ln) : Ln := ((r.1.1 + dx, r.1.2 + dy), (r.2.1 + dx, r.2.2 + dy))
def spMovedW (K : PySem.W.Frag) : Sp := fun vs H Q _ => ∃ (v : V) (ls : List Ln) (dx dy : Int), vs = [v, .int dx, .int dy] ∧ AtT K H v ls ∧ ls.length ≤ 900 ∧
  ∀ w H', Same H H' → AtT K H' w (ls.map (mvL dx dy)) → Q w H'
def spNearestW (K : PySem.W.Frag) : Sp := fun vs H Q _ => ∃ (g : Int) (v : V) (s : S3), vs = [.int g, v] ∧ At3 K H v s ∧ 0 < g ∧ g ≤ 1000 ∧ s.2.2 = 16 ∧
  ∀ w H' p, Same H H' → At2 K H' w p → Q w H'
def spSharesW (K : PySem.W.Frag) : Sp := fun vs H Q _ => ∃ g v r u c, vs = [.int g, v, u] ∧ AtL K H v r ∧ At2 K H u c ∧ 0 < g ∧ g ≤ 1000 ∧ BdR 1100000 r ∧ BdN 1000000 c ∧
  ∀ L H' vs ps, Same H H' → H' L = some (.lst vs) → AllAt (At2 K H') vs ps → (ps ≠ [] ↔ Meets g r c) → Q (.ref L) H'
def spFarW : Sp := fun vs H Q _ => ∃ (d l : Addr), vs = [.ref d] ∧ Deck H d l ∧ ∀ v H', -1000000 ≤ v → v ≤ 1000000 → Step d l H H' → Q (.int v) H'
def spSomeW (K : PySem.W.Frag) : Sp := fun vs H Q _ => ∃ (d l : Addr) (g : Int), vs = [.ref d, .int g] ∧ 0 < g ∧ g ≤ 1000 ∧ Deck H d l ∧
  ∀ w H' r, Step d l H H' → AtL K H' w r → BdR 1100000 r → Q w H'
def spNearW (K : PySem.W.Frag) : Sp := fun vs H Q _ => ∃ (d l : Addr) (g : Int) (v : V) (r : Ln), vs = [.ref d, .int g, v] ∧ 0 < g ∧ g ≤ 1000 ∧ Deck H d l ∧ AtL K H v r ∧
  ∀ w H' c, Step d l H H' → At2 K H' w c → BdN 1000000 c → Q w H'
def AtLC (K : PySem.W.Frag) (H : Hp) (v : V) (x : Ln × Pt) : Prop := ∃ a u w, v = .ref a ∧ SqT K H a [u, w] ∧ AtL K H u x.1 ∧ At2 K H w x.2
theorem AtLC.same {K : PySem.W.Frag} {H H' : Hp} {v : V} {x : Ln × Pt} (h : AtLC K H v x) (s : Same H H') : AtLC K H' v x := by
  obtain ⟨a, u, w, rfl, h1, h2, h3⟩ := h
  exact ⟨a, u, w, rfl, seT s h1, h2.same s, h3.same s⟩
theorem AtLC.upd {K : PySem.W.Frag} {H : Hp} {M : Addr} {xs : List V} {o : HO} {v : V} {x : Ln × Pt} (h : AtLC K H v x) (e : H M = some (.lst xs)) : AtLC K (L2.upd H M o) v x := by
  obtain ⟨a, u, w, rfl, h1, h2, h3⟩ := h
  exact ⟨a, u, w, rfl, updT e h1, h2.upd e, h3.upd e⟩
def spTurnedW (K : PySem.W.Frag) : Sp := fun vs H Q _ => ∃ (g : Int) (v : V) (r : Ln) (u : V) (c : Pt) (b : Addr) (i j : Int), vs = [.int g, v, u, .ref b] ∧ AtL K H v r ∧ At2 K H u c ∧ H b = some (.lst [.int i, .int j]) ∧
  0 < g ∧ g ≤ 1000 ∧ BdR 1100000 r ∧ BdN 1000000 c ∧ -10 ≤ i ∧ i ≤ 10 ∧ -10 ≤ j ∧ j ≤ 10 ∧
  ∀ L H' vs ps, Same H H' → H' L = some (.lst vs) → AllAt (AtLC K H') vs ps → (∀ x ∈ ps, BdW g x.1 x.2 ∧ (Meets g x.1 x.2 ↔ Meets g r c)) → Q (.ref L) H'
theorem cut_init (xs : List V) : cutV xs none (some (-1)) = xs.dropLast := by
  unfold cutV
  have e : HT.sIx xs.length xs.length (some (-1)) = xs.length - 1 := by
    show (if (-1 : Int) < 0 then ((-1 : Int) + (xs.length : Int)).toNat else min (-1 : Int).toNat xs.length) = _
    rw [if_pos (by decide)]
    omega
  rw [HT.sIx_none, e, List.drop_zero, Nat.sub_zero, List.dropLast_eq_take]
theorem cut_tail (xs : List V) : cutV xs (some 1) none = xs.tail := by rw [cut_rest, List.drop_one]
section
variable {X : Cx}
theorem cr_sortedIN : CallR X (.builtin "sorted") (fun vs H Q => ∃ (a : Addr) (ns : List Int), vs = [V.ref a] ∧ SqL X.K H a (ns.map V.int) ∧ ∀ ns' : List Int, ns'.Perm ns → ns'.Pairwise (· ≤ ·) → New H (.lst (ns'.map V.int)) Q) :=
  fun pins s σ H vs us Q I r ⟨a, ns, h1, h2, q⟩ => cr_sortedI pins s σ H vs us Q I r ⟨a, ns, h1, h2, fun ns' p h3 h4 n => (q ns' h3 h4).go p n⟩
def rRepN : R2 := fun x y H Q => ∃ l k xs, x = .ref l ∧ y = .int k ∧ H l = some (.lst xs) ∧ -(2 ^ 63) ≤ k ∧ k < 2 ^ 63 ∧ xs.length * k.toNat ≤ sizeLine ∧ New H (.lst (List.replicate k.toNat xs).flatten) Q
theorem op_repN : OpR X (binaryOp .Mult) rRepN := fun pins s σ H x y v u Q I rx ry ⟨l, k, xs, h1, h2, h3, h4, h5, h6, q⟩ => op_rep pins s σ H x y v u Q I rx ry ⟨l, k, xs, h1, h2, h3, h4, h5, h6, q.go⟩
end
section
variable {X : Cx}
theorem cut_whole {xs : List V} {lo hi : Option Int} (h : HT.sIx xs.length 0 lo = 0 ∧ HT.sIx xs.length xs.length hi = xs.length) : cutV xs lo hi = xs := by
  unfold cutV
  rw [h.1, h.2, List.drop_zero, Nat.sub_zero, List.take_length]
/-- t[lo:hi] of a tuple, a new one or itself -/
def rSlTB (K : PySem.W.Frag) : V → Option Int → Option Int → Hp → VK → Prop := fun x lo hi H Q => ∃ a xs, x = .ref a ∧ SqT K H a xs ∧ ∀ p H', Same H H' → SqT K H' p (cutV xs lo hi) → Q (.ref p) H'
theorem sl_tupB : SlR X (rSlTB X.K) := fun pins s σ H x v vl vu lo hi sl Q I rx hs pl pu ⟨a, xs, h1, h2, q⟩ =>
  sl_tupA pins s σ H x v vl vu lo hi sl Q I rx hs pl pu ⟨a, xs, h1, h2, fun hw => q a H (.refl _) (by rw [cut_whole hw]; exact h2), fun _ p n => q p _ (same_new n) (.inl (.inl upd_same))⟩
/-- t + u of tuples, a new one or one of them -/
def rCatTB (K : PySem.W.Frag) : R2 := fun x y H Q => ∃ a b xs ys, x = .ref a ∧ y = .ref b ∧ SqT K H a xs ∧ SqT K H b ys ∧ xs.length + ys.length ≤ sizeLine ∧ ∀ p H', Same H H' → SqT K H' p (xs ++ ys) → Q (.ref p) H'
theorem op_catTB : OpR X (binaryOp .Add) (rCatTB X.K) := fun pins s σ H x y v u Q I rx ry ⟨a, b, xs, ys, h1, h2, h3, h4, h5, q⟩ =>
  op_catA pins s σ H x y v u Q I rx ry ⟨a, b, xs, ys, h1, h2, h3, h4, h5, fun e => q b H (.refl _) (by rw [e]; exact h4), fun _ e => q a H (.refl _) (by rw [e, List.append_nil]; exact h3), fun _ _ p n => q p _ (same_new n) (.inl (.inl upd_same))⟩
end
theorem small64' {n : Nat} (h : n ≤ 100) : n ≤ sizeLine := by
  have : sizeLine = 16777216 := by decide
  omega
/-- over zip of two lists -/
def lcZ {K : PySem.W.Frag} {a b : Addr} {xs ys : List V} {n : Nat} {g : TG} {tt : TT} {te : TE} {vs : List Nat} {σ : L2.St} {H1 : Hp} {D : Addr} {Qd : Hp → Prop} (hn : n = min xs.length ys.length)
    (Pv : Nat → Hp → Prop) (hD : H1 D = none) (h0 : ∀ H', Same H1 H' → H' D = some (.lst []) → Pv 0 H') (hG : ∀ i H, i ≤ n → Pv i H → SqL K H a xs ∧ SqL K H b ys)
    (hs : ∀ i x H H', i < n → Pv i H → YPair (fun i => xs[i]?) (fun i => ys[i]?) i H x H' → g x (wipe σ vs) H' fun σ2 H2 => wipe σ2 vs = wipe σ vs ∧ tt σ2 H2 fun b H3 =>
      if b = true then te σ2 H3 fun y H4 => ∃ acc, H4 D = some (.lst acc) ∧ acc.length < sizeLine ∧ Pv (i + 1) (upd H4 D (.lst (acc ++ [y]))) else Pv (i + 1) H3)
    (hd : ∀ H, Pv n H → Qd H) := lc_it (walk_zip (K := K) (a := a) (b := b) hn) (g := g) (tt := tt) (te := te) (vs := vs) (σ := σ) (H1 := H1) (D := D) (Qd := Qd) Pv (h0 _ (same_new hD) upd_same) hG hs hd
/-! ### the shares that the law tries -/
def ab (z : Int) : Int := if z < 0 then -z else z
def m1 (z : Int) : Int := if ab z > 1 then ab z else 1
def sgn (z : Int) : Int := if z > 0 then 1 else -1
def crs (first way W side : Int) : Int := (side - first) * (W / ab way) * sgn way
def crsR (g first way k W : Int) : List Int := if way ≠ 0 then [crs first way W (rimL g k), crs first way W (rimH g k)] else []
def wh (r : Ln) : Int := m1 (2 * (r.2.1 - r.1.1)) * m1 (2 * (r.2.2 - r.1.2))
def raw (g : Int) (r : Ln) (c : Pt) : List Int := [0, wh r] ++ crsR g (2 * r.1.1) (2 * (r.2.1 - r.1.1)) c.1 (wh r) ++ crsR g (2 * r.1.2) (2 * (r.2.2 - r.1.2)) c.2 (wh r)
def inB (g first way k W s : Int) : Bool := decide (2 * (2 * k - 1) * g * W ≤ first * 2 * W + way * s) && decide (first * 2 * W + way * s < 2 * (2 * k + 1) * g * W)
theorem ab_pos {z : Int} (h : z ≠ 0) : 0 < ab z := by unfold ab; split <;> omega
theorem m1_pos (z : Int) : 0 < m1 z := by unfold m1 ab; split <;> omega
theorem m1_of {z : Int} (h : z ≠ 0) : m1 z = ab z := by unfold m1 ab; split <;> (split <;> omega)
theorem m1_le {z B : Int} (h1 : -B ≤ z) (h2 : z ≤ B) (hB : 1 ≤ B) : m1 z ≤ B := by unfold m1 ab; split <;> (split <;> omega)
theorem wh_pos (r : Ln) : 0 < wh r := Int.mul_pos (m1_pos _) (m1_pos _)
theorem wh_le {r : Ln} (h : BdR 1100000 r) : wh r ≤ 2 ^ 45 := by
  obtain ⟨h1, h2⟩ := h
  unfold BdN at h1 h2
  have a1 := m1_le (z := 2 * (r.2.1 - r.1.1)) (B := 4400000) (by omega) (by omega) (by omega)
  have a2 := m1_le (z := 2 * (r.2.2 - r.1.2)) (B := 4400000) (by omega) (by omega) (by omega)
  have := Int.mul_le_mul a1 a2 (Int.le_of_lt (m1_pos _)) (by omega)
  unfold wh
  omega
theorem crs_eq {first way W side : Int} (hw : way ≠ 0) (hd : ab way ∣ W) : way * crs first way W side = (side - first) * W := by
  unfold crs
  obtain ⟨q, rfl⟩ := hd
  rw [Int.mul_ediv_cancel_left _ (by have := ab_pos hw; omega)]
  unfold ab sgn
  by_cases h : 0 < way
  · rw [if_pos (show way > 0 from h), if_neg (show ¬ way < 0 by omega)]
    generalize side - first = A
    rw [Int.mul_one, Int.mul_left_comm]
  · rw [if_neg (show ¬ way > 0 from h), if_pos (show way < 0 by omega)]
    generalize side - first = A
    rw [Int.mul_neg, Int.mul_one, Int.mul_neg, Int.neg_mul, Int.mul_neg, Int.mul_left_comm]
theorem ab_dvd1 {r : Ln} (h : 2 * (r.2.1 - r.1.1) ≠ 0) : ab (2 * (r.2.1 - r.1.1)) ∣ wh r := by
  unfold wh
  rw [← m1_of h]
  exact Int.dvd_mul_right _ _
theorem ab_dvd2 {r : Ln} (h : 2 * (r.2.2 - r.1.2) ≠ 0) : ab (2 * (r.2.2 - r.1.2)) ∣ wh r := by
  unfold wh
  rw [← m1_of h]
  exact Int.dvd_mul_left _ _
theorem inB_iff (g start step k W s : Int) : inB g (2 * start) (2 * step) k W s = true ↔ HO1 g start step k s (2 * W) := by
  unfold inB HO1
  rw [Bool.and_eq_true, decide_eq_true_eq, decide_eq_true_eq]
  have e1 : 2 * (2 * k - 1) * g * W = (2 * k - 1) * g * (2 * W) := by grind
  have e2 : 2 * (2 * k + 1) * g * W = (2 * k + 1) * g * (2 * W) := by grind
  have e3 : 2 * start * 2 * W + 2 * step * s = 2 * (start * (2 * W) + step * s) := by grind
  rw [e1, e2, e3]
def keepS (W s : Int) : Bool := decide (0 ≤ s) && decide (s ≤ W)
def mids (L : List Int) : List Int := (L.dropLast.zip L.tail).map fun z => (z.1 + z.2) / 2
def inC (g : Int) (r : Ln) (c : Pt) (s : Int) : Bool := inB g (2 * r.1.1) (2 * (r.2.1 - r.1.1)) c.1 (wh r) s && inB g (2 * r.1.2) (2 * (r.2.2 - r.1.2)) c.2 (wh r) s
theorem shares_end {g : Int} {r : Ln} {c : Pt} {L T : List Int} (hp : L.Perm (((raw g r c).filter (keepS (wh r))).map fun s => 2 * s)) (hs : L.Pairwise (· ≤ ·)) (ht : T.Perm (L ++ mids L)) :
    (T.filter (inC g r c) ≠ [] ↔ Meets g r c) := by
  have W0 := wh_pos r
  have mem : ∀ s, keepS (wh r) s = true → s ∈ raw g r c → 2 * s ∈ L := fun s h1 h2 => hp.mem_iff.mpr (List.mem_map.mpr ⟨s, List.mem_filter.mpr ⟨h2, h1⟩, rfl⟩)
  have kp : ∀ s : Int, 0 ≤ s → s ≤ wh r → keepS (wh r) s = true := fun s h1 h2 => by unfold keepS; rw [decide_eq_true h1, decide_eq_true h2]; rfl
  have t := tried (g := g) (r := r) (c := c) W0 hs (fun s hs => by
    obtain ⟨x, hx, rfl⟩ := List.mem_map.mp (hp.mem_iff.mp hs)
    have k := (List.mem_filter.mp hx).2
    unfold keepS at k
    rw [Bool.and_eq_true, decide_eq_true_eq, decide_eq_true_eq] at k
    exact ⟨x, rfl, k.1, k.2⟩) (by have := mem 0 (kp 0 (by omega) (by omega)) (by simp [raw]); simpa using this) (mem (wh r) (kp _ (by omega) (by omega)) (by simp [raw]))
    (fun hx side hside => by
      have h2 : 2 * (r.2.1 - r.1.1) ≠ 0 := by omega
      refine ⟨crs (2 * r.1.1) (2 * (r.2.1 - r.1.1)) (wh r) side, crs_eq h2 (ab_dvd1 h2), fun k0 k1 => mem _ (kp _ k0 k1) ?_⟩
      unfold raw crsR
      rw [if_pos h2]
      simp only [List.mem_cons, List.not_mem_nil, or_false] at hside
      rcases hside with rfl | rfl <;> simp)
    (fun hx side hside => by
      have h2 : 2 * (r.2.2 - r.1.2) ≠ 0 := by omega
      refine ⟨crs (2 * r.1.2) (2 * (r.2.2 - r.1.2)) (wh r) side, crs_eq h2 (ab_dvd2 h2), fun k0 k1 => mem _ (kp _ k0 k1) ?_⟩
      unfold raw crsR
      rw [if_pos h2]
      simp only [List.mem_cons, List.not_mem_nil, or_false] at hside
      rcases hside with rfl | rfl <;> simp)
  rw [t]
  have hin : ∀ s, inC g r c s = true ↔ HOc g r c s (2 * wh r) := fun s => by
    unfold inC HOc
    rw [Bool.and_eq_true, inB_iff, inB_iff]
  constructor
  · intro hne
    obtain ⟨s, hs⟩ := List.exists_mem_of_ne_nil _ hne
    obtain ⟨h1, h2⟩ := List.mem_filter.mp hs
    exact ⟨s, ht.mem_iff.mp h1, (hin s).mp h2⟩
  · rintro ⟨s, h1, h2⟩ e
    have : s ∈ T.filter (inC g r c) := List.mem_filter.mpr ⟨ht.mem_iff.mpr h1, (hin s).mpr h2⟩
    rw [e] at this
    cases this
theorem AllAt.one {α : Type} {R : V → α → Prop} {vs : List V} {x : α} (h : AllAt R vs [x]) : ∃ v, vs = [v] ∧ R v x := by
  match vs, h with
  | [v], .cons h .nil => exact ⟨v, rfl, h⟩
theorem shapedPts (ps : List Pt) : SeqAt.shaped (.list (ps.map pd)) = true := by
  have h1 : ∀ ps : List Pt, PyData.canLayAll0 (ps.map pd) = true := by
    intro ls
    induction ls with
    | nil => rfl
    | cons n r ih => simp [PyData.canLayAll0, PyData.canLay0, pd, ih]
  have h2 : ∀ ps : List Pt, PyData.depthAll (ps.map pd) ≤ 1 := by
    intro ls
    induction ls with
    | nil => decide
    | cons n r ih =>
      simp only [List.map_cons, PyData.depthAll]
      have : (pd n).depth = 1 := by simp [pd, PyData.depth, PyData.depthAll]
      omega
  have h3 := h2 ps
  simp [SeqAt.shaped, PyData.canLay0, PyData.depth, h1]
  omega
theorem eqvNilP (ps : List Pt) : PyData.eqv (.list (ps.map pd)) (.list []) = ps.isEmpty := by
  cases ps <;> simp [PyData.eqv, PyData.eqvAll]
theorem pts_dp {K : PySem.W.Frag} {H : Hp} : ∀ {ws : List V} {ps : List Pt}, AllAt (At2 K H) ws ps → DpAll K H ws (ps.map pd)
  | _, _, .nil => .nil
  | _, _, .cons h t => .cons h.dp (pts_dp t)
end Cl

namespace Cl
open PySem PySem.Spec PyProof.Rows L2
/-! ### enumerate(tuple) -/
set_option maxHeartbeats 1000000 in
theorem meets_enum1B {v : Value} {o : Obj} {H : Heap → Prop} (B : Begins v o H) :
    _root_.PySem.Meets (Builtin.«enumerate.__new__» ⟨[.type "enumerate", v], []⟩) (fun _ R s => H s.heap ∧
      R (.ok (.ret (.ref (s.heap.push o).objs.size))) { s with heap := (s.heap.push o).push { cls := .type "enumerate", data := .fields #[.none, .bool false, .ref s.heap.objs.size, rawInt 0, .none, .none] } }) :=
  .of_wp fun prog w A R s h => by
    obtain ⟨hp, g, d, tk, os⟩ := s; obtain ⟨h1, h⟩ := h
    have hsub := sub_enumerate
    have q1 : ∀ {A' : Around} {E : Value → Shared → Prop} {Q : Value → Shared → Prop}, Q (.ref hp.objs.size) ⟨hp.push o, g, d, tk, os⟩ → wpAny (model prog w) A' (pyIter v) Q E ⟨hp, g, d, tk, os⟩ :=
      fun q => B.iter prog w _ _ ⟨hp, g, d, tk, os⟩ _ h1 q
    wp_walk using q1
    refine wpAny_stack_any fun st => wpAny_pure ?_
    split
    · rename_i c _ _ _ _ _
      cases (c == Value.type "enumerate")
      · wp_walk using q1
        exact ⟨_, rfl, h⟩
      · wp_walk using q1
        exact ⟨_, rfl, h⟩
    · wp_walk using q1
      exact ⟨_, rfl, h⟩
theorem enum_begins1 {prog : Program} {w : World} {A : Around} {E : Value → Shared → Prop} {s : Shared} {v : Value} {o : Obj} {H : Heap → Prop} {Q : Value → Shared → Prop} (B : Begins v o H) (h1 : H s.heap)
    (h : ∀ h', IsEnum h' (s.heap.objs.size + 1) s.heap.objs.size 0 .none → h'.get? s.heap.objs.size = some o → h'.objs.size = s.heap.objs.size + 2 →
      (∀ b o, s.heap.get? b = some o → h'.get? b = some o) → Q (.ref (s.heap.objs.size + 1)) { s with heap := h' }) :
    wpAny (model prog w) A (call (.type "enumerate") [v]) Q E s := by
  refine callType_new F.called_enumerate (by decide) (F.typeCall_enumerate_1 _) (F.newCall_enumerate_1 _) (fun obj => F.args_object_init_2 obj _) F.entry_enumerate_new
    (meets_enum1B B) ⟨h1, ?_⟩
  have hz : (s.heap.push o).objs.size = s.heap.objs.size + 1 := Heap.size_push ..
  show _ ∧ _
  rw [hz]
  have he : IsEnum ((s.heap.push o).push { cls := .type "enumerate", data := .fields #[.none, .bool false, .ref s.heap.objs.size, rawInt 0, .none, .none] }) (s.heap.objs.size + 1) s.heap.objs.size 0 .none := by
    have := Heap.get?_push_size (s.heap.push o) (o := { cls := .type "enumerate", data := .fields #[.none, .bool false, .ref s.heap.objs.size, rawInt 0, .none, .none] }) rfl
    rw [hz] at this; exact this
  refine ⟨⟨_, he, rfl⟩, h _ he (Heap.get?_push_of_some _ (Heap.get?_push_size _ B.free)) (by rw [Heap.size_push, hz]) fun b o x => Heap.get?_push_of_some _ (Heap.get?_push_of_some _ x)⟩
def Iet (K : PySem.W.Frag) (a : Addr) : It :=
  ⟨fun i H => ∃ (xs : List V) (x : V), SqT K H a xs ∧ xs[i]? = some x, fun i H v H' => ∃ T x, v = .ref T ∧ H T = none ∧ H' = upd H T (.tup [.int (i : Nat), x]) ∧ ∀ xs, SqT K H a xs → xs[i]? = some x, fun i H => ∃ xs : List V, SqT K H a xs ∧ xs.length = i⟩
theorem turn_enumT {P : Program} {w : World} {K : PySem.W.Frag} {elts : List Expr} {kk : Nat} {tpos : Pos} {a e it : Addr} (hei : e ≠ it) (hea : e ≠ a) (hia : it ≠ a) :
    Turn P w K (.Tuple elts kk tpos) (Iet K a) [e, it] e (fun i h => (∃ old, IsEnum h e it ((i : Nat) : Int) old) ∧ h.IsTupleIter it a i) where
  mem := by simp
  obj := fun i h st b hb => by
    obtain ⟨⟨old, he⟩, ⟨o, ho, hc, hd⟩⟩ := st
    have e' : b = e ∨ b = it := by simpa using hb
    rcases e' with z | z
    · rw [z]; exact ⟨_, he, fun v q => nomatch q⟩
    · rw [z]; exact ⟨o, ho, fun v q => by rw [hd] at q; cases q⟩
  keep := fun i h h' st k => let ⟨⟨old, he⟩, hi⟩ := st; ⟨⟨old, k e (by simp) _ he⟩, hi.at fun o q => k it (by simp) o q⟩
  item := by
    intro X hP hw hK hc i pins s σ H E I hf st hg
    subst hP hw hK
    obtain ⟨⟨old, he⟩, hit⟩ := st
    obtain ⟨xs, x, hq, hx⟩ := hg
    obtain ⟨its, rv, p, hz⟩ := I.tuple hq
    obtain ⟨u, hu, ru⟩ := rv.get hx
    have hl := rv.length
    have hlt : i < xs.length := (List.getElem?_eq_some_iff.mp hx).1
    have hh : X.A.in1.handled = none := I.ok.hd hc
    have W := GoesN.enumFrom (elts := elts) (x1 := kk) (pos := tpos) 0 (Draws.tuple (prog := X.prog) (w := X.w) hh it a (Ne.symm hia) its.toArray) e hei (by simp [hei, hea]) (by simp)
    refine W.goes i s _ E (by simp; omega) ⟨⟨old, by rw [Int.zero_add]; exact he⟩, hit, p⟩ fun v h' tk hY st' hk htk => ?_
    obtain ⟨T, t, y, rfl, hT, hy, hTup⟩ := hY
    obtain ⟨⟨old', he'⟩, hit', _⟩ := st'
    rw [Int.zero_add] at hTup he'
    have ey : u = y := by
      have h1 : its.toArray[i]? = some y := hy
      have h2 : its[i]? = some y := by simpa using h1
      rw [hu] at h2
      exact Option.some.inj h2
    subst ey
    have new : ObjOk X.prog X.w (upd H T (.tup [.int (i : Nat), x])) h' T (.tup [.int (i : Nat), x]) :=
      ⟨by show 2 ≤ sizeLine; decide, [_, u], .cons ⟨_, rfl⟩ (.cons ru .nil), hTup⟩
    have I1 := I.turnedNew (t' := tk) (ch := [e, it]) (fun d o hd q => hk d o hd q) hf hT new
    refine ⟨.ref T, _, I1, rfl, ⟨T, x, rfl, I.hok.fresh hT, rfl, fun ys hy => by rw [I.tuple_inj hy hq]; exact hx⟩, ⟨⟨old', he'⟩, hit'⟩, fun b hb => ?_⟩
    have hb' : b < s.heap.objs.size := by
      have e' : b = e ∨ b = it := by simpa using hb
      rcases e' with z | z
      · rw [z]; exact Heap.lt_size he
      · rw [z]; obtain ⟨_, q, _⟩ := hit; exact Heap.lt_size q
    rw [upd_ne (Nat.ne_of_lt (Nat.lt_of_lt_of_le hb' hT))]
    exact (hf b hb).1
  done := by
    intro X hP hw hK hc i pins s σ H E I hf st hg
    subst hP hw hK
    obtain ⟨⟨old, he⟩, hit⟩ := st
    obtain ⟨xs, hq, hx⟩ := hg
    obtain ⟨its, rv, p, hz⟩ := I.tuple hq
    have hl := rv.length
    have hh : X.A.in1.handled = none := I.ok.hd hc
    have W := GoesN.enumFrom (elts := elts) (x1 := kk) (pos := tpos) 0 (Draws.tuple (prog := X.prog) (w := X.w) hh it a (Ne.symm hia) its.toArray) e hei (by simp [hei, hea]) (by simp)
    have hi : i = its.toArray.size := by simp; omega
    subst hi
    exact W.stops s _ E ⟨⟨old, by rw [Int.zero_add]; exact he⟩, hit, p⟩ fun h' tk hk htk => I.turnedL (t' := tk) (ch := [e, it]) (fun d o hd q => hk d o hd q) hf
  self := fun A i s Q E st h => let ⟨⟨_, he⟩, _⟩ := st; wpAny_pyIter_enum he h
def iEnumT (K : PySem.W.Frag) (ta : TA) : TI := fun σ H R => ta σ H fun vs H1 => ∃ a xs, vs = [.ref a] ∧ SqT K H1 a xs ∧ R (Iet K a) H1
theorem pi_enumT {X : Cx} {e : Expr} {ta : TA} {p pos tpos : Pos} {elts : List Expr} {kk : Nat} (hg : Gl X "enumerate") (hm : X.mg "enumerate" = none) (ha : PA X [e] ta) (hs : starEach [e] X.env = [(false, eval e X.env)] := by rfl) :
    PI X (.Tuple elts kk tpos) (.Call (.Name "enumerate" p) [e] [] pos) (iEnumT X.K ta) := by
  refine ⟨fun pins s σ H R I h => ?_⟩
  refine Call_ (ld_blt I hg hm boot_enumerate (PyProof.Rows.callWith_type1 (thn (ha.run pos pins s σ H _ I h) fun us s1 ⟨vs, H1, I1, r1, q1⟩ => ?_) hs rfl))
  obtain ⟨a, xs, ex, hq, q⟩ := q1
  subst ex
  cases r1 with
  | cons r rr =>
    cases rr
    cases r
    obtain ⟨its, rv, p', hz⟩ := I1.tuple hq
    have la : a < s1.heap.objs.size := by obtain ⟨o1, g1, _⟩ := id p'; exact Heap.lt_size g1
    refine enum_begins1 (begins_tuple a its.toArray) p' fun h' he hit hsz hk => wpAny_pyIter_enum he ?_
    have I2 : Inv X pins σ H1 { s1 with heap := h' } := I1.kept (t' := s1.toks) hk
    refine ⟨s1.heap.objs.size + 1, [s1.heap.objs.size + 1, s1.heap.objs.size], _, _, H1, rfl, I2, turn_enumT (Nat.succ_ne_self _) (Nat.ne_of_gt (Nat.lt_succ_of_lt la)) (Nat.ne_of_gt la), ⟨⟨.none, he⟩, ⟨_, hit, rfl, rfl⟩⟩, fun b hb => ?_, q⟩
    have e' : b = s1.heap.objs.size + 1 ∨ b = s1.heap.objs.size := by simpa using hb
    have hle : s1.heap.objs.size ≤ b := by
      rcases e' with z | z
      · rw [z]; exact Nat.le_add_right _ _
      · rw [z]; exact Nat.le_refl _
    exact I1.fpOk hle (I1.hok.fresh hle)
theorem for_enumT {K : PySem.W.Frag} {a : Addr} {xs : List V} {g : TG} {tb : TS} {D : Ends} {σ : L2.St} {H : Hp} (Pv : Nat → L2.St → Hp → Prop) (h0 : Pv 0 σ H) (hq : ∀ i σ H, Pv i σ H → SqT K H a xs)
    (hs : ∀ (i : Nat) (x : V) (T : Addr) (σ : L2.St) (H : Hp), xs[i]? = some x → Pv i σ H → H T = none → g (.ref T) σ (upd H T (.tup [.int (i : Nat), x])) fun σ2 H2 => tb { D with nx := Pv (i + 1), ct := Pv (i + 1), bk := D.nx } σ2 H2) (hd : ∀ σ H, Pv xs.length σ H → D.nx σ H) :
    ∃ W : Nat → Nat → L2.St → Hp → Prop, (∃ m, W 0 m σ H) ∧ ∀ i m σ H, W i m σ H →
      ((Iet K a).stop i H ∧ D.nx σ H) ∨ ((Iet K a).go i H ∧ ∃ N : L2.St → Hp → Prop, (∀ σ' H', N σ' H' → ∃ m', m' < m ∧ W (i + 1) m' σ' H') ∧ ∀ v H', (Iet K a).yld i H v H' → g v σ H' fun σ2 H2 => tb { D with nx := N, ct := N, bk := D.nx } σ2 H2) := by
  refine ⟨fun i m σ H => m = xs.length - i ∧ i ≤ xs.length ∧ Pv i σ H, ⟨xs.length, rfl, Nat.zero_le _, h0⟩, ?_⟩
  rintro i m σ H ⟨rfl, hi, p⟩
  have qx := hq i σ H p
  by_cases hlt : i < xs.length
  · refine .inr ⟨⟨xs, xs[i], qx, List.getElem?_eq_getElem hlt⟩, Pv (i + 1), fun σ' H' p' => ⟨xs.length - (i + 1), by omega, rfl, hlt, p'⟩, fun v H' y => ?_⟩
    obtain ⟨T, x', rfl, hT, rfl, f1⟩ := y
    exact hs i x' T σ H (f1 xs qx) p hT
  · have e : i = xs.length := by omega
    subst e
    exact .inl ⟨⟨xs, qx, rfl⟩, hd σ H p⟩
/-! ### xs == [] -/
def rEqNil (K : PySem.W.Frag) : R2 := fun x y H Q => ∃ a b xs, x = .ref a ∧ y = .ref b ∧ SqL K H a xs ∧ SqL K H b [] ∧ Q (.bl xs.isEmpty) H
theorem op_eqNil {X : Cx} (hu : X.A.units + 64 < cLine) : OpR X (compareOp .Eq) (rEqNil X.K) := by
  intro pins s σ H x y v u Q I rx ry h
  obtain ⟨a, b, xs, rfl, rfl, ha, hb, q⟩ := h
  cases rx
  cases ry
  obtain ⟨its, rv, p, _⟩ := I.list ha
  obtain ⟨its2, rv2, p2, _⟩ := I.list hb
  cases rv2
  cases xs with
  | nil =>
    cases rv
    refine SeqAt.eq_listAt (e := fun _ => true) p.isList p2.isList rfl (by omega) (fun j h1 _ => absurd h1 (Nat.not_lt_zero _)) ?_
    exact ⟨.bl _, H, I, rfl, q⟩
  | cons x xs =>
    have hl := rv.length
    refine SeqAt.eq_list_lengthsAt p.isList p2.isList ?_ (by omega) ?_
    · rw [bne_iff_ne]
      simp only [List.size_toArray, List.length_nil]
      rw [← hl]
      simp
    · exact ⟨.bl _, H, I, rfl, q⟩
def rNeNil (K : PySem.W.Frag) : R2 := fun x y H Q => ∃ a b xs, x = .ref a ∧ y = .ref b ∧ SqL K H a xs ∧ SqL K H b [] ∧ Q (.bl (!xs.isEmpty)) H
section
variable {X : Cx} {K : PySem.W.Frag}
theorem op_eqNilk (hK : X.K = K) (hu : X.A.units + 64 < cLine) : OpR X (compareOp .Eq) (rEqNil K) := hK ▸ op_eqNil hu
theorem op_catTBk (hK : X.K = K) : OpR X (binaryOp .Add) (rCatTB K) := hK ▸ op_catTB
theorem call_reprk (hK : X.K = K) (hg : X.A.guards = some []) (hu : X.A.units + 64 < cLine) : CallR X (.builtin "repr") (rReprF K) := hK ▸ call_repr hg hu
theorem sl_tupBk (hK : X.K = K) : SlR X (rSlTB K) := hK ▸ sl_tupB
end
theorem acc_new {H5 H' : Hp} {pD : Addr} {ws : List V} {y : V} (nD : H5 pD = none) (t1 : Same H5 H') (e : H' pD = some (.lst ws)) (len : ws.length ≤ 900) :
    ∃ acc, H' pD = some (.lst acc) ∧ acc.length < sizeLine ∧ Same H5 (upd H' pD (.lst (acc ++ [y]))) ∧ (upd H' pD (.lst (acc ++ [y]))) pD = some (.lst (ws ++ [y])) := by
  refine ⟨ws, e, small1000 (by omega), fun b o z => ?_, upd_same⟩
  rw [upd_ne (ne_of_none z nD)]
  exact t1 _ _ z
theorem Same.seq {K : PySem.W.Frag} {H H' : Hp} {a : Addr} {xs : List V} (s : Same H H') (h : SqL K H a xs) : SqL K H' a xs := by
  rcases h with (h | ⟨o, h⟩) | h
  · exact .inl (.inl (s _ _ h))
  · exact .inl (.inr ⟨o, s _ _ h⟩)
  · exact .inr h
/-- a promise that nothing keeps: for a def's own calls at its last level -/
def spNever : Sp := fun _ _ _ _ => False
theorem never {P : Program} {w : World} {K : PySem.W.Frag} {mg : Str → Option Value} {base : Heap} {k : Nat} {f : Addr} {fd : FuncData} {ps : List Str} : FnG P w K mg base CX0 k f fd ps spNever :=
  ⟨fun _ _ _ _ h => h.elim, fun _ _ _ _ _ _ _ _ _ _ _ _ _ h => h.elim⟩
end Cl

namespace Cl
open PySem PySem.Spec PyProof.Rows L2
open GxR (TabB TabG Tabbed GenS inv_tab sh_eta)
/-! ### a tuple of tuples, walked -/
theorem letOwned_tupleiter {prog : Program} {w : World} {A : Around} {E : Value → Shared → Prop} {s : Shared} {elts : List Expr} {x1} {pos : Pos} {I l T : Addr} {i : Nat} {Q : Unit → Shared → Prop} (hit : s.heap.IsTupleIter I l i) (hQ : Q () s) :
    wpAny (model prog w) A (letOwnedTupleGo (.Tuple elts x1 pos) (.ref I) (.ref T)) Q E s := by
  obtain ⟨o, ho, hc, hd⟩ := hit
  unfold letOwnedTupleGo
  refine wpAny_bind (wpAny_load ho ?_)
  rw [hc, hd]
  show wpAny _ A (if (["enumerate", "zip", "dict_itemiterator", "dict_reverseitemiterator", "odict_iterator", "itertools.zip_longest", "itertools.pairwise"].contains "tuple_iterator" &&
      (#[.ref l, .int i 0] : Array Value)[0]? == some (rawInt T)) = true then _ else _) Q E s
  rw [if_neg (by
    intro h
    rw [show (["enumerate", "zip", "dict_itemiterator", "dict_reverseitemiterator", "odict_iterator", "itertools.zip_longest", "itertools.pairwise"].contains "tuple_iterator") = false from by decide, Bool.false_and] at h
    cases h)]
  exact wpAny_pure hQ
theorem walksTT {prog : Program} {w : World} {A : Around} (hh : A.handled = none) (I ax : Addr) (hne : ax ≠ I) (items : Array Value) (Ts : Nat → Addr) (vals : Nat → Array Value)
    (hit : ∀ j, j < items.size → items[j]? = some (.ref (Ts j))) (hTI : ∀ j, j < items.size → Ts j ≠ I) :
    WalksU prog w A I (I :: ax :: (List.range items.size).map Ts) [I] items.size (fun j v => j < items.size ∧ v = vals j)
      (fun j h => h.IsTupleIter I ax j ∧ h.IsTuple ax items ∧ ∀ k, k < items.size → h.IsTuple (Ts k) (vals k))
      (fun j T h => (j < items.size ∧ T = Ts j) ∧ h.IsTupleIter I ax (j + 1) ∧ h.IsTuple ax items ∧ ∀ k, k < items.size → h.IsTuple (Ts k) (vals k)) where
  sub := fun b hb => by simp at hb; simp [hb]
  frame := fun _ _ _ st hk => ⟨st.1.at fun o e => hk I (by simp) o e, st.2.1.at fun o e => hk ax (by simp) o e,
    fun k hk' => (st.2.2 k hk').at fun o e => hk (Ts k) (List.mem_cons_of_mem _ (List.mem_cons_of_mem _ (List.mem_map.mpr ⟨k, List.mem_range.mpr hk', rfl⟩))) o e⟩
  item := fun i s Q E hi st hQ => by
    refine wpAny_pyNext_tuple_item st.1 st.2.1 (x := .ref (Ts i)) (hit i hi) fun h' hit' hs' => ?_
    have tup : ∀ k, k < items.size → h'.IsTuple (Ts k) (vals k) := fun k hk' => (st.2.2 k hk').extBut hs'.extBut (hTI k hk')
    exact hQ (Ts i) (vals i) h' s.toks ⟨hi, rfl⟩ (tup i hi) ⟨⟨hi, rfl⟩, hit', st.2.1.extBut hs'.extBut hne, tup⟩ fun b o hb e => hs'.extBut b o (fun h => hb (by simp [h])) e
  go := fun _ _ _ _ _ s Q _ hm hQ => letOwned_tupleiter hm.2.1 (hQ s.heap hm.2 fun _ _ _ e => e)
  apart := fun j T _ hm hmem => by
    rcases List.mem_cons.mp hmem with e | e
    · exact hTI j hm.1.1 (hm.1.2 ▸ e)
    · cases e
  done := fun s Q E st hQ => wpAny_pyNext_tuple_end hh st.1 st.2.1 (by simp) fun h' he' => hQ h' s.toks fun b o hb e => he' b o (fun h => hb (by simp [h])) e
  self := fun _ _ _ _ st hQ => wpAny_pyIter_tupleiter st.1 hQ
/-! ### expressions of whole numbers, evaluated quietly -/
def Sees (P : Program) (w : World) (env : Env) (h : Heap) (e : Expr) (v : V) : Prop :=
  ∀ (A : Around) (E : Value → Shared → Prop) (Q : Value → Shared → Prop) (s : Shared), s.heap = h → (∀ u k, RelV v u → Q u { s with toks := k }) → wpAny (model P w) A (eval e env) Q E s
section
variable {P : Program} {w : World} {env : Env} {h : Heap} {x : Str} {a b : Expr} {i j : Int} {pos : Pos}
theorem sees_loc {m : Str → Option Value} {t : Tok} (hk : env.scope.kind = .function) (hl : env.scope.names.lookup x = some .local) (hn : h.Ns env.locals m) (hm : m x = some (.int i t)) (hd : (x == ("__debug__" : Str)) = false := by decide) : Sees P w env h (.Name x pos) (.int i) :=
  fun A E Q s hs q => wpAny_Name (wpAny_loadName_local hk hl (hs ▸ hn) hm (q _ s.toks ⟨t, rfl⟩)) hd
theorem sees_free {c : Addr} {t : Tok} (hk : env.scope.kind = .function) (hl : env.scope.names.lookup x = some .free) (hc : env.cells.lookup x = some c) (hv : h.IsCell c (some (.int i t))) (hd : (x == ("__debug__" : Str)) = false := by decide)
    (hcd : (x == ("__classdict__" : Str)) = false := by decide) : Sees P w env h (.Name x pos) (.int i) :=
  fun A E Q s hs q => wpAny_Name (wpAny_loadName_free hk hl hc (hs ▸ hv) (q _ s.toks ⟨t, rfl⟩) hcd) hd
theorem sees_int {k : Nat} : Sees P w env h (.Constant (.int i) k pos) (.int i) := fun A E Q s hs q => wpAny_Constant_int (q _ _ ⟨_, rfl⟩)
theorem sees_add (ha : Sees P w env h a (.int i)) (hb : Sees P w env h b (.int j)) : Sees P w env h (.BinOp a .Add b pos) (.int (i + j)) := fun A E Q s hs q => by
  refine wpAny_BinOp (ha A _ _ s hs fun u k r => hb A _ _ _ hs fun u' k' r' => ?_)
  obtain ⟨t, rfl⟩ := r
  obtain ⟨t', rfl⟩ := r'
  exact add_int (q _ _ ⟨_, rfl⟩)
theorem sees_mul (ha : Sees P w env h a (.int i)) (hb : Sees P w env h b (.int j)) (c : IntMulOk i j) : Sees P w env h (.BinOp a .Mult b pos) (.int (i * j)) := fun A E Q s hs q => by
  refine wpAny_BinOp (ha A _ _ s hs fun u k r => hb A _ _ _ hs fun u' k' r' => ?_)
  obtain ⟨t, rfl⟩ := r
  obtain ⟨t', rfl⟩ := r'
  exact mul_int (q _ _ ⟨_, rfl⟩) c
theorem sees_lt (ha : Sees P w env h a (.int i)) (hb : Sees P w env h b (.int j)) : Sees P w env h (.Compare a [.Lt] [b] pos) (.bl (decide (i < j))) := fun A E Q s hs q => by
  refine wpAny_Compare1 (ha A _ _ s hs fun u k r => hb A _ _ _ hs fun u' k' r' => ?_) (nomark b)
  obtain ⟨t, rfl⟩ := r
  obtain ⟨t', rfl⟩ := r'
  exact lt_int (q _ _ rfl)
theorem sees_gt (ha : Sees P w env h a (.int i)) (hb : Sees P w env h b (.int j)) : Sees P w env h (.Compare a [.Gt] [b] pos) (.bl (decide (j < i))) := fun A E Q s hs q => by
  refine wpAny_Compare1 (ha A _ _ s hs fun u k r => hb A _ _ _ hs fun u' k' r' => ?_) (nomark b)
  obtain ⟨t, rfl⟩ := r
  obtain ⟨t', rfl⟩ := r'
  exact gt_int (q _ _ rfl)
theorem sees_ge (ha : Sees P w env h a (.int i)) (hb : Sees P w env h b (.int j)) : Sees P w env h (.Compare a [.GtE] [b] pos) (.bl (decide (j ≤ i))) := fun A E Q s hs q => by
  refine wpAny_Compare1 (ha A _ _ s hs fun u k r => hb A _ _ _ hs fun u' k' r' => ?_) (nomark b)
  obtain ⟨t, rfl⟩ := r
  obtain ⟨t', rfl⟩ := r'
  exact ge_int (q _ _ rfl)
end
theorem cl_lookup {cells : List (Str × Addr)} {names : List (Str × NameKind)} {n : Str} {c : Addr} (h : (n, NameKind.free) ∈ names) (hc : cells.lookup n = some c) : (cloFrom cells names []).lookup n = some c := by
  have hm := cloFrom_has (cells := cells) (acc := []) h
  cases q : (cloFrom cells names []).lookup n with
  | none =>
    have : ∀ (L : List (Str × Addr)), L.lookup n = none → ∀ c, (n, c) ∉ L := fun L => by
      induction L with
      | nil => intro _ c z; cases z
      | cons y L ih =>
        obtain ⟨y1, y2⟩ := y
        intro e c z
        rw [List.lookup_cons] at e
        split at e
        · cases e
        · rename_i hb
          rcases List.mem_cons.mp z with z | z
          · cases z
            simp at hb
          · exact ih e c z
    exact absurd hm (this _ q _)
  | some c' =>
    have : ∀ (L : List (Str × Addr)) c', L.lookup n = some c' → (n, c') ∈ L := fun L => by
      induction L with
      | nil => intro c' z; cases z
      | cons y L ih =>
        obtain ⟨y1, y2⟩ := y
        intro c' e
        rw [List.lookup_cons] at e
        split at e
        · rename_i hb
          cases e
          rw [eq_of_beq hb]
          exact List.mem_cons_self ..
        · exact List.mem_cons_of_mem _ (ih _ e)
    rcases cloFrom_mem (this _ _ q) with z | ⟨_, z⟩
    · cases z
    · rw [z, hc]
      rfl
/-- a captured whole number -/
def CapI (cells : List (Str × Addr)) (h : Heap) (n : Str) (i : Int) : Prop := ∃ c t, cells.lookup n = some c ∧ h.IsCell c (some (.int i t))

theorem CapI.keeps {cells : List (Str × Addr)} {h h' : Heap} {n : Str} {i : Int} {P : Addr} {vs : Array Value} (x : CapI cells h n i) (hP : ∃ o, h.get? P = some o ∧ o.data = .fields vs) (k : ∀ b o, b ≠ P → h.get? b = some o → h'.get? b = some o) : CapI cells h' n i := by
  obtain ⟨c, t, e, o, g, d⟩ := x
  refine ⟨c, t, e, o, k c o (fun z => ?_) g, d⟩
  obtain ⟨o', g', d'⟩ := hP
  rw [z, g'] at g
  cases g
  rw [d] at d'
  cases d'
/-- the element: a test of the pair (x, y) and three captured whole numbers -/
def EltP (P : Program) (w : World) (scope : Scope) (xa xb n1 n2 n3 : Str) (elt : Expr) (C : Int → Int → Int → Int × Int → Prop) (f : Int → Int → Int → Int × Int → Bool) : Prop :=
  ∀ (cenv : Env) (h : Heap) (i1 i2 i3 x y : Int) (tx ty : Tok) (m : Str → Option Value), cenv.scope = scope → CapI cenv.cells h n1 i1 → CapI cenv.cells h n2 i2 → CapI cenv.cells h n3 i3 →
    h.Ns cenv.locals m → m xa = some (.int x tx) → m xb = some (.int y ty) → C i1 i2 i3 (x, y) → Sees P w cenv h elt (.bl (f i1 i2 i3 (x, y)))
structure GenP (env : Env) (scope : Scope) (xa xb n1 n2 n3 : Str) : Prop where
  kind : scope.kind = .function
  co : scope.isCoroutine = false
  cell : ∀ y ∈ scope.names, y.2 ≠ .cell
  dot : scope.names.lookup (".0" : Str) = some NameKind.local
  la : scope.names.lookup xa = some .local
  lb : scope.names.lookup xb = some .local
  ab : xa ≠ xb
  f1 : (n1, NameKind.free) ∈ scope.names
  f2 : (n2, NameKind.free) ∈ scope.names
  f3 : (n3, NameKind.free) ∈ scope.names
  free : ∀ y ∈ scope.names, y.2 = .free → y.1 = n1 ∨ y.1 = n2 ∨ y.1 = n3
  c1 : env.scope.names.lookup n1 = some .cell
  c2 : env.scope.names.lookup n2 = some .cell
  c3 : env.scope.names.lookup n3 = some .cell
  e1 : (env.cells.lookup n1).isSome = true
  e2 : (env.cells.lookup n2).isSome = true
  e3 : (env.cells.lookup n3).isSome = true
def tAllP (K : PySem.W.Frag) (P : Addr) (s1 s2 s3 : Nat) (C : Int → Int → Int → Int × Int → Prop) (f : Int → Int → Int → Int × Int → Bool) (te : TE) : TE := fun σ H Q => te σ H fun v H1 => ∃ (a : Addr) (vs : List V) (ps : List (Int × Int)) (i1 i2 i3 : Int), v = .ref a ∧ SqT K H1 a vs ∧ AllAt (At2 K H1) vs ps ∧
  σ[s1]? = some (some (.int i1)) ∧ σ[s2]? = some (some (.int i2)) ∧ σ[s3]? = some (some (.int i3)) ∧ (∀ p ∈ ps, C i1 i2 i3 p) ∧ TabG H1 P ∧ ∀ H2, Same H1 H2 → TabG H2 P → Q (.bl (ps.all (f i1 i2 i3))) H2
theorem cap_of {X : Cx} {pins : List (Addr × Obj)} {σ : L2.St} {H : Hp} {s : Shared} {i : Nat} {n : Str} {z : Int} (I : Inv X pins σ H s) (hN : X.N[i]? = some n) (hc : X.env.scope.names.lookup n = some .cell) (e : σ[i]? = some (some (.int z))) :
    CapI X.env.cells s.heap n z := by
  obtain ⟨m, hn, hl⟩ := I.loc
  obtain ⟨u, r, l⟩ := hl i n _ hN e (.inr (.inl hc))
  obtain ⟨t, rfl⟩ := r
  rcases l with ⟨hk, _⟩ | ⟨_, c, hc', hcell⟩
  · have : X.env.scope.names.lookup n = some .local := hk
    rw [hc] at this
    cases this
  · exact ⟨c, t, hc', hcell⟩

section
variable {X : Cx}
theorem pe_allP {c P : Addr} {elt iter : Expr} {xa xb n1 n2 n3 : Str} {pa pb pt p pos gpos : Pos} {kt : Nat} {scope : Scope} {te : TE} {k s1 s2 s3 : Nat} {C : Int → Int → Int → Int × Int → Prop} {f : Int → Int → Int → Int × Int → Bool}
    (hr : Room k X.A) (hg : Gl X "all") (hm : X.mg "all" = none) (TB : TabB X.base X.mg c P) (hcode : X.env.code = .ref c) (hi : PE X iter te) (S : GenP X.env scope xa xb n1 n2 n3)
    (hN1 : X.N[s1]? = some n1) (hN2 : X.N[s2]? = some n2) (hN3 : X.N[s3]? = some n3) (hel : EltP X.prog X.w scope xa xb n1 n2 n3 elt C f)
    (hs : ∀ v, genFold iter X.env v = pure v := by intro _; rfl)
    (he : starEach [.GeneratorExp elt [⟨.Tuple [.Name xa pa, .Name xb pb] kt pt, iter, [], 0⟩] scope gpos] X.env = (false, eval (.GeneratorExp elt [⟨.Tuple [.Name xa pa, .Name xb pb] kt pt, iter, [], 0⟩] scope gpos) X.env) :: starEach [] X.env := by rfl) :
    PE X (.Call (.Name "all" p) [.GeneratorExp elt [⟨.Tuple [.Name xa pa, .Name xb pb] kt pt, iter, [], 0⟩] scope gpos] [] pos) (tAllP X.K P s1 s2 s3 C f te) := by
  have isS : ∀ {o : Option Addr}, o.isSome = true → ∃ c, o = some c := fun {o} h => by cases o with
    | none => cases h
    | some c => exact ⟨c, rfl⟩
  have hfree : ∀ y ∈ scope.names, y.2 = .free → ∃ c, X.env.cells.lookup y.1 = some c := fun y hy e => by
    rcases S.free y hy e with z | z | z <;> rw [z]
    · exact isS S.e1
    · exact isS S.e2
    · exact isS S.e3
  refine ⟨fun pins s σ H Q I h => ?_⟩
  refine wpAny_Call_Name_kw (ld_blt I hg hm PyProof.Rows.boot_all ?_)
  refine PyProof.Rows.callWith_builtin1 ?_ he (by rfl)
  rw [he]
  show wpAny _ _ (spliced ((false, eval (.GeneratorExp elt [⟨.Tuple [.Name xa pa, .Name xb pb] kt pt, iter, [], 0⟩] scope gpos) X.env) :: backTo pos (starEach [] X.env))) _ _ s
  refine Calls.spliced_cons ?_
  refine wpAny_GeneratorExp_walksQTD hr.hd S.co (closure_ok hfree) S.cell S.dot S.la S.lb S.ab S.kind (by have := hr.dp; omega) ?_ hs
  refine thn (hi.run pins s σ H _ I h) fun xv s1' ⟨v, H1, I1, r1, q1⟩ => ?_
  obtain ⟨a, vs, prs, i1, i2, i3, rfl, hS, hall, g1, g2, g3, hC, hT, q⟩ := q1
  cases r1
  have k1 := cap_of I1 hN1 S.c1 g1
  have k2 := cap_of I1 hN2 S.c2 g2
  have k3 := cap_of I1 hN3 S.c3 g3
  have cl : ∀ {n : Str} {i : Int}, (n, NameKind.free) ∈ scope.names → CapI X.env.cells s1'.heap n i → CapI (cloFrom X.env.cells scope.names []) s1'.heap n i := fun h ⟨c, t, e, z⟩ => ⟨c, t, cl_lookup h e, z⟩
  replace k1 := cl S.f1 k1
  replace k2 := cl S.f2 k2
  replace k3 := cl S.f3 k3
  clear cl
  obtain ⟨ps, hP, ht⟩ := id hT
  obtain ⟨its, rv, tup, hz⟩ := I1.tuple hS
  have lx := rv.length
  have lp := hall.length
  have hpair : ∀ j, ∃ z : Addr × Array Value, j < its.length → ∃ x y t1 t2, its[j]? = some (.ref z.1) ∧ s1'.heap.IsTuple z.1 z.2 ∧ z.2 = #[.int x t1, .int y t2] ∧ prs[j]? = some (x, y) := fun j => by
    by_cases hj : j < its.length
    · obtain ⟨u, eu, ru⟩ := rv.get (List.getElem?_eq_getElem (show j < vs.length by omega))
      obtain ⟨pr, ep, b, eb, hb⟩ := hall.get (List.getElem?_eq_getElem (show j < vs.length by omega))
      rw [eb] at ru
      cases ru
      obtain ⟨its2, rv2, tup2, _⟩ := I1.tuple hb
      cases rv2 with
      | cons r1 rr =>
        cases rr with
        | cons r2 rr =>
          cases rr
          obtain ⟨t1, rfl⟩ := r1
          obtain ⟨t2, rfl⟩ := r2
          exact ⟨(b, #[.int pr.1 t1, .int pr.2 t2]), fun _ => ⟨pr.1, pr.2, t1, t2, eu, tup2, rfl, ep⟩⟩
    · exact ⟨(0, #[]), fun z => absurd z hj⟩
  obtain ⟨F, hF⟩ := Classical.skolem.mp hpair
  refine wpAny_pyIter_tuple tup ?_
  have hPs : s1'.heap.get? P = some { cls := .none, data := .fields ps } := I1.hok P _ hP
  have hPlt : P < s1'.heap.objs.size := Heap.lt_size hPs
  have halt : a < s1'.heap.objs.size := by obtain ⟨o, e, _⟩ := id tup; exact Heap.lt_size e
  have haP : a ≠ P := fun e => by
    obtain ⟨o, e1, e2, _⟩ := id tup
    rw [e, hPs] at e1
    cases e1
    cases e2
  have hTlt : ∀ j, j < its.length → (F j).1 < s1'.heap.objs.size ∧ (F j).1 ≠ P := fun j hj => by
    obtain ⟨_, _, _, _, _, tj, _, _⟩ := hF j hj
    obtain ⟨o, e1, e2, _⟩ := id tj
    refine ⟨Heap.lt_size e1, fun e => ?_⟩
    rw [e, hPs] at e1
    cases e1
    cases e2
  generalize hito : ({ cls := .type "tuple_iterator", data := .fields #[.ref a, .int 0 0] } : Obj) = ito
  have hP2 : (s1'.heap.push ito).get? P = some { cls := .none, data := .fields ps } := Heap.get?_push_of_some _ hPs
  have cd : PySem.W.CodeHd (s1'.heap.push ito) c P := TB.code.keeps fun b u e => Heap.get?_push_of_some _ (I1.bk b u e)
  have lim2 : (s1'.heap.push ito).NoLimit := I1.nolimit.push ito
  have sz2 : (s1'.heap.push ito).objs.size = s1'.heap.objs.size + 1 := Heap.size_push ..
  have cont : ∀ (code : Value) (h3 : Heap) (tk : Nat) (ps' : Array Value), Heap.ExtBut P (s1'.heap.push ito) h3 → (s1'.heap.push ito).objs.size ≤ h3.objs.size → h3.get? P = some { cls := .none, data := .fields ps' } → (∃ more, ps' = ps ++ more) → TriplesOk ps'.toList →
      wpAny (model X.prog X.w) X.A (builtinsFor X.env.globals X.env.builtins) (fun bi s₄ =>
        ∃ Ia fp wr n₀ Pt St₀ Mid pz F, Value.ref s1'.heap.objs.size = .ref Ia ∧ (∀ A' : Around, A'.handled = none → WalksU X.prog X.w A' Ia fp wr n₀ Pt St₀ Mid) ∧ (∀ i vals, Pt i vals → ∃ va vb, vals = #[va, vb]) ∧ St₀ 0 s₄.heap ∧ (∀ b ∈ fp, b < s₄.heap.objs.size) ∧ s₄.heap.NoLimit ∧ cStatics ∉ wr ∧
          (∀ href : Heap, (∀ b o, s₄.heap.get? b = some o → href.get? b = some o) →
            QuietGenTD X.prog X.w (genEnv scope (cloFrom X.env.cells scope.names []) s₄.heap.objs.size code bi X.env) xa xb [] elt (List.range s₄.heap.objs.size) wr Pt pz F href (X.A.depth + 1) (X.A.units + 8)) ∧
          (∀ a h₅ tk gs, gs.bare = true → s₄.heap.objs.size < a → h₅.objs.size = a + 1 → (∀ b o, s₄.heap.get? b = some o → h₅.get? b = some o) →
            WalksS X.prog X.w X.A.in4 a (a :: s₄.heap.objs.size :: List.range s₄.heap.objs.size) (s₄.heap.objs.size :: wr) (GenOnlyQ s₄.gens.size) (passing pz n₀ 0).length
              (fun j y => ∃ i, (passing pz n₀ 0)[j]? = some i ∧ F i y) (GenAt X.prog X.w X.A.in4 a s₄.gens.size s₄.heap.objs.size (List.range s₄.heap.objs.size) wr pz n₀ F) →
            GenAt X.prog X.w X.A.in4 a s₄.gens.size s₄.heap.objs.size (List.range s₄.heap.objs.size) wr pz n₀ F 0 { s₄ with gens := s₄.gens.push gs, toks := tk, heap := h₅ } →
            wpAny (model X.prog X.w) X.A (spliced (backTo pos (starEach [] X.env))) (fun vs s2 => wpAny (model X.prog X.w) X.A (call (.builtin "all") (.ref a :: vs)) (EP X pins σ Q) X.xe s2) X.xe { s₄ with gens := s₄.gens.push gs, toks := tk, heap := h₅ })) X.xe { s1' with heap := h3, toks := tk } := by
    intro code h3 tk ps' hx hsz hP3 hmore ht3
    obtain ⟨bm, ob, e1, e2, e3, e4, e5, e6, e7, e8⟩ := TB.bm
    have keep3 : ∀ b u, b ≠ P → s1'.heap.get? b = some u → h3.get? b = some u := fun b u hb e => hx b u hb (Heap.get?_push_of_some _ e)
    have hcP : cStatics ≠ P := fun e => by
      obtain ⟨_, hns, _⟩ := I1.nolimit
      obtain ⟨o', es, ep, ho, hd, _⟩ := hns
      rw [e, hPs] at ho
      cases ho
      cases hd
    have hcl : cStatics < s1'.heap.objs.size := let ⟨_, hns, _⟩ := I1.nolimit; hns.lt
    have szle : s1'.heap.objs.size < h3.objs.size := by rw [sz2] at hsz; exact hsz
    refine wpAny_builtinsFor (m := X.mg) (by rw [I1.ok.glob]; exact ((I1.mod.glob.keeps I1.bk).push ito).extBut hx TB.gP) e1 e2 (keep3 _ _ e4 (I1.bk _ _ e5)) e6 e7 e8 ?_
    refine ⟨s1'.heap.objs.size, _, [s1'.heap.objs.size], its.toArray.size, _, _, _, (fun _ => true), (fun i y => i < its.toArray.size ∧ y = .bool (f i1 i2 i3 (prs.getD i (0, 0)))), rfl,
      fun A' hA => walksTT hA s1'.heap.objs.size a (Nat.ne_of_lt halt) its.toArray (fun j => (F j).1) (fun j => (F j).2) (fun j hj => ?_) (fun j hj => ?_), ?_, ⟨?_, ?_, ?_⟩, ?_, lim2.extBut hx hcP, ?_, ?_, ?_⟩
    · have hj : j < its.length := by simpa using hj
      obtain ⟨_, _, _, _, ej, _⟩ := hF j hj
      simpa using ej
    · have hj : j < its.length := by simpa using hj
      exact Nat.ne_of_lt (hTlt j hj).1
    · rintro i vals ⟨hi', rfl⟩
      have hi' : i < its.length := by simpa using hi'
      obtain ⟨x, y, t1, t2, _, _, e, _⟩ := hF i hi'
      exact ⟨_, _, e⟩
    · refine ⟨ito, hx _ _ (fun z => Nat.ne_of_lt hPlt z.symm) (Heap.get?_push_size _ (by rw [← hito]; rfl)), by rw [← hito], by rw [← hito]; rfl⟩
    · obtain ⟨o, g1, g2, g3⟩ := id tup
      exact ⟨o, keep3 a o haP g1, g2, g3⟩
    · intro j hj
      have hj : j < its.length := by simpa using hj
      obtain ⟨_, _, _, _, _, ⟨o, g1, g2, g3⟩, _⟩ := hF j hj
      exact ⟨o, keep3 _ o (hTlt j hj).2 g1, g2, g3⟩
    · intro b hb
      show b < h3.objs.size
      rcases List.mem_cons.mp hb with z | z
      · rw [z]; exact szle
      · rcases List.mem_cons.mp z with z | z
        · rw [z]; exact Nat.lt_trans halt szle
        · obtain ⟨j, hj, rfl⟩ := List.mem_map.mp z
          have hj : j < its.length := by simpa using hj
          exact Nat.lt_trans (hTlt j hj).1 szle
    · intro z
      rw [List.mem_singleton.mp z] at hcl
      exact Nat.lt_irrefl _ hcl
    · intro href hhref
      refine ⟨fun A' E' i va vb s₂ m₂ hA hD hU hPv hn hma hmb hk => ?_, fun A' E' i va vb s₂ m₂ hA hD hU hPv hp hn hma hmb hk => ?_⟩
      · simp only [List.forIn_nil]
        exact wpAny_pure ⟨rfl, GxR.keeps_refl _⟩
      · have key : ∀ b o, b ≠ P → s1'.heap.get? b = some o → s₂.heap.get? b = some o := fun b o hb e =>
          hk b (List.mem_range.mpr (Heap.lt_size (keep3 b o hb e))) (fun z => by
            have l := Heap.lt_size e
            rw [List.mem_singleton.mp z] at l
            exact Nat.lt_irrefl _ l) o (hhref b o (keep3 b o hb e))
        obtain ⟨hi0, ev⟩ := hPv
        have hi' : i < its.length := by simpa using hi0
        obtain ⟨x, y, t1, t2, _, _, e, ep⟩ := hF i hi'
        rw [e] at ev
        cases ev
        have hPd : ∃ o, s1'.heap.get? P = some o ∧ o.data = .fields ps := ⟨_, hPs, rfl⟩
        have see := hel (genEnv scope (cloFrom X.env.cells scope.names []) h3.objs.size code builtinsNs X.env) s₂.heap i1 i2 i3 x y t1 t2 m₂ rfl (k1.keeps hPd key) (k2.keeps hPd key) (k3.keeps hPd key) hn hma hmb (hC _ (List.mem_of_getElem? ep))
        refine see A' E' _ s₂ rfl fun u kk r => ?_
        cases r
        refine ⟨⟨hi0, ?_⟩, GxR.keeps_tok _ _⟩
        rw [List.getD_eq_getElem?_getD, ep]
        rfl
    · intro g h5 tk5 gs hgb hag hsz5 hk5 W5 hat
      simp only [GxR.passing_true, List.length_range] at W5
      refine Calls.spliced_nil ?_
      have W := W5.in4_1
      refine call_all_walkS (W.self 0 _ _ _ hat ⟨g, _, _, _, _, _, _, fun j => f i1 i2 i3 (prs.getD j (0, 0)), rfl, W, hat, ?_, fun s' hm => ?_⟩)
      · intro j y sj Qj Ej hy hQj
        obtain ⟨i, hij, hi2, rfl⟩ := hy
        try rw [GxR.passing_true] at hij
        obtain ⟨hj, ej⟩ := List.getElem?_eq_some_iff.mp hij
        rw [List.getElem_range] at ej
        subst ej
        exact wpAny_truthy_bool hQj
      · obtain ⟨more, em⟩ := hmore
        have nwr : ∀ b u, s1'.heap.get? b = some u → b ∉ h3.objs.size :: [s1'.heap.objs.size] := fun b u e hb => by
          have hl := Heap.lt_size e
          simp only [List.mem_cons, List.not_mem_nil, or_false] at hb
          rcases hb with z | z
          · rw [z] at hl
            have h9 : (h3.objs.size : Nat) < s1'.heap.objs.size := hl
            omega
          · rw [z] at hl
            exact Nat.lt_irrefl _ hl
        have J := inv_tab (more := more) (h' := s'.heap) (g' := s'.gens) (d' := s'.drawn) (t' := s'.toks) I1 hP (fun b u hb e => hm.heap b u (nwr b u e) (hk5 b u (keep3 b u hb e)))
          (by rw [← em]; exact hm.heap P _ (nwr P _ hPs) (hk5 P _ hP3)) (AllBare.movedS (I1.bare.push hgb) hm)
        rw [sh_eta s1' s' hm.os] at J
        have tb : Tabbed P H1 (upd H1 P (.tbl (ps ++ more))) := ⟨⟨ps ++ more, upd_same, by rw [← em]; exact ht3⟩, fun b hb => upd_ne hb⟩
        refine ⟨.bl _, _, J, ?_, q _ (Same.tabbed hT tb) tb.1⟩
        show Value.bool _ = Value.bool _
        have hall2 := all_range (prs.map (f i1 i2 i3))
        rw [List.length_map, List.all_map] at hall2
        have e9 : (List.range its.toArray.size).all (fun j => f i1 i2 i3 (prs.getD j (0, 0))) = (List.range prs.length).all fun j => (prs.map (f i1 i2 i3)).getD j false := by
          rw [show its.toArray.size = prs.length by simp; omega, Bool.eq_iff_iff, List.all_eq_true, List.all_eq_true]
          constructor
          · intro z j hj
            have := z j hj
            have hj := List.mem_range.mp hj
            rw [List.getD_eq_getElem?_getD, List.getElem?_eq_getElem hj] at this
            rw [List.getD_eq_getElem?_getD, List.getElem?_map, List.getElem?_eq_getElem hj]
            exact this
          · intro z j hj
            have := z j hj
            have hj := List.mem_range.mp hj
            rw [List.getD_eq_getElem?_getD, List.getElem?_map, List.getElem?_eq_getElem hj] at this
            rw [List.getD_eq_getElem?_getD, List.getElem?_eq_getElem hj]
            exact this
        rw [e9, hall2]
        rfl
  refine ⟨lim2, ?_⟩
  cases hf : codeAmong gpos ps.toList with
  | none =>
    refine wpAny_genexprCodeX hcode (cd.code hP2 ht) (cd.tab hP2) hf fun c' h' tk hx hge hlt hco' _ htab' _ => ?_
    obtain ⟨o1, vs, f1, tf, fl, tg, inF, tx, tt, op, _, _, _, _, _, _, _, _, _, htr, _⟩ := hco'
    exact cont _ h' tk _ hx (Nat.le_trans hge (Nat.le_of_lt hlt)) htab'.2 ⟨_, rfl⟩ htr
  | some cv =>
    refine wpAny_genexprCode_hit hcode (cd.code hP2 ht) hf ?_
    exact cont cv (s1'.heap.push ito) s1'.toks ps (Heap.ExtBut.refl _ _) (Nat.le_refl _) hP2 ⟨#[], by simp⟩ ht
end
/-! ### thing == () -/
def rEqTNil (K : PySem.W.Frag) : R2 := fun x y H Q => ∃ a b xs, x = .ref a ∧ y = .ref b ∧ SqT K H a xs ∧ SqT K H b [] ∧ Q (.bl xs.isEmpty) H
theorem op_eqTNil {X : Cx} (hu : X.A.units + 64 < cLine) : OpR X (compareOp .Eq) (rEqTNil X.K) := by
  intro pins s σ H x y v u Q I rx ry h
  obtain ⟨a, b, xs, rfl, rfl, ha, hb, q⟩ := h
  cases rx
  cases ry
  obtain ⟨its, rv, p, _⟩ := I.tuple ha
  obtain ⟨its2, rv2, p2, _⟩ := I.tuple hb
  cases rv2
  refine SeqAt.eq_tupleAt (e := fun _ => true) p p2 (by omega) (fun j h1 h2 => absurd h2 (Nat.not_lt_zero _)) ?_
  have hl := rv.length
  refine ⟨.bl _, H, I, ?_, q⟩
  show Value.bool _ = Value.bool _
  cases xs with
  | nil =>
    have : its = [] := List.eq_nil_of_length_eq_zero hl.symm
    subst this
    rfl
  | cons x xs =>
    cases its with
    | nil => simp at hl
    | cons i its => simp
end Cl

namespace Cl
open PySem PySem.Spec PyProof.Rows L2
/-! ### comprehensions with two fors over tuples -/
theorem genT {K : PySem.W.Frag} {a : Addr} {xs : List V} {H0 : Hp} {Qd : Hp → Prop} {BODY : V → Hp → (Hp → Prop) → Prop} (Pv : Nat → Hp → Prop) (h0 : Pv 0 H0) (hl : ∀ i H, i ≤ xs.length → Pv i H → SqT K H a xs)
    (hs : ∀ i x H, xs[i]? = some x → Pv i H → BODY x H (Pv (i + 1))) (hd : ∀ H, Pv xs.length H → Qd H) :
    ∃ W : Nat → Nat → Hp → Prop, (∃ m, W 0 m H0) ∧ ∀ i m H, W i m H → ((Itt K a).stop i H ∧ Qd H) ∨ ((Itt K a).go i H ∧ ∃ Nx : Hp → Prop, (∀ H', Nx H' → ∃ m', m' < m ∧ W (i + 1) m' H') ∧ ∀ x H', (Itt K a).yld i H x H' → BODY x H' Nx) := by
  refine ⟨fun i m H => m = xs.length - i ∧ i ≤ xs.length ∧ Pv i H, ⟨xs.length, by simp, Nat.zero_le _, h0⟩, ?_⟩
  rintro i m H ⟨rfl, hi, p⟩
  have q := hl i H hi p
  by_cases hlt : i < xs.length
  · refine .inr ⟨⟨xs, xs[i], q, List.getElem?_eq_getElem hlt⟩, Pv (i + 1), fun H' p' => ⟨xs.length - (i + 1), by omega, rfl, hlt, p'⟩, fun x H' y => ?_⟩
    obtain ⟨e, y⟩ := y
    subst e
    exact hs i x _ (y xs q) p
  · have e : i = xs.length := by omega
    subst e
    exact .inl ⟨⟨xs, q, Nat.le_refl _⟩, hd H p⟩
section
variable {X : Cx} {K : PySem.W.Frag} {tg e : Expr} {te : TE}
theorem pi_tupk (hK : X.K = K) (h : PE X e te) : PI X tg e (iTup K te) := hK ▸ pi_tup h
theorem pi_listk (hK : X.K = K) (h : PE X e te) : PI X tg e (iList K te) := hK ▸ pi_list h
end
end Cl

namespace Cl
open PySem PySem.Spec PyProof.Rows L2
/-! ### zip of two tuples within a comprehension -/
theorem walk_zipT {K : PySem.W.Frag} {a b : Addr} {xs ys : List V} {n : Nat} (hn : n = min xs.length ys.length) : Walk (RZ.ItzT K a b) n (fun H => SqT K H a xs ∧ SqT K H b ys) (YPair (fun i => xs[i]?) (fun i => ys[i]?)) := by
  subst hn
  refine ⟨fun i _ hi q => ?_, fun _ q => ⟨xs, ys, q.1, q.2, by omega⟩, fun i H v H' _ q y => ?_⟩
  · have h1 : i < xs.length := by omega
    have h2 : i < ys.length := by omega
    exact ⟨xs, ys, xs[i], ys[i], q.1, q.2, by simp [h1], by simp [h2]⟩
  · obtain ⟨T, x, z, h1, h2, h3, h4, h5⟩ := y
    exact ⟨T, x, z, h1, h2, h3, h4 xs q.1, h5 ys q.2⟩
def lcZT {K : PySem.W.Frag} {a b : Addr} {xs ys : List V} {n : Nat} {g : TG} {tt : TT} {te : TE} {vs : List Nat} {σ : L2.St} {H1 : Hp} {D : Addr} {Qd : Hp → Prop} (hn : n = min xs.length ys.length)
    (Pv : Nat → Hp → Prop) (hD : H1 D = none) (h0 : ∀ H', Same H1 H' → H' D = some (.lst []) → Pv 0 H') (hG : ∀ i H, i ≤ n → Pv i H → SqT K H a xs ∧ SqT K H b ys)
    (hs : ∀ i x H H', i < n → Pv i H → YPair (fun i => xs[i]?) (fun i => ys[i]?) i H x H' → g x (wipe σ vs) H' fun σ2 H2 => wipe σ2 vs = wipe σ vs ∧ tt σ2 H2 fun b H3 =>
      if b = true then te σ2 H3 fun y H4 => ∃ acc, H4 D = some (.lst acc) ∧ acc.length < sizeLine ∧ Pv (i + 1) (upd H4 D (.lst (acc ++ [y]))) else Pv (i + 1) H3)
    (hd : ∀ H, Pv n H → Qd H) := lc_it (walk_zipT (K := K) (a := a) (b := b) hn) (g := g) (tt := tt) (te := te) (vs := vs) (σ := σ) (H1 := H1) (D := D) (Qd := Qd) Pv (h0 _ (same_new hD) upd_same) hG hs hd
end Cl

set_option maxHeartbeats 0
namespace Cl
open PySem PySem.Spec PyProof.Rows L2
/-! ### a lambda of one parameter, made within a def, handed to max as key -/
/-- the table at P: what it tells are the objects at cs -/
def TabAt (P : Addr) (cs : List Addr) : HO := .ext fun h => ∃ ps : Array Value, h.get? P = some { cls := .none, data := .fields ps } ∧ TriplesOk ps.toList ∧ ∀ (pos : Pos) (cv : Value), codeAmong pos ps.toList = some cv → ∃ c ∈ cs, cv = .ref c
/-- the lambda table at P stands: its codes bear the name q -/
def LT (H : Hp) (P : Addr) (q : Str) : Prop := ∃ cs : List Addr, H P = some (TabAt P cs) ∧ ∀ c ∈ cs, c ≠ P ∧ H c = some (LamX.CodeO c q)
theorem Same.lt {H H' : Hp} {P : Addr} {q : Str} (s : Same H H') (t : LT H P q) : LT H' P q := by
  obtain ⟨cs, h1, h2⟩ := t
  exact ⟨cs, s _ _ h1, fun c hc => ⟨(h2 c hc).1, s _ _ (h2 c hc).2⟩⟩
/-- all but the table at P stays -/
def SameX (P : Addr) (H H' : Hp) : Prop := ∀ b o, b ≠ P → H b = some o → Keep (H' b) o
theorem SameX.trans {P : Addr} {H H1 H2 : Hp} (a : SameX P H H1) (b : SameX P H1 H2) : SameX P H H2 := fun c o n h => by
  have k := a c o n h
  cases o with
  | tbl ps => exact fun t => let ⟨ps1, e1, t1⟩ := k t; b c (.tbl ps1) n e1 t1
  | _ => exact b c _ n k
theorem Same.x {P : Addr} {H H' : Hp} (a : Same H H') : SameX P H H' := fun b o _ e => a b o e
section
variable {X : Cx} {pins : List (Addr × Obj)} {σ : L2.St} {H : Hp} {s : Shared}
theorem inv_tabE {P c : Addr} {q : Str} {cs : List Addr} {ps more : Array Value} {h' : Heap} {t' : Nat} (I : Inv X pins σ H s) (hP : H P = some (TabAt P cs)) (k : ∀ b o, b ≠ P → s.heap.get? b = some o → h'.get? b = some o)
    (hm : h'.get? P = some { cls := .none, data := .fields (ps ++ more) }) (ht : TriplesOk (ps ++ more).toList) (ha : ∀ (pos : Pos) (cv : Value), codeAmong pos (ps ++ more).toList = some cv → ∃ c' ∈ c :: cs, cv = .ref c') (hc : s.heap.objs.size ≤ c) (ho : ∃ (oc : Obj) (vs : Array Value) (t : Tok), h'.get? c = some oc ∧ oc.data = .fields vs ∧ vs[1]? = some (.str q t)) :
    Inv X pins σ (upd (upd H P (TabAt P (c :: cs))) c (LamX.CodeO c q)) { s with heap := h', toks := t' } := by
  have nC : H c = none := I.hok.fresh hc
  have nPc : P ≠ c := ne_of_none hP nC
  have at_ : ∀ b, b ≠ P → b ≠ c → upd (upd H P (TabAt P (c :: cs))) c (LamX.CodeO c q) b = H b := fun b h1 h2 => by rw [upd_ne h2, upd_ne h1]
  have atP : upd (upd H P (TabAt P (c :: cs))) c (LamX.CodeO c q) P = some (TabAt P (c :: cs)) := by rw [upd_ne nPc, upd_same]
  have nP : ∀ b u, H b = some u → (∀ φ, u ≠ .ext φ) → b ≠ P := fun b u e q z => by
    rw [z, hP] at e
    exact q _ (Option.some.inj e).symm
  have nN : ∀ b, H b = none → b ≠ P := fun b e z => by
    rw [z, hP] at e
    cases e
  have lt' : ∀ b o, s.heap.get? b = some o → b ≠ c := fun b o e z => by
    rw [z] at e
    exact Nat.lt_irrefl _ (Nat.lt_of_lt_of_le (Heap.lt_size e) hc)
  have sm : ∀ b u, H b = some u → b ≠ c := fun b u e => ne_of_none e nC
  refine I.step (g' := s.gens) (d' := s.drawn) (ch := []) (fun b hb => absurd hb (by simp)) (fun b o _ _ _ e n => k b o (nN b n) e) (fun b o _ _ _ e n => ⟨o.slots, k b o (nN b n) e⟩)
    (fun b o _ e n => by rw [at_ b (nN b n) (lt' b o e)]; exact n) (fun b o _ e => ?_) (fun b xs e => by rw [at_ b (nP b _ e (fun q z => by cases z)) (sm b _ e)]; exact e) (fun b o u e => by rw [at_ b (nP b _ e (fun q z => by cases z)) (sm b _ e)]; exact e) (fun b qs e => ?_) (fun m hn => ?_) (fun b u e => ?_) I.bare
  · by_cases hb : b = P
    · rw [hb]
      exact ⟨_, hm⟩
    · exact ⟨o, k b o hb e⟩
  · rw [at_ b (nP b _ e (fun q z => by cases z)) (sm b _ e), e]
    exact ⟨#[], by simp⟩
  · obtain ⟨ob, es, ep, ho, r⟩ := hn
    exact ⟨ob, es, ep, k _ ob (nN _ I.free) ho, r⟩
  · by_cases hb : b = c
    · rw [hb, upd_same] at e
      cases e
      rw [hb]
      obtain ⟨oc, vs, t, e1, e2, e3⟩ := ho
      exact ⟨⟨oc, vs, t, e1, e2, e3⟩, ⟨oc, e1⟩, fun h1 h2 ⟨oc, vs, t, a, b, c⟩ st => ⟨oc, vs, t, st _ a, b, c⟩⟩
    · by_cases hb2 : b = P
      · rw [hb2, atP] at e
        cases e
        rw [hb2]
        exact ⟨⟨_, hm, ht, ha⟩, ⟨_, hm⟩, fun h1 h2 ⟨ps, a, b, c⟩ st => ⟨ps, st _ a, b, c⟩⟩
      · rw [at_ b hb2 hb] at e
        refine (I.hok b u e).stay (fun d v hd q => k d v ?_ q) (fun d q => by rw [at_ d (nP d _ q (fun q z => by cases z)) (sm d _ q)]; exact q) fun d xs q => by rw [at_ d (nP d _ q (fun q z => by cases z)) (sm d _ q)]; exact q
        rcases hd with z | z
        · rw [z]
          exact hb2
        · exact nP d _ z (fun q z => by cases z)
/-- the lambda's object -/
def LamO (X : Cx) (params : Arguments) (body : Expr) (scope : Scope) (c' f : Addr) : HO := .ext fun h => ∃ pm ctv : Value, h.get? f = some (PySem.W.kla_obj "<lambda>" (X.env.qual ++ "<lambda>") params body scope (cloFrom X.env.cells scope.names []) pm c' ctv)
theorem lam_make3 {c P : Addr} {params : Arguments} {body : Expr} {scope : Scope} {pos : Pos} {E : Value → Shared → Prop} {Q : Value → Shared → Prop} (I : Inv X pins σ H s) (TB : GxR.TabB X.base X.mg c P) (hcode : X.env.code = .ref c)
    (hT : LT H P (X.env.qual ++ "<lambda>")) (hdef : defaultsOf params X.env = ([], [])) (hfree : ∀ y ∈ scope.names, y.2 = .free → ∃ c, X.env.cells.lookup y.1 = some c)
    (h : ∀ (f c' : Addr) (H1 : Hp) (s' : Shared), Inv X pins σ H1 s' → SameX P H H1 → LT H1 P (X.env.qual ++ "<lambda>") →
      H1 f = some (LamO X params body scope c' f) → H1 c' = some (LamX.CodeO c' (X.env.qual ++ "<lambda>")) → Q (.ref f) s') :
    wpAny (model X.prog X.w) X.A (eval (.Lambda params body scope pos) X.env) Q E s := by
  obtain ⟨cs, hP, hcs⟩ := hT
  obtain ⟨⟨ps, hP', ht, ha⟩, _, _⟩ := I.hok P _ hP
  refine PySem.W.kla_eval hdef ?_
  have bP : s.heap.BuiltinsAt X.mg P := TB.bm.keeps I.bk
  have fin : ∀ (f c' : Addr) (pm ctv : Value) (H1 : Hp) (s' : Shared) (o : Obj) (tk : Nat), Inv X pins σ H1 { s' with toks := tk } → SameX P H H1 → LT H1 P (X.env.qual ++ "<lambda>") → H1 c' = some (LamX.CodeO c' (X.env.qual ++ "<lambda>")) → s'.heap.objs.size = f →
      o = PySem.W.kla_obj "<lambda>" (X.env.qual ++ "<lambda>") params body scope (cloFrom X.env.cells scope.names []) pm c' ctv → Q (.ref f) { s' with heap := s'.heap.push o, toks := tk } := by
    intro f c' pm ctv H1 s' o tk J sx lt hc hf ho
    have hg : (s'.heap.push o).get? f = some o := by rw [← hf, ho]; exact Heap.get?_push_size _ rfl
    have nf : H1 f = none := J.hok.fresh (by show s'.heap.objs.size ≤ f; rw [hf]; exact Nat.le_refl _)
    have J2 := J.laid (a := f) (o := LamO X params body scope c' f) (h' := s'.heap.push o) (t' := tk) (fun b u e => Heap.get?_push_of_some _ e) (by show s'.heap.objs.size ≤ f; rw [hf]; exact Nat.le_refl _)
      ⟨⟨pm, ctv, by rw [hg, ho]⟩, ⟨o, hg⟩, fun h1 h2 ⟨pm, ctv, a⟩ st => ⟨pm, ctv, st _ a⟩⟩
    have sn := same_new (o := LamO X params body scope c' f) nf
    exact h f c' _ _ J2 (sx.trans sn.x) (sn.lt lt) upd_same (sn _ _ hc)
  cases hc : codeAmong pos ps.toList with
  | none =>
    refine PySem.W.kla_makeFunction (mg := X.mg) (c := c) (P := P) (ps := ps) (closure_ok hfree) I.ok.glob (I.mod.glob.keeps I.bk) hcode (TB.code.keeps I.bk) hP' ht hc TB.gP bP fun c' ctv h' tk hx hge hlt hrec htb => ?_
    obtain ⟨c2, oc, vs, t, e2, hoc, hd, hv⟩ := hrec
    cases e2
    have nC : H c' = none := I.hok.fresh hge
    have eL : (ps ++ #[rawInt pos.line, rawInt pos.col, .ref c']).toList = ps.toList ++ [rawInt pos.line, rawInt pos.col, .ref c'] := by simp
    have I1 := inv_tabE (t' := tk) (ps := ps) (more := #[rawInt pos.line, rawInt pos.col, .ref c']) (c := c') (q := X.env.qual ++ "<lambda>") (h' := h') I hP
      (fun b o hb e => hx b o hb e) htb (by rw [eL]; exact PySem.TriplesOk_snoc _ _ _ _ ht) (fun p' cv hcv => by
        rw [eL] at hcv
        rcases LamX.among_app _ ht hcv with z | z
        · obtain ⟨c0, e1, e2⟩ := ha p' cv z
          exact ⟨c0, List.mem_cons_of_mem _ e1, e2⟩
        · exact ⟨c', List.mem_cons_self .., z⟩) hge ⟨oc, vs, t, hoc, hd, hv⟩
    refine fin h'.objs.size c' ((X.mg "__name__").getD .none) ctv _ { s with heap := h' } _ tk I1 (fun b o nb e => ?_) ⟨c' :: cs, ?_, fun c0 h0 => ?_⟩ upd_same rfl rfl
    · rw [upd_ne (ne_of_none e nC), upd_ne nb]
      exact .of e
    · rw [upd_ne (ne_of_none hP nC), upd_same]
    · rcases List.mem_cons.mp h0 with rfl | h0
      · exact ⟨(ne_of_none hP nC).symm, upd_same⟩
      · obtain ⟨n0, e⟩ := hcs c0 h0
        refine ⟨n0, ?_⟩
        rw [upd_ne (ne_of_none e nC), upd_ne n0]
        exact e
  | some cv =>
    obtain ⟨c', hm, e⟩ := ha pos cv hc
    subst e
    refine PySem.W.kla_makeFunctionHit (mg := X.mg) (c := c) (P := P) (ps := ps) (closure_ok hfree) I.ok.glob (I.mod.glob.keeps I.bk) hcode (TB.code.keeps I.bk) hP' ht hc bP fun ctv h' tk hx hsz => ?_
    have I1 : Inv X pins σ H { s with heap := h', toks := tk } := I.kept hx
    exact fin h'.objs.size c' ((X.mg "__name__").getD .none) ctv H { s with heap := h' } _ tk I1 (fun b o _ e => .of e) ⟨cs, hP, hcs⟩ (hcs c' hm).2 rfl rfl
end
end Cl

set_option maxHeartbeats 0
namespace Cl
open PySem PySem.Spec PyProof.Rows L2
/-- a lambda's scope: its one parameter a, captured names, globals -/
structure LamK (sc scope : Scope) (a : Str) : Prop where
  kind : scope.kind = .function
  co : scope.isCoroutine = false
  gen : scope.isGenerator = false
  nocell : ∀ y ∈ scope.names, y.2 ≠ .cell
  own : ∀ y ∈ scope.names, y.2 = .local → y.1 = a
  par : scope.names.lookup a = some .local
  free : ∀ y ∈ scope.names, y.2 = .free → sc.names.lookup y.1 = some .cell ∨ sc.names.lookup y.1 = some .free
def lamKB (sc scope : Scope) (a : Str) : Bool :=
  decide (scope.kind = .function) && (!scope.isCoroutine && (!scope.isGenerator && (decide (scope.names.lookup a = some .local) && scope.names.all fun y => !decide (y.2 = .cell) && ((!decide (y.2 = .local) || decide (y.1 = a)) && (!decide (y.2 = .free) || (decide (sc.names.lookup y.1 = some .cell) || decide (sc.names.lookup y.1 = some .free)))))))
theorem lamK_by {sc scope : Scope} {a : Str} (h : lamKB sc scope a = true) : LamK sc scope a := by
  unfold lamKB at h
  simp only [Bool.and_eq_true, Bool.or_eq_true, Bool.not_eq_true', decide_eq_true_eq, decide_eq_false_iff_not, List.all_eq_true] at h
  obtain ⟨h1, h2, h3, h4, h5⟩ := h
  refine ⟨h1, h2, h3, fun y hy => (h5 y hy).1, fun y hy e => ?_, h4, fun y hy e => ?_⟩
  · rcases (h5 y hy).2.1 with z | z
    · exact absurd e z
    · exact z
  · rcases (h5 y hy).2.2 with z | z
    · exact absurd e z
    · exact z
theorem LamK.has {X : Cx} {scope : Scope} {a : Str} (L : LamK X.env.scope scope a) (ok : X.Ok) : ∀ y ∈ scope.names, y.2 = .free → ∃ c, X.env.cells.lookup y.1 = some c := fun y hy e => by
  rcases L.free y hy e with k | k
  · exact ok.has _ (.inl k)
  · exact ok.has _ (.inr k)
/-- the context of the lambda's body -/
def lamCx1 (X : Cx) (a : Str) (A : Around) (outer : List Env) (s : Shared) (H : Hp) (scope : Scope) (f c' : Addr) : Cx where
  prog := X.prog
  w := X.w
  K := X.K
  mg := X.mg
  base := X.base
  A := A.deeper (LamX.lamEnv X scope s.heap.objs.size f c')
  N := a :: X.N
  s_0 := s
  H_0 := H
  env := LamX.lamEnv X scope s.heap.objs.size f c'
  outer := outer
  stack := LamX.lamEnv X scope s.heap.objs.size f c' :: outer
  ex := []
  fn := fun _ => false
  calm := true
  pn := []
  xe := fun _ _ => False
section
variable {X : Cx} {pins : List (Addr × Obj)} {σ : L2.St} {H : Hp} {s : Shared}
theorem lam_start1 {A : Around} {outer : List Env} {scope : Scope} {a : Str} {v : V} {u : Value} {f c' : Addr} {h₁ : Heap} {tk : Nat} (I : Inv X pins σ H s) (L : LamK X.env.scope scope a) (e0 : Env0 X.prog X.w X.K X.mg X.base A outer s H) (hd : A.handled = none) (ha : a ∉ X.N) (r : RelV v u)
    (hns : h₁.Ns s.heap.objs.size fun y => ([(a, u)] : List (Str × Value)).reverse.lookup y) (kp : ∀ b o, s.heap.get? b = some o → h₁.get? b = some o) :
    Inv (lamCx1 X a A outer s H scope f c') [] (some v :: σ) H { s with heap := h₁, toks := tk } := by
  have hfree := L.has I.ok
  have cm : ∀ {y c}, (cloFrom X.env.cells scope.names []).lookup y = some c → X.env.cells.lookup y = some c := fun {y c} e => by
    rcases cloFrom_mem (PySem.mem_of_lookup e) with hm | ⟨h1, h2⟩
    · cases hm
    · obtain ⟨c1, hc⟩ := hfree _ h1 rfl
      have hc : X.env.cells.lookup y = some c1 := hc
      have e2 : c = c1 := by
        rw [h2, hc] <;> rfl
      rw [e2]
      exact hc
  have look : ∀ {y}, scope.names.lookup y = some .free → ∃ c, (cloFrom X.env.cells scope.names []).lookup y = some c := fun {y} hl => by
    have hy : (y, NameKind.free) ∈ scope.names := PySem.mem_of_lookup hl
    exact mem_lookup (cloFrom_has (cells := X.env.cells) (acc := []) hy)
  have cellK : ∀ {c : Addr} {v : Option Value}, H c = none → s.heap.IsCell c v → h₁.IsCell c v := fun {c v} n ⟨o, ho, hd⟩ => ⟨_, kp _ _ ho, hd⟩
  have noA : ∀ b : Addr, b ∉ (lamCx1 X a A outer s H scope f c').ex := fun b z => absurd (show b ∈ ([] : List Addr) from z) (by simp)
  refine ⟨⟨e0.mod, L.kind, rfl, rfl, Nat.le_refl _, fun y z c e1 e2 => I.ok.inj y z c (cm e1) (cm e2), fun y hy => ?_, fun y c z _ => ?_, fun _ => hd, Around.frames_deeper e0.frames, .inr ⟨rfl, rfl⟩, fun b z => absurd z (noA b), e0.bs, e0.bsz, fun b _ _ => noA b,
      fun b z => absurd z (noA b), e0.funs, e0.frf⟩,
    rfl, e0.bare, Un.kept kp, ⟨_, hns, fun i y v' e1 e2 e3 => ?_⟩, fun y c e => ?_, e0.hok.fresh (Nat.le_refl _), fun y c e => ?_, fun q hq => absurd (show q ∈ ([] : List (Addr × Obj)) ++ [] from hq) (by simp), e0.hok.kept kp, ?_⟩
  · have hy : scope.names.lookup y = some .cell ∨ scope.names.lookup y = some .free := hy
    rcases hy with hy | hy
    · exact absurd rfl (L.nocell _ (PySem.mem_of_lookup hy))
    · exact look hy
  · have z : false = true := z
    cases z
  · have e3 : Vis scope y := e3
    cases i with
    | zero =>
      have e1 : some a = some y := e1
      have e2 : some (some v) = some (some v') := e2
      cases e1
      cases e2
      refine ⟨u, r, .inl ⟨L.par, ?_⟩⟩
      show List.lookup a [(a, u)] = some u
      simp
    | succ i =>
      have e1 : X.N[i]? = some y := e1
      have e2 : σ[i]? = some (some v') := e2
      rcases e3 with k | k | k
      · exact absurd (by rw [← L.own _ (PySem.mem_of_lookup k) rfl]; exact List.mem_of_getElem? e1) ha
      · exact absurd rfl (L.nocell _ (PySem.mem_of_lookup k))
      · obtain ⟨m, hn, hl⟩ := I.loc
        have hvis : Vis X.env.scope y := (L.free _ (PySem.mem_of_lookup k) rfl).elim (fun k => .inr (.inl k)) (fun k => .inr (.inr k))
        obtain ⟨w', r, q⟩ := hl i y v' e1 e2 hvis
        obtain ⟨c2, h2⟩ := look k
        refine ⟨w', r, .inr ⟨.inr k, c2, h2, ?_⟩⟩
        have c1 := cm h2
        rcases q with ⟨k', _⟩ | ⟨_, c3, e', z⟩
        · have k' : X.env.scope.names.lookup y = some .local := k'
          rcases L.free _ (PySem.mem_of_lookup k) rfl with k2 | k2 <;> rw [show X.env.scope.names.lookup y = _ from k2] at k' <;> cases k'
        · rw [c1] at e'
          cases e'
          exact cellK (I.freeC y _ c1) z
  · obtain ⟨w', z⟩ := I.cell y c (cm e)
    exact ⟨w', cellK (I.freeC y c (cm e)) z⟩
  · exact I.freeC y c (cm e)
  · show (some v :: σ).length = (a :: X.N).length
    rw [List.length_cons, List.length_cons, I.len]
/-- the lambda called within a built-in -/
theorem call_key {k : Nat} {params : Arguments} {body : Expr} {scope : Scope} {a : Str} {f c' : Addr} {v : V} {u : Value} {t : TE} {Q : VK} (I : Inv X pins σ H s) (L : LamK X.env.scope scope a) (ha : a ∉ X.N) (hf : H f = some (LamO X params body scope c' f)) (hc : H c' = some (LamX.CodeO c' (X.env.qual ++ "<lambda>")))
    (hbind : ∀ (q : Str) (cl : List (Str × Addr)) (pm cv ctv u : Value), bindArgs (PySem.W.kla_fn "<lambda>" q params body scope cl pm cv ctv) ⟨[u], []⟩ = pure [(a, u)])
    (hr : RG (k + 2) X.A) (hbody : ∀ (A : Around) (outer : List Env) (s : Shared) (H : Hp), RG k (A.deeper (LamX.lamEnv X scope s.heap.objs.size f c')) → PE (lamCx1 X a A outer s H scope f c') body t)
    (r : RelV v u) (ht : t (some v :: σ) H Q) :
    wpAny (model X.prog X.w) X.A.in1 (call (.ref f) [u]) (EP X pins σ Q) (fun _ _ => False) s := by
  obtain ⟨⟨pm, ctv, of1⟩, _, _⟩ := I.hok f _ hf
  obtain ⟨⟨oc, vs, tt, hoc, hdc, hvc⟩, _, _⟩ := I.hok c' _ hc
  have hr1 : RG (k + 1) X.A.in1 := ⟨hr.room.in1, hr.gd⟩
  have e0 : Env0 X.prog X.w X.K X.mg X.base X.A.in1 X.stack s H := ⟨I.ok.frames, I.ok.mod, I.bs, Nat.le_trans I.ok.bsz I.sz, I.stack, I.stkFree, I.hok, I.bare⟩
  have rc : codeAny (model X.prog X.w) X.A.in1 (.call (.ref f) ⟨[u], []⟩) (CR CX0 X.stack X.prog X.w H s Q E0) s := by
    refine PySem.W.kla_callFunE hr1.room.depth of1 rfl L.co L.gen rfl ⟨c', oc, vs, tt, rfl, hoc, hdc, hvc⟩ ?_
    rw [hbind]
    refine wpAny_pure (wpAny_newFunctionEnv (fun y hy => L.nocell y hy) (fun y hy => by rw [List.mem_singleton.mp hy]; exact L.par) (fun h₁ hns hsb => ⟨I.nolimit.fresh _ hsb, ?_⟩) L.kind)
    show codeAny _ _ (.expr body (LamX.lamEnv X scope s.heap.objs.size f c')) _ _
    have kp : ∀ b o, s.heap.get? b = some o → h₁.get? b = some o := fun b o e => hsb.extBut b o (Nat.ne_of_lt (Heap.lt_size e)) (Heap.get?_push_of_some _ e)
    have J := lam_start1 (f := f) (c' := c') (tk := s.toks + 1) I L e0 hr1.room.hd ha r hns kp
    have hr2 : RG k (X.A.in1.deeper (LamX.lamEnv X scope s.heap.objs.size f c')) := ⟨hr1.room.deeper _, hr1.gd⟩
    refine PySem.W.kla_codeExpr (wpAny_mono ((hbody X.A.in1 X.stack s H hr2).run [] _ _ H Q J ht) (fun v s' hq => ?_) fun e s' hq => (show False from hq).elim)
    obtain ⟨w', H', J', rv, q⟩ := hq
    exact ⟨w', H', J'.os, J'.bare, J'.base, J'.hok, rv, q⟩
  refine wpAny_call (codeAny_mono rc fun r s' hq => ?_)
  cases r with
  | error e => exact hq.elim
  | ok fl =>
    cases fl with
    | ret u => exact I.after hq
    | next => exact False.elim hq
    | brk => exact False.elim hq
    | cont => exact False.elim hq
end
end Cl

set_option maxHeartbeats 0
namespace Cl
open PySem PySem.Spec PyProof.Rows L2
section
variable {X : Cx} {pins : List (Addr × Obj)} {σ : L2.St} {H0 H : Hp} {s : Shared}
theorem Same.tupS {H H' : Hp} {t : Addr} {vs : List V} (s : Same H H') (h : SqT X.K H t vs) : SqT X.K H' t vs := seT s h
theorem max_loopI {t f S It : Addr} {vs : List V} {R : Result → Shared → Prop} (kf : Nat → Int) (hh : X.A.handled = none) (hS : SqT X.K H0 t vs) (hSI : S ≠ It) (htI : t ≠ It)
    (fS : ∀ H', H' S = none → FpOk X pins H' S) (fI : ∀ H', H' It = none → FpOk X pins H' It)
    (turn : ∀ (i : Nat) (x : V) (u : Value) (pins' : List (Addr × Obj)) (H : Hp) (s : Shared), vs[i]? = some x → RelV x u → Inv X pins' σ H s → Same H0 H →
      wpAny (model X.prog X.w) X.A.in1 (call (.ref f) [u]) (EP X pins' σ (fun y H' => y = .int (kf i) ∧ Same H0 H')) (fun _ _ => False) s)
    (hR : ∀ (i : Nat) (x : V) (u : Value) (H : Hp) (s : Shared), vs[i]? = some x → RelV x u → (∀ j, j < vs.length → kf i ≥ kf j ∧ (j < i → kf i > kf j)) → Inv X pins σ H s → Same H0 H → R (.ok (.ret u)) s) :
    ∀ (r j i : Nat) (H : Hp) (s : Shared) (xb : V) (ub : Value) (tb : Tok) (c : Nat), vs.length - (j + 1) = r → j + 1 ≤ vs.length → Inv X pins σ H s → Same H0 H → H S = none → H It = none →
      s.heap.get? S = some (seqObj "list" #[ub, .int (kf i) tb] c) → s.heap.IsTupleIter It t (j + 1) → vs[i]? = some xb → RelV xb ub → i ≤ j → (∀ j', j' ≤ j → kf i ≥ kf j' ∧ (j' < i → kf i > kf j')) →
      codeAny (model X.prog X.w) X.A (.builtin "max.loop" ⟨[.ref It, .ref f, .ref S], []⟩) R s := by
  have hname : (toString "max" ++ toString ".loop" : String) = "max.loop" := by decide
  intro r
  induction r with
  | zero =>
    intro j i H s xb ub tb c hr hj I sm nS nI gS hit hxb hub hij hbest
    have hin : j + 1 = vs.length := by omega
    obtain ⟨its, rv, tup, hz⟩ := I.tuple (seT sm hS)
    have W := Walks.tuple (prog := X.prog) (w := X.w) (A := X.A.in1) hh It t htI its.toArray
    have hsz : its.toArray.size = vs.length := by rw [List.size_toArray]; exact rv.length.symm
    refine codeAny_builtin PySem.F.entry_max_loop ?_
    rw [Around.under_plainId PySem.F.plain_max_loop _]
    show wpAny _ X.A.in1 (seqItems? (.ref S) >>= _) _ _ _
    refine wpAny_bind (wpAny_seqItems gS rfl ?_)
    show wpAny _ X.A.in1 (tryCatch (pyNext (.ref It)) _ >>= _) _ _ _
    refine wpAny_bind (wpAny_tryCatch (W.done _ _ _ ⟨by rw [hsz, ← hin]; exact hit, tup⟩ fun h' tk' hk' => ?_))
    obtain ⟨_, i1, i2, i3, i4, i5⟩ := fI H nI
    obtain ⟨_, s1, s2, s3, s4, s5⟩ := fS H nS
    have I1 := I.turned (h' := h') (t' := tk') (it := It) (fun b o hb e => hk' b o (by simpa using hb) e) nI i1 i3 i4 i5
    have gS' := hk' S _ (by simpa using hSI) gS
    show wpAny _ X.A.in1 (updateSeq S (fun _ => #[]) >>= _) _ _ _
    refine wpAny_bind ?_
    refine wpAny_updateSeq gS' rfl (wpAny_bind (wpAny_letGo (wpAny_pure ?_)))
    have I2 := I1.turned (h' := h'.update S (Obj.mapSeq fun _ => (#[] : Array Value))) (t' := tk') (it := S) (fun b o hb e => (Heap.get?_update_ne _ _ _ _ hb).trans e) nS s1 s3 s4 s5
    exact hR i xb ub H _ hxb hub (fun j' hj' => hbest j' (by omega)) I2 sm
  | succ r ih =>
    intro j i H s xb ub tb c hr hj I sm nS nI gS hit hxb hub hij hbest
    have hlt : j + 1 < vs.length := by omega
    obtain ⟨its, rv, tup, hz⟩ := I.tuple (seT sm hS)
    have W := Walks.tuple (prog := X.prog) (w := X.w) (A := X.A.in1) hh It t htI its.toArray
    have hsz : its.toArray.size = vs.length := by rw [List.size_toArray]; exact rv.length.symm
    refine codeAny_builtin PySem.F.entry_max_loop ?_
    rw [Around.under_plainId PySem.F.plain_max_loop _]
    show wpAny _ X.A.in1 (seqItems? (.ref S) >>= _) _ _ _
    refine wpAny_bind (wpAny_seqItems gS rfl ?_)
    show wpAny _ X.A.in1 (tryCatch (pyNext (.ref It)) _ >>= _) _ _ _
    refine wpAny_bind (wpAny_tryCatch (W.item (j + 1) _ _ _ (by rw [hsz]; exact hlt) ⟨hit, tup⟩ fun v h' tk' hP hst' hk' => ?_))
    have hv : its[j + 1]? = some v := by simpa using hP
    obtain ⟨x, hx⟩ : ∃ x, vs[j + 1]? = some x := ⟨_, List.getElem?_eq_getElem hlt⟩
    obtain ⟨v', ev, rel⟩ := rv.get hx
    obtain rfl : v' = v := Option.some.inj (ev.symm.trans hv)
    obtain ⟨_, i1, i2, i3, i4, i5⟩ := fI H nI
    obtain ⟨_, s1, s2, s3, s4, s5⟩ := fS H nS
    have I1 := I.turned (h' := h') (t' := tk') (it := It) (fun b o hb e => hk' b o (by simpa using hb) e) nI i1 i3 i4 i5
    have gS' := hk' S _ (by simpa using hSI) gS
    obtain ⟨oI', hoI', hoc, hod⟩ := id hst'.1
    have J : Inv X (pins ++ [(S, seqObj "list" #[ub, .int (kf i) tb] c), (It, oI')]) σ H { s with heap := h', toks := tk' } := I1.pins_of fun p hp => by
      rcases List.mem_append.mp hp with hp | hp
      · exact I1.pin p (List.mem_append_right _ hp)
      · rcases List.mem_cons.mp hp with rfl | hp
        · exact ⟨gS', nS, s1, s2, fun v z => nomatch z⟩
        · rw [List.mem_singleton.mp hp]
          exact ⟨hoI', nI, i1, i2, fun v z => by rw [show (It, oI').2.data = oI'.data from rfl, hod] at z; cases z⟩
    show wpAny _ X.A.in1 (tryCatch (holding [v'] (call (.ref f) [v'])) _ >>= _) _ _ _
    refine wpAny_bind (wpAny_tryCatch (wpAny_holding (wpAny_mono (turn (j + 1) x v' _ H _ hx rel J sm) (fun y s2 he => ?_) fun _ _ hF => hF.elim)))
    obtain ⟨yv, H2, J2, ry, rfl, sm2⟩ := he
    obtain ⟨t2, rfl⟩ := ry
    have pS := J2.pin (S, seqObj "list" #[ub, .int (kf i) tb] c) (List.mem_append_right _ (List.mem_append_right _ (.head _)))
    have pI := J2.pin (It, oI') (List.mem_append_right _ (List.mem_append_right _ (.tail _ (.head _))))
    have J3 : Inv X pins σ H2 s2 := J2.pins_of fun p hp => J2.pin p (List.mem_append_right _ (List.mem_append_left _ hp))
    have hit2 : s2.heap.IsTupleIter It t (j + 1 + 1) := ⟨oI', pI.1, hoc, hod⟩
    show wpAny _ X.A.in1 (tryCatch (holding [v', .int (kf (j + 1)) t2] (richCompare .Gt (.int (kf (j + 1)) t2) (.int (kf i) tb) >>= _)) _ >>= _) _ _ _
    refine wpAny_bind (wpAny_tryCatch (wpAny_holding (wpAny_bind (CmpOf.ints_gt (prog := X.prog) (w := X.w) (A := X.A.in1) (P := fun i v => ∃ t, v = .int (kf i) t) kf (fun i v h => h) (j + 1) i _ _ _ _ _ ⟨t2, rfl⟩ ⟨tb, rfl⟩ ?_))))
    refine wpAny_bind (wpAny_holding (wpAny_truthy_bool ?_))
    refine wpAny_bind (wpAny_letGo (wpAny_pure ?_))
    by_cases hb' : kf (j + 1) > kf i
    · obtain ⟨c2, hc2⟩ : ∃ c2, (s2.heap.update S (Obj.mapSeq fun _ => #[v', .int (kf (j + 1)) t2])).get? S = some (seqObj "list" #[v', .int (kf (j + 1)) t2] c2) := ⟨_, get?_update_seq pS.1 fun _ => #[v', .int (kf (j + 1)) t2]⟩
      simp only [hb', decide_true, if_true]
      refine wpAny_bind ?_
      refine wpAny_updateSeq pS.1 rfl (wpAny_bind (wpAny_letGo ?_))
      rw [hname]
      have I4 := J3.turned (h' := s2.heap.update S (Obj.mapSeq fun _ => #[v', .int (kf (j + 1)) t2])) (t' := s2.toks) (it := S) (fun b o hb e => (Heap.get?_update_ne _ _ _ _ hb).trans e) pS.2.1 s1 s3 s4 s5
      refine wpAny_pure ⟨plainId_quiet PySem.F.plain_max_loop _, ih (j + 1) (j + 1) H2 _ x v' t2 c2 (by omega) hlt I4 sm2 pS.2.1 pI.2.1 hc2 ⟨oI', (Heap.get?_update_ne _ _ _ _ hSI.symm).trans pI.1, hoc, hod⟩ hx rel (Nat.le_refl _) fun j' hj' => ?_⟩
      by_cases e : j' = j + 1
      · subst e
        exact ⟨by omega, fun _ => by omega⟩
      · have hb1 := hbest j' (by omega)
        have hb2 := hb1.1
        exact ⟨by omega, fun _ => by omega⟩
    · simp only [hb', decide_false, Bool.false_eq_true, if_false]
      refine wpAny_bind (wpAny_letGo ?_)
      rw [hname]
      refine wpAny_pure ⟨plainId_quiet PySem.F.plain_max_loop _, ih (j + 1) i H2 _ xb ub tb c (by omega) hlt J3 sm2 pS.2.1 pI.2.1 pS.1 hit2 hxb hub (by omega) fun j' hj' => ?_⟩
      by_cases e : j' = j + 1
      · subst e
        exact ⟨by omega, fun _ => by omega⟩
      · exact hbest j' (by omega)
/-- max(t, key=f), t a tuple -/
theorem max_keyI {t f : Addr} {vs : List V} {Q : Value → Shared → Prop} {E : Value → Shared → Prop} (kf : Nat → Int) (hh : X.A.handled = none) (I : Inv X pins σ H s) (hS : SqT X.K H t vs) (hne : 0 < vs.length)
    (turn : ∀ (i : Nat) (x : V) (u : Value) (pins' : List (Addr × Obj)) (H1 : Hp) (s : Shared), vs[i]? = some x → RelV x u → Inv X pins' σ H1 s → Same H H1 →
      wpAny (model X.prog X.w) X.A.in1 (call (.ref f) [u]) (EP X pins' σ (fun y H' => y = .int (kf i) ∧ Same H H')) (fun _ _ => False) s)
    (hQ : ∀ (i : Nat) (x : V) (u : Value) (H1 : Hp) (s : Shared), vs[i]? = some x → RelV x u → (∀ j, j < vs.length → kf i ≥ kf j ∧ (j < i → kf i > kf j)) → Inv X pins σ H1 s → Same H H1 → Q u s) :
    wpAny (model X.prog X.w) X.A (call (.builtin "max") [.ref t] [(Str.ofString "key", .ref f)]) Q E s := by
  have hname : (toString "max" ++ toString ".loop" : String) = "max.loop" := by decide
  obtain ⟨its, rv, tup, hz⟩ := I.tuple hS
  have htt : t < s.heap.objs.size := by obtain ⟨o, e, _⟩ := id tup; exact Heap.lt_size e
  refine kmk_tree PySem.F.kind_max PySem.F.plain_max PySem.F.entry_max (kmk_max_key _ _) ?_
  show wpAny _ X.A.in1 (Builtin.Builtins.bindParams "max" ["key", "default"] 0 ⟨[], [(Str.ofString "key", .ref f)]⟩ >>= _) _ _ s
  refine wpAny_bind (wpAny_of_eq (show Builtin.Builtins.bindParams "max" ["key", "default"] 0 ⟨[], [(Str.ofString "key", .ref f)]⟩ = pure [some (.ref f), none] from rfl) ?_)
  refine wpAny_bind (wpAny_pure ?_)
  refine wpAny_bind (wpAny_pyIter_tuple tup ?_)
  refine wpAny_bind (wpAny_newList ?_ (Nat.zero_le _))
  rw [hname]
  have hS1 : (s.heap.push { cls := .type "tuple_iterator", data := .fields #[.ref t, .int 0 0] }).objs.size = s.heap.objs.size + 1 := size_push' ..
  have htI : t ≠ s.heap.objs.size := Nat.ne_of_lt htt
  have hSI : (s.heap.push { cls := .type "tuple_iterator", data := .fields #[.ref t, .int 0 0] }).objs.size ≠ s.heap.objs.size := by rw [hS1]; exact Nat.ne_of_gt (Nat.lt_succ_self _)
  refine wpAny_pure ⟨plainId_quiet PySem.F.plain_max_loop _, ?_⟩
  have gI : ((s.heap.push { cls := .type "tuple_iterator", data := .fields #[.ref t, .int 0 0] }).push (seqObj "list" #[] 0)).get? s.heap.objs.size = some { cls := .type "tuple_iterator", data := .fields #[.ref t, .int 0 0] } :=
    Heap.get?_push_of_some _ (Heap.get?_push_size _ rfl)
  have gS : ((s.heap.push { cls := .type "tuple_iterator", data := .fields #[.ref t, .int 0 0] }).push (seqObj "list" #[] 0)).get? (s.heap.push { cls := .type "tuple_iterator", data := .fields #[.ref t, .int 0 0] }).objs.size = some (seqObj "list" #[] 0) := Heap.get?_push_size _ rfl
  have fI : ∀ H', H' s.heap.objs.size = none → FpOk X pins H' s.heap.objs.size := fun H' n => I.fpOk (Nat.le_refl _) n
  have fS : ∀ H', H' (s.heap.push { cls := .type "tuple_iterator", data := .fields #[.ref t, .int 0 0] }).objs.size = none → FpOk X pins H' (s.heap.push { cls := .type "tuple_iterator", data := .fields #[.ref t, .int 0 0] }).objs.size := fun H' n => I.fpOk (by rw [hS1]; exact Nat.le_succ _) n
  have nI : H s.heap.objs.size = none := I.hok.fresh (Nat.le_refl _)
  have nS : H (s.heap.push { cls := .type "tuple_iterator", data := .fields #[.ref t, .int 0 0] }).objs.size = none := I.hok.fresh (by rw [hS1]; exact Nat.le_succ _)
  have I0 : Inv X pins σ H { s with heap := (s.heap.push { cls := .type "tuple_iterator", data := .fields #[.ref t, .int 0 0] }).push (seqObj "list" #[] 0) } := I.kept (t' := s.toks) fun b o e => Heap.get?_push_of_some _ (Heap.get?_push_of_some _ e)
  have tup0 : ((s.heap.push { cls := .type "tuple_iterator", data := .fields #[.ref t, .int 0 0] }).push (seqObj "list" #[] 0)).IsTuple t its.toArray := by
    obtain ⟨o, e, r⟩ := id tup
    exact ⟨o, Heap.get?_push_of_some _ (Heap.get?_push_of_some _ e), r⟩
  generalize (s.heap.push { cls := .type "tuple_iterator", data := .fields #[.ref t, .int 0 0] }).objs.size = S at *
  generalize (s.heap.push { cls := .type "tuple_iterator", data := .fields #[.ref t, .int 0 0] }).push (seqObj "list" #[] 0) = h0 at *
  generalize s.heap.objs.size = It at *
  have W := Walks.tuple (prog := X.prog) (w := X.w) (A := X.A.in1) hh It t htI its.toArray
  have hsz : its.toArray.size = vs.length := by rw [List.size_toArray]; exact rv.length.symm
  refine codeAny_builtin PySem.F.entry_max_loop ?_
  rw [Around.under_plainId PySem.F.plain_max_loop _]
  show wpAny _ X.A.in1 (seqItems? (.ref _) >>= _) _ _ _
  refine wpAny_bind (wpAny_seqItems gS rfl ?_)
  show wpAny _ X.A.in1 (tryCatch (pyNext (.ref It)) _ >>= _) _ _ _
  refine wpAny_bind (wpAny_tryCatch (W.item 0 _ _ _ (by rw [hsz]; exact hne) ⟨⟨_, gI, rfl, rfl⟩, tup0⟩ fun v h' tk' hP hst' hk' => ?_))
  have hv : its[0]? = some v := by simpa using hP
  obtain ⟨x, hx⟩ : ∃ x, vs[0]? = some x := ⟨_, List.getElem?_eq_getElem hne⟩
  obtain ⟨v', ev, rel⟩ := rv.get hx
  obtain rfl : v' = v := Option.some.inj (ev.symm.trans hv)
  obtain ⟨_, i1, i2, i3, i4, i5⟩ := fI H nI
  obtain ⟨_, s1, s2, s3, s4, s5⟩ := fS H nS
  have I1 := I0.turned (h' := h') (t' := tk') (it := It) (fun b o hb e => hk' b o (by simpa using hb) e) nI i1 i3 i4 i5
  have gS' := hk' S _ (by simpa using hSI) gS
  obtain ⟨oI', hoI', hoc, hod⟩ := id hst'.1
  have J : Inv X (pins ++ [(S, seqObj "list" #[] 0), (It, oI')]) σ H { s with heap := h', toks := tk' } := I1.pins_of fun p hp => by
    rcases List.mem_append.mp hp with hp | hp
    · exact I1.pin p (List.mem_append_right _ hp)
    · rcases List.mem_cons.mp hp with rfl | hp
      · exact ⟨gS', nS, s1, s2, fun v z => nomatch z⟩
      · rw [List.mem_singleton.mp hp]
        exact ⟨hoI', nI, i1, i2, fun v z => by rw [show (It, oI').2.data = oI'.data from rfl, hod] at z; cases z⟩
  show wpAny _ X.A.in1 (tryCatch (holding [v'] (call (.ref f) [v'])) _ >>= _) _ _ _
  refine wpAny_bind (wpAny_tryCatch (wpAny_holding (wpAny_mono (turn 0 x v' _ H _ hx rel J (.refl H)) (fun y s2 he => ?_) fun _ _ hF => hF.elim)))
  obtain ⟨yv, H2, J2, ry, rfl, sm2⟩ := he
  obtain ⟨t2, rfl⟩ := ry
  have pS := J2.pin (S, seqObj "list" #[] 0) (List.mem_append_right _ (List.mem_append_right _ (.head _)))
  have pI := J2.pin (It, oI') (List.mem_append_right _ (List.mem_append_right _ (.tail _ (.head _))))
  have J3 : Inv X pins σ H2 s2 := J2.pins_of fun p hp => J2.pin p (List.mem_append_right _ (List.mem_append_left _ hp))
  obtain ⟨c2, hc2⟩ : ∃ c2, (s2.heap.update S (Obj.mapSeq fun _ => #[v', .int (kf 0) t2])).get? S = some (seqObj "list" #[v', .int (kf 0) t2] c2) := ⟨_, get?_update_seq pS.1 fun _ => #[v', .int (kf 0) t2]⟩
  show wpAny _ X.A.in1 (updateSeq S (fun _ => #[v', .int (kf 0) t2]) >>= _) _ _ _
  refine wpAny_bind ?_
  refine wpAny_updateSeq pS.1 rfl ?_
  rw [hname]
  have I4 := J3.turned (h' := s2.heap.update S (Obj.mapSeq fun _ => #[v', .int (kf 0) t2])) (t' := s2.toks) (it := S) (fun b o hb e => (Heap.get?_update_ne _ _ _ _ hb).trans e) pS.2.1 s1 s3 s4 s5
  refine wpAny_pure ⟨plainId_quiet PySem.F.plain_max_loop _, max_loopI kf hh hS hSI htI fS fI turn (fun i x u H1 s' h1 h2 h3 h4 h5 => hQ i x u H1 s' h1 h2 h3 h4 h5) _ 0 0 H2 _ x v' t2 c2 rfl hne I4 sm2 pS.2.1 pI.2.1 hc2 ⟨oI', (Heap.get?_update_ne _ _ _ _ hSI.symm).trans pI.1, hoc, hod⟩ hx rel (Nat.le_refl _) fun j' hj' => ?_⟩
  have e : j' = 0 := by omega
  subst e
  exact ⟨by omega, fun h => absurd h (Nat.lt_irrefl _)⟩
end
end Cl

set_option maxHeartbeats 0
namespace Cl
open PySem PySem.Spec PyProof.Rows L2
/-- what stands but for the table at P -/
def hp (P : Addr) (H : Hp) : Hp := fun b => if b = P then none else H b
theorem hp_at {P b : Addr} {H : Hp} {o : HO} (h : hp P H b = some o) : b ≠ P ∧ H b = some o := by
  unfold hp at h
  split at h
  · cases h
  · exact ⟨by assumption, h⟩
theorem hp_of {P b : Addr} {H : Hp} {o : HO} (n : b ≠ P) (h : H b = some o) : hp P H b = some o := by
  unfold hp
  rw [if_neg n]
  exact h
theorem SameX.to {P : Addr} {H H' : Hp} (s : SameX P H H') : Same (hp P H) H' := fun b o e => s b o (hp_at e).1 (hp_at e).2
theorem SameX.refl {P : Addr} (H : Hp) : SameX P H H := fun _ _ _ e => .of e
section
variable {K : PySem.W.Frag} {H H' : Hp} {P : Addr} {q : Str}
theorem dnT {a : Addr} {xs : List V} (t : LT H P q) (h : SqT K H a xs) : SqT K (hp P H) a xs := by
  obtain ⟨cs, e, _⟩ := t
  have ne : ∀ u, H a = some u → (∀ φ, u ≠ .ext φ) → a ≠ P := fun u z n y => by
    rw [y, e] at z
    exact n _ (Option.some.inj z).symm
  rcases h with (h | ⟨o, h⟩) | h
  · exact .inl (.inl (hp_of (ne _ h fun φ z => nomatch z) h))
  · exact .inl (.inr ⟨o, hp_of (ne _ h fun φ z => nomatch z) h⟩)
  · exact .inr h
theorem dn2 {v : V} {p : Int × Int} (t : LT H P q) (h : At2 K H v p) : At2 K (hp P H) v p := by
  obtain ⟨a, rfl, h⟩ := h
  exact ⟨a, rfl, dnT t h⟩
theorem dnL {v : V} {l : Ln} (t : LT H P q) (h : AtL K H v l) : AtL K (hp P H) v l := by
  obtain ⟨a, u, w, rfl, h1, h2, h3⟩ := h
  exact ⟨a, u, w, rfl, dnT t h1, dn2 t h2, dn2 t h3⟩
theorem AtL.sameX {v : V} {l : Ln} (h : AtL K H v l) (t : LT H P q) (s : SameX P H H') : AtL K H' v l := (dnL t h).same s.to
theorem seX {a : Addr} {xs : List V} (t : LT H P q) (s : SameX P H H') (h : SqT K H a xs) : SqT K H' a xs := seT s.to (dnT t h)
end
def tLamK (X : Cx) (P : Addr) (params : Arguments) (body : Expr) (scope : Scope) : TE := fun _ H Q => LT H P (X.env.qual ++ "<lambda>") ∧ ∀ f c' H1, SameX P H H1 → LT H1 P (X.env.qual ++ "<lambda>") →
  H1 f = some (LamO X params body scope c' f) → H1 c' = some (LamX.CodeO c' (X.env.qual ++ "<lambda>")) → Q (.ref f) H1
/-- what max by key asks behind its argument v -/
def keyQ (X : Cx) (P : Addr) (t : TE) (σ : L2.St) (Q : VK) (v : V) (H1 : Hp) : Prop := ∃ (tt : Addr) (vs : List V) (kf : Nat → Int), v = .ref tt ∧ SqT X.K H1 tt vs ∧ 0 < vs.length ∧ LT H1 P (X.env.qual ++ "<lambda>") ∧
  (∀ i x H2, vs[i]? = some x → SameX P H1 H2 → LT H2 P (X.env.qual ++ "<lambda>") → t (some x :: σ) H2 (fun y H3 => y = .int (kf i) ∧ Same H2 H3)) ∧
  ∀ i x H2, vs[i]? = some x → (∀ j, j < vs.length → kf i ≥ kf j ∧ (j < i → kf i > kf j)) → SameX P H1 H2 → LT H2 P (X.env.qual ++ "<lambda>") → Q x H2
def keyQs (X : Cx) (P : Addr) (t : TE) (σ : L2.St) (Q : VK) : List V → Hp → Prop
  | [v], H1 => keyQ X P t σ Q v H1
  | _, _ => False
def tMaxKey (X : Cx) (P : Addr) (t te : TE) : TE := fun σ H Q => te σ H (keyQ X P t σ Q)
section
variable {X : Cx}
theorem pe_lamK {c P : Addr} {params : Arguments} {body : Expr} {scope : Scope} {a : Str} {pos : Pos} (TB : GxR.TabB X.base X.mg c P) (hcode : X.env.code = .ref c) (L : LamK X.env.scope scope a) (hdef : defaultsOf params X.env = ([], [])) :
    PE X (.Lambda params body scope pos) (tLamK X P params body scope) :=
  ⟨fun pins s σ H Q I h => lam_make3 I TB hcode h.1 hdef (L.has I.ok) fun f c' H1 s' I1 sx lt hf hc => ⟨.ref f, H1, I1, rfl, h.2 f c' H1 sx lt hf hc⟩⟩
theorem pe_maxKey {k : Nat} {c P : Addr} {e : Expr} {params : Arguments} {body : Expr} {scope : Scope} {a : Str} {p pos lp kp : Pos} {t te : TE} (hr : RG (k + 2) X.A) (hg : Gl X "max") (hm : X.mg "max" = none) (TB : GxR.TabB X.base X.mg c P) (hcode : X.env.code = .ref c)
    (L : LamK X.env.scope scope a) (ha : a ∉ X.N) (hdef : defaultsOf params X.env = ([], []))
    (hbind : ∀ (q : Str) (cl : List (Str × Addr)) (pm cv ctv u : Value), bindArgs (PySem.W.kla_fn "<lambda>" q params body scope cl pm cv ctv) ⟨[u], []⟩ = pure [(a, u)])
    (he : PE X e te) (hbody : ∀ (A : Around) (outer : List Env) (s : Shared) (H : Hp) (f c' : Addr), RG k (A.deeper (LamX.lamEnv X scope s.heap.objs.size f c')) → PE (lamCx1 X a A outer s H scope f c') body t)
    (hs1 : starEach [e] X.env = (false, eval e X.env) :: starEach [] X.env := by rfl) :
    PE X (.Call (.Name "max" p) [e] [⟨some "key", .Lambda params body scope lp, kp⟩] pos) (tMaxKey X P t te) := by
  refine ⟨fun pins s σ H Q I h => ?_⟩
  refine wpAny_Call_Name_kw (ld_blt I hg hm PyProof.Rows.boot_max ?_ (by decide) (by decide))
  have hargs : PA X [e] _ := pa_cons he pa_nil (hs := hs1)
  have hk : PK X [⟨some "key", .Lambda params body scope lp, kp⟩] _ := pk_cons (pe_lamK (P := P) TB hcode L hdef) pk_nil
  refine PyProof.Rows.callWith_kw (thn (hargs.run pos pins s σ H (keyQs X P t σ Q) I h) fun us s1 ⟨vs0, H1, I1, r1, q1⟩ => ?_) (by rw [hs1]; rfl) (by rw [hs1]; rfl) (by rfl) (by rfl)
  obtain ⟨v, rfl⟩ : ∃ v, vs0 = [v] := by
    match vs0, q1 with
    | [v], _ => exact ⟨v, rfl⟩
    | [], q => exact False.elim q
    | _ :: _ :: _, q => exact False.elim q
  obtain ⟨tt, vs, kf, rfl, hS, hne, lt1, ht, hq⟩ := q1
  obtain ⟨u, rfl, ru⟩ := vals1 r1
  cases ru
  refine thn (hk.run pos pins s1 σ H1 (fun ws H2 => ∃ f c', ws = [.ref f] ∧ SameX P H1 H2 ∧ LT H2 P (X.env.qual ++ "<lambda>") ∧ H2 f = some (LamO X params body scope c' f) ∧ H2 c' = some (LamX.CodeO c' (X.env.qual ++ "<lambda>"))) I1 ?_) fun ws s2 ⟨zs, H2, I2, r2, q2⟩ => ?_
  · exact ⟨lt1, fun f c' H2 sx lt hf hc => ⟨f, c', rfl, sx, lt, hf, hc⟩⟩
  obtain ⟨f, c', rfl, sx, lt2, hf, hc⟩ := q2
  obtain ⟨u, rfl, ru⟩ := vals1 r2
  cases ru
  have hS2 := seX lt1 sx hS
  show wpAny _ _ (call (.builtin "max") [.ref tt] [(Str.ofString "key", .ref f)]) _ _ s2
  refine max_keyI kf hr.room.hd I2 hS2 hne (fun i x u pins' H3 s3 hx rel I3 sm => ?_) fun i x u H3 s3 hx rel best I3 sm => ?_
  · refine wpAny_mono (call_key (k := k) I3 L ha (sm _ _ hf) (sm _ _ hc) hbind hr (fun A outer s H hr' => hbody A outer s H f c' hr') rel (ht i x H3 hx (sx.trans sm.x) (sm.lt lt2))) (fun y s4 hy => ?_) fun _ _ z => z
    obtain ⟨yv, H4, I4, ry, e, sm4⟩ := hy
    exact ⟨yv, H4, I4, ry, e, sm.trans sm4⟩
  · exact ⟨x, H3, I3, rel, hq i x H3 hx best (sx.trans sm.x) (sm.lt lt2)⟩
end
end Cl

set_option maxHeartbeats 0
namespace Cl
open PySem PySem.Spec PyProof.Rows L2
/-! ### a generator expression over one name, its element asked as it comes: told by words on states -/
theorem over_comp {A : Around} {e : Expr} {gs : List Comprehension} {sc : Scope} {p : Pos} {v o : Value} {env : Env} : A.over (.compLoop (.GeneratorExp e gs sc p) 0 v o env) [] = A.deeper env := by
  first
    | rfl
    | (obtain ⟨hd, d, fr, gs, u⟩ := A; simp [Around.over, Around.deeper, marksOver, frameCount, unitsOf, envsOf, guardsOf, pushEnvs, pushGuards, Code.envs, Code.env?, Code.isFrame, Code.guards, Code.isGuard, Code.weight, Code.frames, Code.isCreation, Code.isCaller, Code.cUnits])
theorem over_start {A : Around} {e : Expr} {gs : List Comprehension} {sc : Scope} {p : Pos} {v o : Value} {env : Env} : A.over (.compStart (.GeneratorExp e gs sc p) 0 v o env) [] = A.deeper env := by
  first
    | rfl
    | (obtain ⟨hd, d, fr, gs, u⟩ := A; simp [Around.over, Around.deeper, marksOver, frameCount, unitsOf, envsOf, guardsOf, pushEnvs, pushGuards, Code.envs, Code.env?, Code.isFrame, Code.guards, Code.isGuard, Code.weight, Code.frames, Code.isCreation, Code.isCaller, Code.cUnits])
structure GenN (prog : Program) (w : World) (A : Around) (cenv : Env) (I : Addr) (x : Str) (px : Pos) (elt : Expr) (n₀ : Nat) (bs : Nat → Bool) (ST : Nat → Shared → Prop) (M1 : Nat → Value → Shared → Prop) (M2 : Nat → Shared → Prop) (FIN : Shared → Prop) : Prop where
  item : ∀ (i : Nat) (s : Shared) (Q : Option Value → Shared → Prop) (E : Value → Shared → Prop), i < n₀ → ST i s → (∀ v s', M1 i v s' → Q (some v) s') → wpAny (model prog w) (A.deeper cenv) (pyNext (.ref I)) Q E s
  asg : ∀ (i : Nat) (v : Value) (s : Shared) (Q : Unit → Shared → Prop) (E : Value → Shared → Prop), M1 i v s → (∀ s', M2 i s' → Q () s') → wpAny (model prog w) (A.deeper cenv) (assign (.Name x px) cenv v) Q E s
  el : ∀ (i : Nat) (s : Shared) (Q : Value → Shared → Prop) (E : Value → Shared → Prop), M2 i s → (∀ s', ST (i + 1) s' → Q (.bool (bs i)) s') → wpAny (model prog w) (A.deeper cenv) (eval elt cenv) Q E s
  done : ∀ (s : Shared) (Q : Option Value → Shared → Prop) (E : Value → Shared → Prop), ST n₀ s → (∀ s', FIN s' → Q none s') → wpAny (model prog w) (A.deeper cenv) (pyNext (.ref I)) Q E s
  self : ∀ (s : Shared) (Q : Value → Shared → Prop) (E : Value → Shared → Prop), ST 0 s → Q (.ref I) s → wpAny (model prog w) (A.deeper cenv) (pyIter (.ref I)) Q E s
def protoN (n₀ : Nat) (bs : Nat → Bool) (ST : Nat → Shared → Prop) : Protocol := fun m _ v s kap =>
  ∃ i, i + m + 1 = n₀ ∧ v = .bool (bs i) ∧ ST (i + 1) s ∧ ∀ s'' : Shared, ST (i + 1) s'' → kap (.send .none) s''
abbrev endN (FIN : Shared → Prop) : GenEnd := fun n _ r s₁ => r = .ok .next ∧ (n = 0 ∧ FIN s₁)
section
variable {prog : Program} {w : World} {A : Around} {cenv : Env} {I : Addr} {x : Str} {px : Pos} {elt iter : Expr} {n₀ : Nat} {bs : Nat → Bool} {ST : Nat → Shared → Prop} {M1 : Nat → Value → Shared → Prop} {M2 : Nat → Shared → Prop} {FIN : Shared → Prop} {scope : Scope} {pos : Pos}
theorem seg_loopN (hco : cenv.scope.isCoroutine = false) (G : GenN prog w A cenv I x px elt n₀ bs ST M1 M2 FIN) :
    ∀ (k i : Nat) (s₀ s : Shared), n₀ - i = k → i ≤ n₀ → ST i s →
      Seg (model prog w) A (endN FIN) (protoN n₀ bs ST) k s₀
        (.compLoop (.GeneratorExp elt [⟨.Name x px, iter, [], 0⟩] scope pos) 0 (.ref I) .none cenv)
        ((model prog w).den (.compLoop (.GeneratorExp elt [⟨.Name x px, iter, [], 0⟩] scope pos) 0 (.ref I) .none cenv)) [] s := by
  intro k
  induction k with
  | zero =>
    intro i s₀ s hk hi hst
    have hin : i = n₀ := by omega
    subst hin
    show Seg _ A _ _ _ s₀ _ ((compTurn (.GeneratorExp elt [⟨.Name x px, iter, [], 0⟩] scope pos) 0 (.ref I) .none cenv).onRaise (leaving cenv)) [] s
    rw [compTurn_gen, Sem.onRaise_eq_wrap]
    refine seg_bind_wrap (wpAny_standAt ?_)
    refine seg_bind_wrap ?_
    rw [over_comp]
    refine G.done s _ _ hst fun s' hf => ?_
    exact seg_end (.ok .next) ⟨rfl, rfl, hf⟩
  | succ k ih =>
    intro i s₀ s hk hi hst
    have hlt : i < n₀ := by omega
    show Seg _ A _ _ _ s₀ _ ((compTurn (.GeneratorExp elt [⟨.Name x px, iter, [], 0⟩] scope pos) 0 (.ref I) .none cenv).onRaise (leaving cenv)) [] s
    rw [compTurn_gen, Sem.onRaise_eq_wrap]
    refine seg_bind_wrap (wpAny_standAt ?_)
    refine seg_bind_wrap ?_
    rw [over_comp]
    refine G.item i s _ _ hlt hst fun v s1 h1 => ?_
    refine seg_bind_wrap (wpAny_of_eq (rfl : letOwnedTupleGo (.Name x px) (.ref I) v = pure ()) ?_)
    refine seg_bind_wrap ?_
    rw [over_comp]
    refine G.asg i v s1 _ _ h1 fun s2 h2 => ?_
    refine seg_bind_wrap ?_
    simp only [List.forIn_nil]
    refine wpAny_pure ?_
    simp only [if_true]
    have hy : ∀ v, yieldOut cenv v = yieldValue v := fun v => by simp only [yieldOut, hco, Bool.false_eq_true, if_false]
    simp only [hy]
    rw [Sem.bind_eq_wrap', Sem.bind_eq_wrap', Sem.wrap_wrap, Sem.wrap_wrap]
    refine seg_wrap ?_
    rw [over_comp]
    refine G.el i s2 _ _ h2 fun s3 h3 => ?_
    refine seg_at (seg_yield rfl rfl rfl ⟨i, by omega, rfl, h3, fun s'' hal => ?_⟩)
    exact seg_again rfl (ih (i + 1) s'' s'' (by omega) hlt hal)
theorem seg_startN (hco : cenv.scope.isCoroutine = false) (G : GenN prog w A cenv I x px elt n₀ bs ST M1 M2 FIN) (s₀ s : Shared) (hst : ST 0 s) :
    Seg (model prog w) A (endN FIN) (protoN n₀ bs ST) n₀ s₀
      (.compStart (.GeneratorExp elt [⟨.Name x px, iter, [], 0⟩] scope pos) 0 (.ref I) .none cenv)
      ((model prog w).den (.compStart (.GeneratorExp elt [⟨.Name x px, iter, [], 0⟩] scope pos) 0 (.ref I) .none cenv)) [] s := by
  have loop := fun s₀ => seg_loopN (iter := iter) (scope := scope) (pos := pos) hco G n₀ 0 s₀ s (Nat.sub_zero _) (Nat.zero_le _) hst
  show Seg _ A _ _ _ s₀ _ ((compStart (.GeneratorExp elt [⟨.Name x px, iter, [], 0⟩] scope pos) 0 (.ref I) .none cenv).onRaise (leaving cenv)) [] s
  unfold compStart
  rw [Sem.onRaise_eq_wrap]
  show Seg _ A _ _ _ s₀ _ ((ask >>= _).wrap _ _ _ _) [] s
  refine seg_bind_wrap (wpAny_askSetting ?_)
  split
  · exact seg_again rfl (loop s₀)
  · refine seg_bind_wrap (wpAny_rule ?_)
    first
      | (refine seg_bind_wrap (wpAny_standAt ?_)
         refine seg_bind_wrap ?_
         rw [over_start]
         exact G.self s _ _ hst (seg_again rfl (loop s₀)))
      | (show Seg _ A _ _ _ s₀ _ ((standAt iter.pos >>= _).wrap _ _ _ _) [] s
         refine seg_bind_wrap (wpAny_standAt ?_)
         refine seg_bind_wrap ?_
         rw [over_start]
         exact G.self s _ _ hst (seg_again rfl (loop s₀)))
/-- the generator at a stands ahead of its turn i -/
structure AtN (prog : Program) (w : World) (A : Around) (a : Addr) (g n₀ : Nat) (bs : Nat → Bool) (ST : Nat → Shared → Prop) (FIN : Shared → Prop) (i : Nat) (s : Shared) : Prop where
  st : ST i s
  go : ∃ gs, s.gens[g]? = some gs ∧ ∀ s'', ST i s'' → gs.Goes (model prog w) A (endN FIN) (protoN n₀ bs ST) (n₀ - i) (.send .none) s''
/-- what a state word tells of the generator's object -/
structure SideN (a : Addr) (g : Nat) (ST : Nat → Shared → Prop) : Prop where
  gen : ∀ i s, ST i s → s.heap.IsGen a g
  lim : ∀ i s, ST i s → s.heap.NoLimit
  sz : ∀ i s, ST i s → g < s.gens.size
  set : ∀ i s y, y.bare = true → ST i s → ST i (s.setGen g y)
variable {a : Addr} {g : Nat}
theorem nextN_item {i : Nat} {s : Shared} {Q : Option Value → Shared → Prop} {E : Value → Shared → Prop} (hh : A.handled = none) (hroom : A.depth < recursionLimit) (S : SideN a g ST) (hi : i < n₀) (h : AtN prog w A.in1 a g n₀ bs ST FIN i s)
    (hQ : ∀ s', AtN prog w A.in1 a g n₀ bs ST FIN (i + 1) s' → Q (some (.bool (bs i))) s') : wpAny (model prog w) A (pyNext (.ref a)) Q E s := by
  obtain ⟨gs, hgs, hgo⟩ := h.go
  obtain ⟨m, hm⟩ : ∃ m, n₀ - i = m + 1 := ⟨n₀ - i - 1, by omega⟩
  rw [hm] at hgo
  refine wpAny_pyNext_genexpQ (P := fun n _ s₁ => n = 0 ∧ FIN s₁) hh (S.lim _ _ h.st) hroom (S.gen _ _ h.st) hgs (hgo _ (S.set _ _ _ rfl h.st)) (fun v s₁ gs' hb hv => ?_) fun s₁ hp h' hk => absurd hp.1 (Nat.succ_ne_zero m)
  obtain ⟨i', e, rfl, st1, hkap⟩ := hv
  have ei : i' = i := by omega
  subst ei
  refine hQ _ ⟨S.set _ _ _ hb st1, gs', setGen_at (S.sz _ _ st1), fun s'' hal => ?_⟩
  have e2 : n₀ - (i' + 1) = m := by omega
  rw [e2]
  exact hkap s'' hal
theorem nextN_done {s : Shared} {Q : Option Value → Shared → Prop} {E : Value → Shared → Prop} (hh : A.handled = none) (hroom : A.depth < recursionLimit) (S : SideN a g ST) (h : AtN prog w A.in1 a g n₀ bs ST FIN n₀ s)
    (hQ : ∀ s' h', FIN s' → (∀ b o, s'.heap.get? b = some o → h'.get? b = some o) → Q none { s'.setGen g .finished with heap := h' }) : wpAny (model prog w) A (pyNext (.ref a)) Q E s := by
  obtain ⟨gs, hgs, hgo⟩ := h.go
  rw [Nat.sub_self] at hgo
  refine wpAny_pyNext_genexpQ (P := fun n _ s₁ => n = 0 ∧ FIN s₁) hh (S.lim _ _ h.st) hroom (S.gen _ _ h.st) hgs (hgo _ (S.set _ _ _ rfl h.st)) (fun v s₁ gs' hb hv => ?_) fun s₁ hp h' hk => ?_
  · obtain ⟨i', e, rfl, st1, hkap⟩ := hv
    exact False.elim (hkap s₁ st1)
  · exact hQ s₁ h' hp.2 hk
end
end Cl

set_option maxHeartbeats 0
namespace Cl
open PySem PySem.Spec PyProof.Rows L2
open GxR (TabB TabG Tabbed GenS inv_tab sh_eta)
/-- a generator expression's scope: its one name, the hidden one, captured names, globals -/
structure GenK (sc scope : Scope) (x : Str) : Prop where
  kind : scope.kind = .function
  co : scope.isCoroutine = false
  nocell : ∀ y ∈ scope.names, y.2 ≠ .cell
  dot : scope.names.lookup (".0" : Str) = some .local
  own : ∀ y ∈ scope.names, y.2 = .local → y.1 = x ∨ y.1 = ".0"
  par : scope.names.lookup x = some .local
  free : ∀ y ∈ scope.names, y.2 = .free → sc.names.lookup y.1 = some .cell ∨ sc.names.lookup y.1 = some .free
def genKB (sc scope : Scope) (x : Str) : Bool :=
  decide (scope.kind = .function) && (!scope.isCoroutine && (decide (scope.names.lookup (".0" : Str) = some .local) && (decide (scope.names.lookup x = some .local) && scope.names.all fun y => !decide (y.2 = .cell) && ((!decide (y.2 = .local) || (decide (y.1 = x) || decide (y.1 = ".0"))) && (!decide (y.2 = .free) || (decide (sc.names.lookup y.1 = some .cell) || decide (sc.names.lookup y.1 = some .free)))))))
theorem genK_by {sc scope : Scope} {x : Str} (h : genKB sc scope x = true) : GenK sc scope x := by
  unfold genKB at h
  simp only [Bool.and_eq_true, Bool.or_eq_true, Bool.not_eq_true', decide_eq_true_eq, decide_eq_false_iff_not, List.all_eq_true] at h
  obtain ⟨h1, h2, h3, h4, h5⟩ := h
  refine ⟨h1, h2, fun y hy => (h5 y hy).1, h3, fun y hy e => ?_, h4, fun y hy e => ?_⟩
  · rcases (h5 y hy).2.1 with z | z
    · exact absurd e z
    · exact z
  · rcases (h5 y hy).2.2 with z | z
    · exact absurd e z
    · exact z
theorem GenK.has {X : Cx} {scope : Scope} {x : Str} (L : GenK X.env.scope scope x) (ok : X.Ok) : ∀ y ∈ scope.names, y.2 = .free → ∃ c, X.env.cells.lookup y.1 = some c := fun y hy e => by
  rcases L.free y hy e with k | k
  · exact ok.has _ (.inl k)
  · exact ok.has _ (.inr k)
/-- the context of the generator expression's element -/
def genCx (X : Cx) (x : Str) (A : Around) (s1 : Shared) (H1 : Hp) (env : Env) : Cx where
  prog := X.prog
  w := X.w
  K := X.K
  mg := X.mg
  base := X.base
  A := A.deeper env
  N := x :: X.N
  s_0 := s1
  H_0 := H1
  env := env
  outer := X.stack
  stack := env :: X.stack
  ex := []
  fn := fun _ => false
  calm := true
  pn := []
  xe := fun _ _ => False
abbrev gEnv (X : Cx) (scope : Scope) (C : Addr) (code : Value) : Env := genEnv scope (cloFrom X.env.cells scope.names []) C code builtinsNs X.env
section
variable {X : Cx} {pins : List (Addr × Obj)} {σ : L2.St}
theorem gen_start {x : Str} {A : Around} {s1 s4 : Shared} {H1 H4 : Hp} {scope : Scope} {C P : Addr} {code : Value} {pn : List (Addr × Obj)} {m : Str → Option Value} (I : Inv X pins σ H1 s1) (L : GenK X.env.scope scope x) (hf : A.frames = some X.stack) (hd : A.handled = none) (hx : x ∉ X.N) (hdot : (".0" : Str) ∉ X.N)
    (hC : s1.heap.objs.size ≤ C) (hP : ∃ ps, H1 P = some (.tbl ps)) (kp : ∀ b o, b ≠ P → s1.heap.get? b = some o → s4.heap.get? b = some o) (un : Un (frs X.stack) [] H1 H4 s1.heap s4.heap) (hok : HOk X.prog X.w H4 s4.heap) (bare : AllBare s4.gens) (hos : s4.os = s1.os)
    (hns : s4.heap.Ns C m) (hCn : H4 C = none) (hpn : ∀ p ∈ pn, s4.heap.get? p.1 = some p.2 ∧ H4 p.1 = none ∧ p.1 ≠ C ∧ p.1 ∉ frs X.stack ∧ ∀ v, p.2.data ≠ .cell v) :
    Inv (genCx X x A s1 H1 (gEnv X scope C code)) pn (none :: σ) H4 s4 := by
  have hfree := L.has I.ok
  have e0 := I.env0
  obtain ⟨ps, hP⟩ := hP
  have cm : ∀ {y c}, (cloFrom X.env.cells scope.names []).lookup y = some c → X.env.cells.lookup y = some c := fun {y c} e => by
    rcases cloFrom_mem (PySem.mem_of_lookup e) with hm | ⟨h1, h2⟩
    · cases hm
    · obtain ⟨c1, hc⟩ := hfree _ h1 rfl
      have hc : X.env.cells.lookup y = some c1 := hc
      have e2 : c = c1 := by
        rw [h2, hc] <;> rfl
      rw [e2]
      exact hc
  have look : ∀ {y}, scope.names.lookup y = some .free → ∃ c, (cloFrom X.env.cells scope.names []).lookup y = some c := fun {y} hl => by
    have hy : (y, NameKind.free) ∈ scope.names := PySem.mem_of_lookup hl
    exact mem_lookup (cloFrom_has (cells := X.env.cells) (acc := []) hy)
  have nP : ∀ b, H1 b = none → b ≠ P := fun b n z => by rw [z, hP] at n; cases n
  have cellK : ∀ {c : Addr} {v : Option Value}, H1 c = none → s1.heap.IsCell c v → s4.heap.IsCell c v := fun {c v} n ⟨o, ho, hd⟩ => ⟨_, kp _ _ (nP _ n) ho, hd⟩
  have noA : ∀ b : Addr, b ∉ (genCx X x A s1 H1 (gEnv X scope C code)).ex := fun b z => absurd (show b ∈ ([] : List Addr) from z) (by simp)
  refine ⟨⟨e0.mod, L.kind, I.ok.glob, rfl, hC, fun y z c e1 e2 => I.ok.inj y z c (cm e1) (cm e2), fun y hy => ?_, fun y c z _ => ?_, fun _ => hd, Around.frames_deeper hf, .inr ⟨rfl, rfl⟩, fun b z => absurd z (noA b), e0.bs, e0.bsz, fun b _ _ => noA b,
      fun b z => absurd z (noA b), e0.funs, e0.frf⟩,
    hos, bare, un, ⟨_, hns, fun i y v' e1 e2 e3 => ?_⟩, fun y c e => ?_, hCn, fun y c e => ?_, fun q hq => ?_, hok, ?_⟩
  · have hy : scope.names.lookup y = some .cell ∨ scope.names.lookup y = some .free := hy
    rcases hy with hy | hy
    · exact absurd rfl (L.nocell _ (PySem.mem_of_lookup hy))
    · exact look hy
  · have z : false = true := z
    cases z
  · have e3 : Vis scope y := e3
    cases i with
    | zero =>
      have e2 : some (none : Option V) = some (some v') := e2
      cases e2
    | succ i =>
      have e1 : X.N[i]? = some y := e1
      have e2 : σ[i]? = some (some v') := e2
      have hyN := List.mem_of_getElem? e1
      rcases e3 with k | k | k
      · rcases L.own _ (PySem.mem_of_lookup k) rfl with z | z
        · exact absurd (by rw [← show y = x from z]; exact hyN) hx
        · exact absurd (by rw [← show y = ".0" from z]; exact hyN) hdot
      · exact absurd rfl (L.nocell _ (PySem.mem_of_lookup k))
      · obtain ⟨m, hn, hl⟩ := I.loc
        have hvis : Vis X.env.scope y := (L.free _ (PySem.mem_of_lookup k) rfl).elim (fun k => .inr (.inl k)) (fun k => .inr (.inr k))
        obtain ⟨w', r, q⟩ := hl i y v' e1 e2 hvis
        obtain ⟨c2, h2⟩ := look k
        refine ⟨w', r, .inr ⟨.inr k, c2, h2, ?_⟩⟩
        have c1 := cm h2
        rcases q with ⟨k', _⟩ | ⟨_, c3, e', z⟩
        · have k' : X.env.scope.names.lookup y = some .local := k'
          rcases L.free _ (PySem.mem_of_lookup k) rfl with k2 | k2 <;> rw [show X.env.scope.names.lookup y = _ from k2] at k' <;> cases k'
        · rw [c1] at e'
          cases e'
          exact cellK (I.freeC y _ c1) z
  · obtain ⟨w', z⟩ := I.cell y c (cm e)
    exact ⟨w', cellK (I.freeC y c (cm e)) z⟩
  · have n1 := I.freeC y c (cm e)
    obtain ⟨w', z⟩ := I.cell y c (cm e)
    obtain ⟨o, ho, _⟩ := z
    exact un.free c o ho n1 (by simp)
  · have hq : q ∈ pn := hq
    exact hpn q hq
  · show (none :: σ).length = (x :: X.N).length
    rw [List.length_cons, List.length_cons, I.len]
end
end Cl

set_option maxHeartbeats 0
namespace Cl
open PySem PySem.Spec PyProof.Rows L2
open GxR (TabB TabG Tabbed GenS inv_tab sh_eta)
theorem Inv.setGen {X : Cx} {pins : List (Addr × Obj)} {σ : L2.St} {H : Hp} {s : Shared} {g : Nat} {y : GenState} (I : Inv X pins σ H s) (hy : y.bare = true) : Inv X pins σ H (s.setGen g y) :=
  ⟨I.ok, I.os, allBare_setGen I.bare hy, I.base, I.loc, I.cell, I.free, I.freeC, I.pin, I.hok, I.len⟩
/-! ### the states of such a generator -/
def IterO (t : Addr) (i : Nat) (o : Obj) : Prop := o.cls = .type "tuple_iterator" ∧ o.data = .fields #[.ref t, .int (i : Nat) 0]
def GenO (g : Nat) (o : Obj) : Prop := ∃ nm qn, o.cls = .type "generator" ∧ o.data = .fields #[.int (g : Nat) 0, nm, qn] ∧ o.slots = #[]
structure GW (G : Cx) (x : Str) (I a t : Addr) (g : Nat) (xs : List V) (bs : Nat → Bool) (Pv : Nat → Hp → Prop) (tel : TE) (σ : L2.St) : Prop where
  calm : G.calm = true
  nd : G.N.Nodup
  nx : G.N[0]? = some x
  loc : G.env.scope.names.lookup x = some .local
  pn : G.pn = []
  xe : ∀ u s, ¬ G.xe u s
  tup : ∀ i H, Pv i H → SqT G.K H t xs
  I1 : G.s_0.heap.objs.size ≤ I
  I2 : I ≠ G.env.locals
  I3 : ∀ y c, G.env.cells.lookup y = some c → c ≠ I
  I4 : I ∉ G.fs
  I5 : I ≠ a
  el : ∀ i v H, xs[i]? = some v → Pv i H → tel (some v :: σ) H fun y H' => y = .bl (bs i) ∧ Pv (i + 1) H'
section
variable {G : Cx} {x : Str} {I a t : Addr} {g : Nat} {xs : List V} {bs : Nat → Bool} {Pv : Nat → Hp → Prop} {tel : TE} {σ : L2.St}
def gST (G : Cx) (I a t : Addr) (g : Nat) (Pv : Nat → Hp → Prop) (σ : L2.St) (i : Nat) (s : Shared) : Prop :=
  ∃ (H : Hp) (v : Option V) (oI oA : Obj), Inv G [(I, oI), (a, oA)] (v :: σ) H s ∧ Pv i H ∧ IterO t i oI ∧ GenO g oA ∧ g < s.gens.size
def gM1 (G : Cx) (I a t : Addr) (g : Nat) (xs : List V) (Pv : Nat → Hp → Prop) (σ : L2.St) (i : Nat) (u : Value) (s : Shared) : Prop :=
  ∃ (H : Hp) (v : Option V) (w : V) (oI oA : Obj), Inv G [(I, oI), (a, oA)] (v :: σ) H s ∧ Pv i H ∧ xs[i]? = some w ∧ RelV w u ∧ IterO t (i + 1) oI ∧ GenO g oA ∧ g < s.gens.size
def gM2 (G : Cx) (I a t : Addr) (g : Nat) (xs : List V) (Pv : Nat → Hp → Prop) (σ : L2.St) (i : Nat) (s : Shared) : Prop :=
  ∃ (H : Hp) (w : V) (oI oA : Obj), Inv G [(I, oI), (a, oA)] (some w :: σ) H s ∧ Pv i H ∧ xs[i]? = some w ∧ IterO t (i + 1) oI ∧ GenO g oA ∧ g < s.gens.size
def gFIN (G : Cx) (Pv : Nat → Hp → Prop) (σ : L2.St) (n : Nat) (s : Shared) : Prop := ∃ (H : Hp) (v : Option V), Inv G [] (v :: σ) H s ∧ Pv n H
theorem gw_gen {elt : Expr} {px : Pos} {A : Around} (hA : G.A = A.deeper G.env) (hh : A.handled = none) (W : GW G x I a t g xs bs Pv tel σ) (helt : PE G elt tel) :
    GenN G.prog G.w A G.env I x px elt xs.length bs (gST G I a t g Pv σ) (gM1 G I a t g xs Pv σ) (gM2 G I a t g xs Pv σ) (gFIN G Pv σ xs.length) := by
  have pinI : ∀ {oI oA : Obj} {v : Option V} {H : Hp} {s : Shared}, Inv G [(I, oI), (a, oA)] (v :: σ) H s → (s.heap.get? I = some oI ∧ H I = none) ∧ (s.heap.get? a = some oA ∧ H a = none ∧ a ≠ G.env.locals ∧ a ∉ G.fs ∧ ∀ v, oA.data ≠ .cell v) := fun {oI oA v H s} J => by
    have p1 := J.pin (I, oI) (List.mem_append_right _ (by simp))
    have p2 := J.pin (a, oA) (List.mem_append_right _ (by simp))
    exact ⟨⟨p1.1, p1.2.1⟩, p2⟩
  have rest : ∀ {oI oA : Obj} {v : Option V} {H : Hp} {s : Shared}, Inv G [(I, oI), (a, oA)] (v :: σ) H s → Inv G [(a, oA)] (v :: σ) H s := fun {oI oA v H s} J => J.pins_of fun p hp => by
    rw [List.mem_singleton.mp hp]
    exact (pinI J).2
  have turn : ∀ {oI oA : Obj} {v : Option V} {H : Hp} {s : Shared} {h' : Heap} {tk : Nat}, Inv G [(I, oI), (a, oA)] (v :: σ) H s → (∀ b o, b ∉ [I] → s.heap.get? b = some o → h'.get? b = some o) → Inv G [(a, oA)] (v :: σ) H { s with heap := h', toks := tk } := fun {oI oA v H s h' tk} J k =>
    (rest J).turned (it := I) (fun b o hb e => k b o (by simpa using hb) e) (pinI J).1.2 W.I2 (.inr W.I1) W.I3 fun p hp => by
      rw [W.pn] at hp
      rw [List.mem_singleton.mp hp]
      exact fun z => W.I5 z.symm
  have walk : ∀ {oI oA : Obj} {v : Option V} {H : Hp} {s : Shared} {i : Nat}, Inv G [(I, oI), (a, oA)] (v :: σ) H s → Pv i H → IterO t i oI → ∃ its : List Value, Vals xs its ∧ its.toArray.size = xs.length ∧ Walks G.prog G.w (A.deeper G.env) I [I, t] [I] its.toArray.size (fun i v => its.toArray[i]? = some v) (fun i h => h.IsTupleIter I t i ∧ h.IsTuple t its.toArray) ∧ s.heap.IsTupleIter I t i ∧ s.heap.IsTuple t its.toArray := fun {oI oA v H s i} J p hI => by
    obtain ⟨its, rv, tup, hz⟩ := J.tuple (W.tup i H p)
    have e1 := (pinI J).1.1
    have ne : t ≠ I := fun z => by
      obtain ⟨o, e2, e3, _⟩ := id tup
      rw [z, e1] at e2
      cases e2
      rw [hI.1] at e3
      exact absurd (Value.type.inj e3) (by decide)
    exact ⟨its, rv, by rw [List.size_toArray]; exact rv.length.symm, Walks.tuple (prog := G.prog) (w := G.w) (A := A.deeper G.env) (show (A.deeper G.env).handled = none from hh) I t ne its.toArray, ⟨oI, e1, hI.1, hI.2⟩, tup⟩
  refine ⟨fun i s Q E hi st hQ => ?_, fun i v s Q E h hQ => ?_, fun i s Q E h hQ => ?_, fun s Q E st hQ => ?_, fun s Q E st hQ => ?_⟩
  · obtain ⟨H, v, oI, oA, J, p, hI, hA, hg⟩ := st
    obtain ⟨its, rv, sz, Wk, d1, d2⟩ := walk J p hI
    refine Wk.item i s Q E (by rw [sz]; exact hi) ⟨d1, d2⟩ fun u h' tk hP st' hk => hQ u _ ?_
    have hu : its[i]? = some u := by simpa using hP
    obtain ⟨w, hw⟩ : ∃ w, xs[i]? = some w := ⟨_, List.getElem?_eq_getElem hi⟩
    obtain ⟨u', ev, rel⟩ := rv.get hw
    obtain rfl : u' = u := Option.some.inj (ev.symm.trans hu)
    obtain ⟨oI', g1, g2, g3⟩ := st'.1
    have J1 : Inv G [(a, oA)] (v :: σ) H { s with heap := h', toks := tk } := turn J hk
    refine ⟨H, v, w, oI', oA, J1.pins_of fun q hq => ?_, p, hw, rel, ⟨g2, g3⟩, hA, hg⟩
    rcases List.mem_cons.mp hq with rfl | hq
    · exact ⟨g1, (pinI J).1.2, W.I2, W.I4, fun v z => by rw [g3] at z; cases z⟩
    · rw [List.mem_singleton.mp hq]
      exact J1.pin (a, oA) (List.mem_append_right _ (by simp))
  · obtain ⟨H, v0, w, oI, oA, J, p, hw, rel, hI, hA2, hg⟩ := h
    refine GenW.wpAny_gsz (n := g + 1) hg ?_
    rw [← hA]
    refine wpAny_mono ((pg_name (X := G) (i := 0) W.nd W.nx (.inl W.loc) (.inr W.loc)).run _ s _ H w v (fun σ' H' => σ' = some w :: σ ∧ H' = H) J rel ⟨rfl, rfl⟩) (fun _ s' hs hsz => ?_) fun u s' hs => absurd hs (W.xe u s')
    obtain ⟨σ', H', J', rfl, rfl⟩ := hs
    exact hQ s' ⟨_, w, oI, oA, J', p, hw, hI, hA2, hsz⟩
  · obtain ⟨H, w, oI, oA, J, p, hw, hI, hA2, hg⟩ := h
    refine GenW.wpAny_gsz (n := g + 1) hg ?_
    rw [← hA]
    refine wpAny_mono (helt.run _ s _ H _ J (W.el i w H hw p)) (fun u s' hs hsz => ?_) fun u s' hs => absurd hs (W.xe u s')
    obtain ⟨y, H', J', r, rfl, p'⟩ := hs
    obtain rfl : u = Value.bool (bs i) := r
    exact hQ s' ⟨H', _, oI, oA, J', p', hI, hA2, hsz⟩
  · obtain ⟨H, v, oI, oA, J, p, hI, hA2, hg⟩ := st
    obtain ⟨its, rv, sz, Wk, d1, d2⟩ := walk J p hI
    rw [← sz] at d1
    refine Wk.done s Q E ⟨d1, d2⟩ fun h' tk hk => hQ _ ⟨H, v, ?_, p⟩
    have J1 : Inv G [(a, oA)] (v :: σ) H { s with heap := h', toks := tk } := turn J hk
    exact J1.pins_of fun q hq => nomatch hq
  · obtain ⟨H, v, oI, oA, J, p, hI, hA2, hg⟩ := st
    obtain ⟨its, rv, sz, Wk, d1, d2⟩ := walk J p hI
    exact Wk.self 0 s Q E ⟨d1, d2⟩ hQ
theorem gw_side : SideN a g (gST G I a t g Pv σ) where
  gen := fun i s ⟨H, v, oI, oA, J, _, _, ⟨nm, qn, h1, h2, h3⟩, _⟩ => ⟨oA, nm, qn, (J.pin (a, oA) (List.mem_append_right _ (by simp))).1, h1, h2, h3⟩
  lim := fun i s ⟨H, v, oI, oA, J, _⟩ => J.nolimit
  sz := fun i s ⟨_, _, _, _, _, _, _, _, h⟩ => h
  set := fun i s y hy ⟨H, v, oI, oA, J, p, hI, hA, hg⟩ => ⟨H, v, oI, oA, Inv.setGen J hy, p, hI, hA, by rw [GenW.setGen_size]; exact hg⟩
end
/-! ### the loops of all and any over it -/
section
variable {prog : Program} {w : World} {A : Around} {a : Addr} {g n₀ : Nat} {bs : Nat → Bool} {ST : Nat → Shared → Prop} {FIN : Shared → Prop} {R : Result → Shared → Prop}
theorem all_loopN (hh : A.handled = none) (hroom : A.depth < recursionLimit) (S : SideN a g ST) : ∀ (k i : Nat) (s : Shared), n₀ - i = k → i ≤ n₀ → AtN prog w A.in1.in1 a g n₀ bs ST FIN i s → (∀ j, j < i → bs j = true) →
    (∀ i s', i < n₀ → bs i = false → ST (i + 1) s' → R (.ok (.ret (.bool false))) s') →
    (∀ s' h', (∀ j, j < n₀ → bs j = true) → FIN s' → (∀ b o, s'.heap.get? b = some o → h'.get? b = some o) → R (.ok (.ret (.bool true))) { s'.setGen g .finished with heap := h' }) →
    codeAny (model prog w) A (.builtin "all.loop" ⟨[.ref a], []⟩) R s := by
  intro k
  induction k with
  | zero =>
    intro i s hk hi h pre r1 r2
    have hin : i = n₀ := by omega
    subst hin
    refine codeAny_builtin F.entry_all_loop ?_
    rw [Around.under_plainId F.plain_all_loop _]
    show wpAny _ A.in1 (pyNext (.ref a) >>= _) _ _ s
    refine wpAny_bind (nextN_done (A := A.in1) hh hroom S h fun s' h' hf hk => ?_)
    exact wpAny_bind (wpAny_rule (wpAny_pure (r2 s' h' pre hf hk)))
  | succ k ih =>
    intro i s hk hi h pre r1 r2
    have hlt : i < n₀ := by omega
    refine codeAny_builtin F.entry_all_loop ?_
    rw [Around.under_plainId F.plain_all_loop _]
    show wpAny _ A.in1 (pyNext (.ref a) >>= _) _ _ s
    refine wpAny_bind (nextN_item (A := A.in1) hh hroom S hlt h fun s' h' => ?_)
    refine wpAny_bind (wpAny_holding (wpAny_truthy_bool ?_))
    refine wpAny_bind (wpAny_letGo ?_)
    cases hb : bs i with
    | true =>
      simp only [if_true]
      exact wpAny_pure ⟨plainId_quiet F.plain_all_loop _, ih (i + 1) _ (by omega) hlt h' (fun j hj => by
        by_cases e : j = i
        · rw [e, hb]
        · exact pre j (by omega)) r1 r2⟩
    | false =>
      simp only [Bool.false_eq_true, if_false]
      exact wpAny_bind (wpAny_rule (wpAny_pure (r1 i s' hlt hb h'.st)))
theorem any_loopN (hh : A.handled = none) (hroom : A.depth < recursionLimit) (S : SideN a g ST) : ∀ (k i : Nat) (s : Shared), n₀ - i = k → i ≤ n₀ → AtN prog w A.in1.in1 a g n₀ bs ST FIN i s → (∀ j, j < i → bs j = false) →
    (∀ i s', i < n₀ → bs i = true → ST (i + 1) s' → R (.ok (.ret (.bool true))) s') →
    (∀ s' h', (∀ j, j < n₀ → bs j = false) → FIN s' → (∀ b o, s'.heap.get? b = some o → h'.get? b = some o) → R (.ok (.ret (.bool false))) { s'.setGen g .finished with heap := h' }) →
    codeAny (model prog w) A (.builtin "any.loop" ⟨[.ref a], []⟩) R s := by
  intro k
  induction k with
  | zero =>
    intro i s hk hi h pre r1 r2
    have hin : i = n₀ := by omega
    subst hin
    refine codeAny_builtin F.entry_any_loop ?_
    rw [Around.under_plainId F.plain_any_loop _]
    show wpAny _ A.in1 (pyNext (.ref a) >>= _) _ _ s
    refine wpAny_bind (nextN_done (A := A.in1) hh hroom S h fun s' h' hf hk => ?_)
    exact wpAny_bind (wpAny_rule (wpAny_pure (r2 s' h' pre hf hk)))
  | succ k ih =>
    intro i s hk hi h pre r1 r2
    have hlt : i < n₀ := by omega
    refine codeAny_builtin F.entry_any_loop ?_
    rw [Around.under_plainId F.plain_any_loop _]
    show wpAny _ A.in1 (pyNext (.ref a) >>= _) _ _ s
    refine wpAny_bind (nextN_item (A := A.in1) hh hroom S hlt h fun s' h' => ?_)
    refine wpAny_bind (wpAny_holding (wpAny_truthy_bool ?_))
    refine wpAny_bind (wpAny_letGo ?_)
    cases hb : bs i with
    | false =>
      simp only [Bool.false_eq_true, if_false]
      exact wpAny_pure ⟨plainId_quiet F.plain_any_loop _, ih (i + 1) _ (by omega) hlt h' (fun j hj => by
        by_cases e : j = i
        · rw [e, hb]
        · exact pre j (by omega)) r1 r2⟩
    | true =>
      simp only [if_true]
      exact wpAny_bind (wpAny_rule (wpAny_pure (r1 i s' hlt hb h'.st)))
end
end Cl

set_option maxHeartbeats 0
namespace Cl
open PySem PySem.Spec PyProof.Rows L2
open GxR (TabB TabG Tabbed GenS inv_tab sh_eta)
/-- all(elt for x in t), any(..), t a tuple: by a word on the heaps ahead of each turn -/
def tAllN (K : PySem.W.Frag) (P : Addr) (stop : Bool) (te tel : TE) : TE := fun σ H Q => te σ H fun v H1 => ∃ (t : Addr) (xs : List V) (bs : Nat → Bool) (Pv : Nat → Hp → Prop), v = .ref t ∧ SqT K H1 t xs ∧ TabG H1 P ∧
  (∀ i H, Pv i H → SqT K H t xs) ∧ (∀ H2, Same H1 H2 → TabG H2 P → Pv 0 H2) ∧
  (∀ i x H2, xs[i]? = some x → Pv i H2 → tel (some x :: σ) H2 fun y H3 => y = .bl (bs i) ∧ Pv (i + 1) H3) ∧
  (∀ i H2, i < xs.length → bs i = stop → Pv (i + 1) H2 → Q (.bl stop) H2) ∧ (∀ H2, (∀ i, i < xs.length → bs i = !stop) → Pv xs.length H2 → Q (.bl (!stop)) H2)
section
variable {X : Cx}
theorem gen_core {c P : Addr} {elt iter : Expr} {x : Str} {px gpos : Pos} {scope : Scope} {tel : TE} {k : Nat} {pins : List (Addr × Obj)} {σ : L2.St} {s1 : Shared} {H1 : Hp} {t : Addr} {xs : List V} {bs : Nat → Bool} {Pv : Nat → Hp → Prop} {Q' : Value → Shared → Prop}
    (hr : RG (k + 2) X.A) (TB : TabB X.base X.mg c P) (hcode : X.env.code = .ref c) (L : GenK X.env.scope scope x) (hx : x ∉ X.N) (hdot : (".0" : Str) ∉ X.N) (hN : X.N.Nodup)
    (helt : ∀ (s1 : Shared) (H1 : Hp) (C : Addr) (code : Value), RG k (X.A.in1.in1.deeper (gEnv X scope C code)) → PE (genCx X x X.A.in1.in1 s1 H1 (gEnv X scope C code)) elt tel)
    (I1 : Inv X pins σ H1 s1) (hS : SqT X.K H1 t xs) (hT : TabG H1 P) (hpt : ∀ i H, Pv i H → SqT X.K H t xs) (hp0 : ∀ H2, Same H1 H2 → TabG H2 P → Pv 0 H2)
    (hpe : ∀ i x H2, xs[i]? = some x → Pv i H2 → tel (some x :: σ) H2 fun y H3 => y = .bl (bs i) ∧ Pv (i + 1) H3)
    (hQ : ∀ (a : Addr) (g : Nat) (s5 : Shared) (ST : Nat → Shared → Prop) (FIN : Shared → Prop), s5.heap.IsGen a g → SideN a g ST → AtN X.prog X.w X.A.in1.in1 a g xs.length bs ST FIN 0 s5 →
      (∀ i s', ST i s' → ∃ H', (Pv i H') ∧ ∀ (b : Bool) (Q : VK), Q (.bl b) H' → EP X pins σ Q (.bool b) s') →
      (∀ s' h', FIN s' → (∀ b o, s'.heap.get? b = some o → h'.get? b = some o) → ∃ H', (Pv xs.length H') ∧ ∀ (b : Bool) (Q : VK), Q (.bl b) H' → EP X pins σ Q (.bool b) { s'.setGen g .finished with heap := h' }) → Q' (.ref a) s5) :
    wpAny (model X.prog X.w) X.A (pyIter (.ref t)) (fun it s₂ => s₂.heap.NoLimit ∧
      wpAny (model X.prog X.w) X.A (genexprCode X.env gpos (X.env.qual ++ "<genexpr>") scope) (fun code s₃ => wpAny (model X.prog X.w) X.A (builtinsFor X.env.globals X.env.builtins) (fun bi s₄ =>
        ∀ h', h'.Ns s₄.heap.objs.size (fun y => if y = ".0" then some it else none) → Heap.SameBut s₄.heap.objs.size (s₄.heap.push { cls := .type "frame", data := .dict #[] }) h' →
          Q' (.ref h'.objs.size) { s₄ with
            gens := s₄.gens.push (.fresh (.compStart (.GeneratorExp elt [⟨.Name x px, iter, [], 0⟩] scope gpos) 0 it .none (genEnv scope (cloFrom X.env.cells scope.names []) s₄.heap.objs.size code bi X.env))),
            toks := s₄.toks + 1 + 1 + 1,
            heap := h'.push { cls := .type "generator", data := .fields #[.int s₄.gens.size 0, .str "<genexpr>" (s₄.toks + 1), .str (X.env.qual ++ "<genexpr>") (s₄.toks + 1 + 1)] } }) X.xe s₃) X.xe s₂) X.xe s1 := by
  obtain ⟨ps, hP, ht⟩ := id hT
  obtain ⟨its, rv, tup, hz⟩ := I1.tuple hS
  refine wpAny_pyIter_tuple tup ?_
  have hPs : s1.heap.get? P = some { cls := .none, data := .fields ps } := I1.hok P _ hP
  have hPlt : P < s1.heap.objs.size := Heap.lt_size hPs
  generalize hito : ({ cls := .type "tuple_iterator", data := .fields #[.ref t, .int 0 0] } : Obj) = ito
  have hP2 : (s1.heap.push ito).get? P = some { cls := .none, data := .fields ps } := Heap.get?_push_of_some _ hPs
  have cd : PySem.W.CodeHd (s1.heap.push ito) c P := TB.code.keeps fun b u e => Heap.get?_push_of_some _ (I1.bk b u e)
  have lim2 : (s1.heap.push ito).NoLimit := I1.nolimit.push ito
  have sz2 : (s1.heap.push ito).objs.size = s1.heap.objs.size + 1 := Heap.size_push ..
  have cont : ∀ (code : Value) (h3 : Heap) (tk : Nat) (ps' : Array Value), Heap.ExtBut P (s1.heap.push ito) h3 → (s1.heap.push ito).objs.size ≤ h3.objs.size → h3.get? P = some { cls := .none, data := .fields ps' } → (∃ more, ps' = ps ++ more) → TriplesOk ps'.toList →
      wpAny (model X.prog X.w) X.A (builtinsFor X.env.globals X.env.builtins) (fun bi s₄ =>
        ∀ h', h'.Ns s₄.heap.objs.size (fun y => if y = ".0" then some (.ref s1.heap.objs.size) else none) → Heap.SameBut s₄.heap.objs.size (s₄.heap.push { cls := .type "frame", data := .dict #[] }) h' →
          Q' (.ref h'.objs.size) { s₄ with
            gens := s₄.gens.push (.fresh (.compStart (.GeneratorExp elt [⟨.Name x px, iter, [], 0⟩] scope gpos) 0 (.ref s1.heap.objs.size) .none (genEnv scope (cloFrom X.env.cells scope.names []) s₄.heap.objs.size code bi X.env))),
            toks := s₄.toks + 1 + 1 + 1,
            heap := h'.push { cls := .type "generator", data := .fields #[.int s₄.gens.size 0, .str "<genexpr>" (s₄.toks + 1), .str (X.env.qual ++ "<genexpr>") (s₄.toks + 1 + 1)] } }) X.xe { s1 with heap := h3, toks := tk } := by
    intro code h3 tk ps' hx3 hsz hP3 hmore ht3
    obtain ⟨bm, ob, e1, e2, e3, e4, e5, e6, e7, e8⟩ := TB.bm
    have keep3 : ∀ b u, b ≠ P → s1.heap.get? b = some u → h3.get? b = some u := fun b u hb e => hx3 b u hb (Heap.get?_push_of_some _ e)
    refine wpAny_builtinsFor (m := X.mg) (by rw [I1.ok.glob]; exact ((I1.mod.glob.keeps I1.bk).push ito).extBut hx3 TB.gP) e1 e2 (keep3 _ _ e4 (I1.bk _ _ e5)) e6 e7 e8 ?_
    intro h4 hns4 hsb4
    show Q' (.ref h4.objs.size) _
    have hC4 : h4.objs.size = h3.objs.size + 1 := by rw [hsb4.1, Heap.size_push]
    obtain ⟨more, em⟩ := hmore
    subst em
    have nP : ∀ b, H1 b = none → b ≠ P := fun b n z => by rw [z, hP] at n; cases n
    have keep4 : ∀ b u, b ≠ P → s1.heap.get? b = some u → h4.get? b = some u := fun b u hb e => hsb4.extBut b u (Nat.ne_of_lt (Nat.lt_of_lt_of_le (Heap.lt_size e) (Nat.le_trans (by rw [sz2]; exact Nat.le_succ _) hsz))) (Heap.get?_push_of_some _ (keep3 b u hb e))
    have hP4 : h4.get? P = some { cls := .none, data := .fields (ps ++ more) } := hsb4.extBut P _ (Nat.ne_of_lt (Nat.lt_of_lt_of_le hPlt (Nat.le_trans (by rw [sz2]; exact Nat.le_succ _) hsz))) (Heap.get?_push_of_some _ hP3)
    have hI4 : h4.get? s1.heap.objs.size = some ito := hsb4.extBut _ _ (Nat.ne_of_lt (Nat.lt_of_lt_of_le (by rw [sz2]; exact Nat.lt_succ_self _) hsz)) (Heap.get?_push_of_some _ (hx3 _ _ (fun z => Nat.ne_of_lt hPlt z.symm) (Heap.get?_push_size _ (by rw [← hito]; rfl))))
    generalize hgo : ({ cls := .type "generator", data := .fields #[.int s1.gens.size 0, .str "<genexpr>" (tk + 1), .str (X.env.qual ++ "<genexpr>") (tk + 1 + 1)] } : Obj) = go
    have hA5 : (h4.push go).get? h4.objs.size = some go := Heap.get?_push_size _ (by rw [← hgo]; rfl)
    have keep5 : ∀ b u, b ≠ P → s1.heap.get? b = some u → (h4.push go).get? b = some u := fun b u hb e => Heap.get?_push_of_some _ (keep4 b u hb e)
    have hP5 : (h4.push go).get? P = some { cls := .none, data := .fields (ps ++ more) } := Heap.get?_push_of_some _ hP4
    have hI5 : (h4.push go).get? s1.heap.objs.size = some ito := Heap.get?_push_of_some _ hI4
    generalize hgs : (GenState.fresh (.compStart (.GeneratorExp elt [⟨.Name x px, iter, [], 0⟩] scope gpos) 0 (.ref s1.heap.objs.size) .none (gEnv X scope h3.objs.size code))) = gs
    have gb : gs.bare = true := by rw [← hgs]; rfl
    have J := inv_tab (more := more) (h' := h4.push go) (g' := s1.gens.push gs) (d' := s1.drawn) (t' := tk + 1 + 1 + 1) I1 hP keep5 hP5 (I1.bare.push gb)
    have fresh : ∀ b, s1.heap.objs.size ≤ b → b ≠ P → upd H1 P (.tbl (ps ++ more)) b = none := fun b hb n => by rw [upd_ne n]; exact I1.hok.fresh hb
    have neP : ∀ b, s1.heap.objs.size ≤ b → b ≠ P := fun b hb z => by rw [z] at hb; exact absurd hPlt (Nat.not_lt.mpr hb)
    have noStk : ∀ b, s1.heap.objs.size ≤ b → b ∉ frs X.stack := fun b hb z => by
      rcases List.mem_cons.mp (I1.stkSub b z) with e | z
      · rw [e] at hb; exact absurd I1.lt (Nat.not_lt.mpr hb)
      · exact I1.nofs hb z
    have lI : s1.heap.objs.size ≤ s1.heap.objs.size := Nat.le_refl _
    have lC : s1.heap.objs.size ≤ h3.objs.size := Nat.le_trans (by rw [sz2]; exact Nat.le_succ _) hsz
    have lC2 : s1.heap.objs.size < h3.objs.size := Nat.lt_of_lt_of_le (by rw [sz2]; exact Nat.lt_succ_self _) hsz
    have lA : s1.heap.objs.size ≤ h4.objs.size := by rw [hC4]; exact Nat.le_trans lC (Nat.le_succ _)
    have un : Un (frs X.stack) [] H1 (upd H1 P (.tbl (ps ++ more))) s1.heap (h4.push go) := by
      have at_ : ∀ b, b ≠ P → upd H1 P (.tbl (ps ++ more)) b = H1 b := fun b h => upd_ne h
      have nQ : ∀ b u, H1 b = some u → (∀ q, u ≠ .tbl q) → b ≠ P := fun b u e q z => by
        rw [z, hP] at e
        exact q _ (Option.some.inj e).symm
      refine ⟨fun b o e n _ _ => keep5 b o (nP b n) e, fun b o e n _ _ => ⟨o.slots, keep5 b o (nP b n) e⟩, fun b o _ n _ => by rw [at_ b (nP b n)]; exact n, fun b o e _ => ?_, fun b ys e => by rw [at_ b (nQ b _ e fun q z => nomatch z)]; exact e, fun b o u e => by rw [at_ b (nQ b _ e fun q z => nomatch z)]; exact e, fun b qs e => ?_⟩
      · by_cases hb : b = P
        · rw [hb]; exact ⟨_, hP5⟩
        · exact ⟨o, keep5 b o hb e⟩
      · by_cases hb : b = P
        · rw [hb, hP] at e
          cases e
          exact ⟨more, by rw [hb, upd_same]⟩
        · exact ⟨#[], by rw [at_ b hb, e]; simp⟩
    have St := gen_start (C := h3.objs.size) (P := P) (code := code) (m := fun y => if y = ".0" then some (.ref s1.heap.objs.size) else none) (A := X.A.in1.in1) (s4 := { s1 with heap := h4.push go, gens := s1.gens.push gs, drawn := s1.drawn, toks := tk + 1 + 1 + 1 }) (pn := [(s1.heap.objs.size, ito), (h4.objs.size, go)]) I1 L I1.ok.frames hr.room.hd hx hdot lC ⟨ps, hP⟩ keep5 un J.hok J.bare rfl
      (hns4.push _) (fresh _ lC (neP _ lC)) (fun p hp => by
        rcases List.mem_cons.mp hp with rfl | hp
        · exact ⟨hI5, fresh _ lI (neP _ lI), Nat.ne_of_lt lC2, noStk _ lI, fun v z => by rw [← hito] at z; cases z⟩
        · rw [List.mem_singleton.mp hp]
          exact ⟨hA5, fresh _ lA (neP _ lA), by show h4.objs.size ≠ h3.objs.size; rw [hC4]; exact Nat.succ_ne_self _, noStk _ lA, fun v z => by rw [← hgo] at z; cases z⟩)
    have tb : Tabbed P H1 (upd H1 P (.tbl (ps ++ more))) := ⟨⟨ps ++ more, upd_same, ht3⟩, fun b hb => upd_ne hb⟩
    have sm := Same.tabbed hT tb
    have celI : ∀ y c, (cloFrom X.env.cells scope.names []).lookup y = some c → c ≠ s1.heap.objs.size := fun y c e z => by
      have hfree := L.has I1.ok
      have e2 : X.env.cells.lookup y = some c := by
        rcases cloFrom_mem (PySem.mem_of_lookup e) with hm | ⟨h1, h2⟩
        · cases hm
        · obtain ⟨c1, hc⟩ := hfree _ h1 rfl
          have hc : X.env.cells.lookup y = some c1 := hc
          have e2 : c = c1 := by rw [h2, hc] <;> rfl
          rw [e2]
          exact hc
      obtain ⟨v, q⟩ := I1.cell y c e2
      have := q.lt
      rw [z] at this
      exact Nat.lt_irrefl _ this
    have hrG : RG k (X.A.in1.in1.deeper (gEnv X scope h3.objs.size code)) := ⟨⟨hr.room.hd, by have := hr.room.dp; show X.A.depth + 1 + 3 * k + 5 < _; omega, by have := hr.room.un; show X.A.units + 1 + 1 + 3 + 16 * k + 200 < _; omega⟩, hr.gd⟩
    have GWw : GW (genCx X x X.A.in1.in1 s1 H1 (gEnv X scope h3.objs.size code)) x s1.heap.objs.size h4.objs.size t s1.gens.size xs bs Pv tel σ := by
      refine ⟨rfl, List.nodup_cons.mpr ⟨hx, hN⟩, rfl, L.par, rfl, fun u s z => z, hpt, lI, Nat.ne_of_lt lC2, celI, noStk _ lI, Nat.ne_of_lt (by rw [hC4]; exact Nat.lt_succ_of_lt lC2), fun i v H hv p => hpe i v H hv p⟩
    have GG := gw_gen (px := px) (elt := elt) (A := X.A.in1.in1) (by rfl) hr.room.hd GWw (helt s1 H1 _ _ hrG)
    have eC : s1.gens.push gs = s1.gens.push gs := rfl
    have p0 : Pv 0 (upd H1 P (.tbl (ps ++ more))) := hp0 _ sm tb.1
    have st0 : gST (genCx X x X.A.in1.in1 s1 H1 (gEnv X scope h3.objs.size code)) s1.heap.objs.size h4.objs.size t s1.gens.size Pv σ 0 { s1 with heap := h4.push go, gens := s1.gens.push gs, drawn := s1.drawn, toks := tk + 1 + 1 + 1 } :=
      ⟨_, none, ito, go, St, p0, by rw [← hito]; exact ⟨rfl, rfl⟩, by rw [← hgo]; exact ⟨_, _, rfl, rfl, rfl⟩, by show s1.gens.size < (s1.gens.push gs).size; rw [Array.size_push]; exact Nat.lt_succ_self _⟩
    have side := gw_side (G := genCx X x X.A.in1.in1 s1 H1 (gEnv X scope h3.objs.size code)) (I := s1.heap.objs.size) (a := h4.objs.size) (t := t) (g := s1.gens.size) (Pv := Pv) (σ := σ)
    have back : ∀ {pn : List (Addr × Obj)} {v : Option V} {H : Hp} {s' : Shared}, Inv (genCx X x X.A.in1.in1 s1 H1 (gEnv X scope h3.objs.size code)) pn (v :: σ) H s' → ∀ (b : Bool) (Q : VK), Q (.bl b) H → EP X pins σ Q (.bool b) s' := fun {pn v H s'} J b Q q =>
      I1.after ⟨.bl b, H, J.os, J.bare, J.base, J.hok, rfl, q⟩
    have out1 : ∀ i s', gST (genCx X x X.A.in1.in1 s1 H1 (gEnv X scope h3.objs.size code)) s1.heap.objs.size h4.objs.size t s1.gens.size Pv σ i s' → ∃ H', (Pv i H') ∧ ∀ (b : Bool) (Q : VK), Q (.bl b) H' → EP X pins σ Q (.bool b) s' :=
      fun i s' ⟨H', v, oI, oA, J', p, _⟩ => ⟨H', p, fun b Q q => back J' b Q q⟩
    have out2 : ∀ s' h', gFIN (genCx X x X.A.in1.in1 s1 H1 (gEnv X scope h3.objs.size code)) Pv σ xs.length s' → (∀ b o, s'.heap.get? b = some o → h'.get? b = some o) → ∃ H', (Pv xs.length H') ∧ ∀ (b : Bool) (Q : VK), Q (.bl b) H' → EP X pins σ Q (.bool b) { s'.setGen s1.gens.size .finished with heap := h' } :=
      fun s' h' ⟨H', v, J', p⟩ k => ⟨H', p, fun b Q q => back (Inv.kept (t' := s'.toks) (Inv.setGen (g := s1.gens.size) (y := .finished) J' rfl) k) b Q q⟩
    refine hQ h4.objs.size s1.gens.size _ _ _ (side.gen 0 _ st0) side ⟨st0, gs, Array.getElem?_push_size .., fun s'' hal => ?_⟩ out1 out2
    rw [← hgs]
    exact ⟨rfl, by rw [Nat.sub_zero]; exact seg_startN (iter := iter) (scope := scope) (pos := gpos) L.co GG s'' s'' hal⟩
  refine ⟨lim2, ?_⟩
  cases hf : codeAmong gpos ps.toList with
  | none =>
    refine wpAny_genexprCodeX hcode (cd.code hP2 ht) (cd.tab hP2) hf fun c' h' tk hx hge hlt hco' _ htab' _ => ?_
    obtain ⟨o1, vs, f1, tf, fl, tg, inF, tx, tt, op, _, _, _, _, _, _, _, _, _, htr, _⟩ := hco'
    exact cont _ h' tk _ hx (Nat.le_trans hge (Nat.le_of_lt hlt)) htab'.2 ⟨_, rfl⟩ htr
  | some cv =>
    refine wpAny_genexprCode_hit hcode (cd.code hP2 ht) hf ?_
    exact cont cv (s1.heap.push ito) s1.toks ps (Heap.ExtBut.refl _ _) (Nat.le_refl _) hP2 ⟨#[], by simp⟩ ht
theorem pe_allN {c P : Addr} {elt iter : Expr} {x : Str} {px p pos gpos : Pos} {scope : Scope} {te tel : TE} {k : Nat}
    (hr : RG (k + 2) X.A) (hg : Gl X "all") (hm : X.mg "all" = none) (TB : TabB X.base X.mg c P) (hcode : X.env.code = .ref c) (L : GenK X.env.scope scope x) (hx : x ∉ X.N) (hdot : (".0" : Str) ∉ X.N) (hN : X.N.Nodup) (hi : PE X iter te)
    (helt : ∀ (s1 : Shared) (H1 : Hp) (C : Addr) (code : Value), RG k (X.A.in1.in1.deeper (gEnv X scope C code)) → PE (genCx X x X.A.in1.in1 s1 H1 (gEnv X scope C code)) elt tel)
    (hs : ∀ v, genFold iter X.env v = pure v := by intro _; rfl)
    (he : starEach [.GeneratorExp elt [⟨.Name x px, iter, [], 0⟩] scope gpos] X.env = (false, eval (.GeneratorExp elt [⟨.Name x px, iter, [], 0⟩] scope gpos) X.env) :: starEach [] X.env := by rfl) :
    PE X (.Call (.Name "all" p) [.GeneratorExp elt [⟨.Name x px, iter, [], 0⟩] scope gpos] [] pos) (tAllN X.K P false te tel) := by
  refine ⟨fun pins s σ H Q I h => ?_⟩
  refine wpAny_Call_Name_kw (ld_blt I hg hm PyProof.Rows.boot_all ?_)
  refine PyProof.Rows.callWith_builtin1 ?_ he (by rfl)
  rw [he]
  show wpAny _ _ (spliced ((false, eval (.GeneratorExp elt [⟨.Name x px, iter, [], 0⟩] scope gpos) X.env) :: backTo pos (starEach [] X.env))) _ _ s
  refine Calls.spliced_cons ?_
  refine wpAny_GeneratorExp_make L.co (closure_ok (L.has I.ok)) L.nocell L.dot L.kind (by have := hr.room.dp; omega) ?_ hs
  refine thn (hi.run pins s σ H _ I h) fun xv s1 ⟨v, H1, I1, r1, q1⟩ => ?_
  obtain ⟨t, xs, bs, Pv, rfl, hS, hT, hpt, hp0, hpe, q2, q3⟩ := q1
  cases r1
  refine gen_core (gpos := gpos) (px := px) (iter := iter) (x := x) (elt := elt) (scope := scope) (Q' := fun v s' => wpAny (model X.prog X.w) X.A (spliced (backTo pos (starEach [] X.env))) (fun vs s2 => wpAny (model X.prog X.w) X.A (call (.builtin "all") (v :: vs)) (EP X pins σ Q) X.xe s2) X.xe s') hr TB hcode L hx hdot hN helt I1 hS hT hpt hp0 hpe fun a g s5 ST FIN hgen side at_ out1 out2 => ?_
  refine Calls.spliced_nil ?_
  refine call_function_tree PySem.F.kind_all PySem.F.plain_all PySem.F.entry_all (PySem.F.args_all1 _) ?_
  unfold Builtin.«all»
  refine wpAny_bind (m := oneArg "all" _) (wpAny_pure ?_)
  refine wpAny_bind (wpAny_pyIter_gen hgen ?_)
  refine wpAny_pure ⟨plainId_quiet PySem.F.plain_all_loop _, all_loopN (A := X.A) hr.room.hd (by have := hr.room.dp; omega) side _ 0 s5 rfl (Nat.zero_le _) at_ (fun j hj => absurd hj (Nat.not_lt_zero _)) (fun i s' hi hb st => ?_) fun s' h' all hf hk => ?_⟩
  · obtain ⟨H', p, e⟩ := out1 (i + 1) s' st
    exact e false Q (q2 i H' hi hb p)
  · obtain ⟨H', p, e⟩ := out2 s' h' hf hk
    exact e true Q (q3 H' all p)
theorem pe_anyN {c P : Addr} {elt iter : Expr} {x : Str} {px p pos gpos : Pos} {scope : Scope} {te tel : TE} {k : Nat}
    (hr : RG (k + 2) X.A) (hg : Gl X "any") (hm : X.mg "any" = none) (TB : TabB X.base X.mg c P) (hcode : X.env.code = .ref c) (L : GenK X.env.scope scope x) (hx : x ∉ X.N) (hdot : (".0" : Str) ∉ X.N) (hN : X.N.Nodup) (hi : PE X iter te)
    (helt : ∀ (s1 : Shared) (H1 : Hp) (C : Addr) (code : Value), RG k (X.A.in1.in1.deeper (gEnv X scope C code)) → PE (genCx X x X.A.in1.in1 s1 H1 (gEnv X scope C code)) elt tel)
    (hs : ∀ v, genFold iter X.env v = pure v := by intro _; rfl)
    (he : starEach [.GeneratorExp elt [⟨.Name x px, iter, [], 0⟩] scope gpos] X.env = (false, eval (.GeneratorExp elt [⟨.Name x px, iter, [], 0⟩] scope gpos) X.env) :: starEach [] X.env := by rfl) :
    PE X (.Call (.Name "any" p) [.GeneratorExp elt [⟨.Name x px, iter, [], 0⟩] scope gpos] [] pos) (tAllN X.K P true te tel) := by
  refine ⟨fun pins s σ H Q I h => ?_⟩
  refine wpAny_Call_Name_kw (ld_blt I hg hm PyProof.Rows.boot_any ?_)
  refine PyProof.Rows.callWith_builtin1 ?_ he (by rfl)
  rw [he]
  show wpAny _ _ (spliced ((false, eval (.GeneratorExp elt [⟨.Name x px, iter, [], 0⟩] scope gpos) X.env) :: backTo pos (starEach [] X.env))) _ _ s
  refine Calls.spliced_cons ?_
  refine wpAny_GeneratorExp_make L.co (closure_ok (L.has I.ok)) L.nocell L.dot L.kind (by have := hr.room.dp; omega) ?_ hs
  refine thn (hi.run pins s σ H _ I h) fun xv s1 ⟨v, H1, I1, r1, q1⟩ => ?_
  obtain ⟨t, xs, bs, Pv, rfl, hS, hT, hpt, hp0, hpe, q2, q3⟩ := q1
  cases r1
  refine gen_core (gpos := gpos) (px := px) (iter := iter) (x := x) (elt := elt) (scope := scope) (Q' := fun v s' => wpAny (model X.prog X.w) X.A (spliced (backTo pos (starEach [] X.env))) (fun vs s2 => wpAny (model X.prog X.w) X.A (call (.builtin "any") (v :: vs)) (EP X pins σ Q) X.xe s2) X.xe s') hr TB hcode L hx hdot hN helt I1 hS hT hpt hp0 hpe fun a g s5 ST FIN hgen side at_ out1 out2 => ?_
  refine Calls.spliced_nil ?_
  refine call_function_tree PySem.F.kind_any PySem.F.plain_any PySem.F.entry_any (PySem.F.args_any1 _) ?_
  unfold Builtin.«any»
  refine wpAny_bind (m := oneArg "any" _) (wpAny_pure ?_)
  refine wpAny_bind (wpAny_pyIter_gen hgen ?_)
  refine wpAny_pure ⟨plainId_quiet PySem.F.plain_any_loop _, any_loopN (A := X.A) hr.room.hd (by have := hr.room.dp; omega) side _ 0 s5 rfl (Nat.zero_le _) at_ (fun j hj => absurd hj (Nat.not_lt_zero _)) (fun i s' hi hb st => ?_) fun s' h' all hf hk => ?_⟩
  · obtain ⟨H', p, e⟩ := out1 (i + 1) s' st
    exact e true Q (q2 i H' hi hb p)
  · obtain ⟨H', p, e⟩ := out2 s' h' hf hk
    exact e false Q (q3 H' all p)
end
end Cl

set_option maxHeartbeats 0
namespace Cl
open PySem PySem.Spec PyProof.Rows L2
/-! ### generator expressions over any iterator, any target -/
structure GenT (prog : Program) (w : World) (A : Around) (cenv : Env) (I : Addr) (tg : Expr) (elt : Expr) (n₀ : Nat) (bs : Nat → Bool) (ST : Nat → Shared → Prop) (M1 : Nat → Value → Shared → Prop) (M2 : Nat → Shared → Prop) (FIN : Shared → Prop) : Prop where
  item : ∀ (i : Nat) (s : Shared) (Q : Option Value → Shared → Prop) (E : Value → Shared → Prop), i < n₀ → ST i s → (∀ v s', wpAny (model prog w) (A.deeper cenv) (letOwnedTupleGo tg (.ref I) v) (fun _ s2 => M1 i v s2) (fun _ _ => False) s' → Q (some v) s') → wpAny (model prog w) (A.deeper cenv) (pyNext (.ref I)) Q E s
  asg : ∀ (i : Nat) (v : Value) (s : Shared) (Q : Unit → Shared → Prop) (E : Value → Shared → Prop), M1 i v s → (∀ s', M2 i s' → Q () s') → wpAny (model prog w) (A.deeper cenv) (assign tg cenv v) Q E s
  el : ∀ (i : Nat) (s : Shared) (Q : Value → Shared → Prop) (E : Value → Shared → Prop), M2 i s → (∀ s', ST (i + 1) s' → Q (.bool (bs i)) s') → wpAny (model prog w) (A.deeper cenv) (eval elt cenv) Q E s
  done : ∀ (s : Shared) (Q : Option Value → Shared → Prop) (E : Value → Shared → Prop), ST n₀ s → (∀ s', FIN s' → Q none s') → wpAny (model prog w) (A.deeper cenv) (pyNext (.ref I)) Q E s
  self : ∀ (s : Shared) (Q : Value → Shared → Prop) (E : Value → Shared → Prop), ST 0 s → Q (.ref I) s → wpAny (model prog w) (A.deeper cenv) (pyIter (.ref I)) Q E s
section
variable {prog : Program} {w : World} {A : Around} {cenv : Env} {I : Addr} {tg : Expr} {elt iter : Expr} {n₀ : Nat} {bs : Nat → Bool} {ST : Nat → Shared → Prop} {M1 : Nat → Value → Shared → Prop} {M2 : Nat → Shared → Prop} {FIN : Shared → Prop} {scope : Scope} {pos : Pos}
theorem seg_loopT (hco : cenv.scope.isCoroutine = false) (G : GenT prog w A cenv I tg elt n₀ bs ST M1 M2 FIN) :
    ∀ (k i : Nat) (s₀ s : Shared), n₀ - i = k → i ≤ n₀ → ST i s →
      Seg (model prog w) A (endN FIN) (protoN n₀ bs ST) k s₀
        (.compLoop (.GeneratorExp elt [⟨tg, iter, [], 0⟩] scope pos) 0 (.ref I) .none cenv)
        ((model prog w).den (.compLoop (.GeneratorExp elt [⟨tg, iter, [], 0⟩] scope pos) 0 (.ref I) .none cenv)) [] s := by
  intro k
  induction k with
  | zero =>
    intro i s₀ s hk hi hst
    have hin : i = n₀ := by omega
    subst hin
    show Seg _ A _ _ _ s₀ _ ((compTurn (.GeneratorExp elt [⟨tg, iter, [], 0⟩] scope pos) 0 (.ref I) .none cenv).onRaise (leaving cenv)) [] s
    rw [compTurn_gen, Sem.onRaise_eq_wrap]
    refine seg_bind_wrap (wpAny_standAt ?_)
    refine seg_bind_wrap ?_
    rw [over_comp]
    refine G.done s _ _ hst fun s' hf => ?_
    exact seg_end (.ok .next) ⟨rfl, rfl, hf⟩
  | succ k ih =>
    intro i s₀ s hk hi hst
    have hlt : i < n₀ := by omega
    show Seg _ A _ _ _ s₀ _ ((compTurn (.GeneratorExp elt [⟨tg, iter, [], 0⟩] scope pos) 0 (.ref I) .none cenv).onRaise (leaving cenv)) [] s
    rw [compTurn_gen, Sem.onRaise_eq_wrap]
    refine seg_bind_wrap (wpAny_standAt ?_)
    refine seg_bind_wrap ?_
    rw [over_comp]
    refine G.item i s _ _ hlt hst fun v s1 h1 => ?_
    refine seg_bind_wrap ?_
    rw [over_comp]
    refine wpAny_mono h1 (fun _ s1' h1' => ?_) (fun _ _ z => z.elim)
    refine seg_bind_wrap ?_
    rw [over_comp]
    refine G.asg i v s1' _ _ h1' fun s2 h2 => ?_
    refine seg_bind_wrap ?_
    simp only [List.forIn_nil]
    refine wpAny_pure ?_
    simp only [if_true]
    have hy : ∀ v, yieldOut cenv v = yieldValue v := fun v => by simp only [yieldOut, hco, Bool.false_eq_true, if_false]
    simp only [hy]
    rw [Sem.bind_eq_wrap', Sem.bind_eq_wrap', Sem.wrap_wrap, Sem.wrap_wrap]
    refine seg_wrap ?_
    rw [over_comp]
    refine G.el i s2 _ _ h2 fun s3 h3 => ?_
    refine seg_at (seg_yield rfl rfl rfl ⟨i, by omega, rfl, h3, fun s'' hal => ?_⟩)
    exact seg_again rfl (ih (i + 1) s'' s'' (by omega) hlt hal)
theorem seg_startT (hco : cenv.scope.isCoroutine = false) (G : GenT prog w A cenv I tg elt n₀ bs ST M1 M2 FIN) (s₀ s : Shared) (hst : ST 0 s) :
    Seg (model prog w) A (endN FIN) (protoN n₀ bs ST) n₀ s₀
      (.compStart (.GeneratorExp elt [⟨tg, iter, [], 0⟩] scope pos) 0 (.ref I) .none cenv)
      ((model prog w).den (.compStart (.GeneratorExp elt [⟨tg, iter, [], 0⟩] scope pos) 0 (.ref I) .none cenv)) [] s := by
  have loop := fun s₀ => seg_loopT (iter := iter) (scope := scope) (pos := pos) hco G n₀ 0 s₀ s (Nat.sub_zero _) (Nat.zero_le _) hst
  show Seg _ A _ _ _ s₀ _ ((compStart (.GeneratorExp elt [⟨tg, iter, [], 0⟩] scope pos) 0 (.ref I) .none cenv).onRaise (leaving cenv)) [] s
  unfold compStart
  rw [Sem.onRaise_eq_wrap]
  show Seg _ A _ _ _ s₀ _ ((ask >>= _).wrap _ _ _ _) [] s
  refine seg_bind_wrap (wpAny_askSetting ?_)
  split
  · exact seg_again rfl (loop s₀)
  · refine seg_bind_wrap (wpAny_rule ?_)
    first
      | (refine seg_bind_wrap (wpAny_standAt ?_)
         refine seg_bind_wrap ?_
         rw [over_start]
         exact G.self s _ _ hst (seg_again rfl (loop s₀)))
      | (show Seg _ A _ _ _ s₀ _ ((standAt iter.pos >>= _).wrap _ _ _ _) [] s
         refine seg_bind_wrap (wpAny_standAt ?_)
         refine seg_bind_wrap ?_
         rw [over_start]
         exact G.self s _ _ hst (seg_again rfl (loop s₀)))
end
end Cl

set_option maxHeartbeats 0
namespace Cl
open PySem PySem.Spec PyProof.Rows L2
open GxR (TabB TabG Tabbed GenS inv_tab sh_eta)
/-- a generator expression's scope with these own names -/
structure GenKL (sc scope : Scope) (xs : List Str) : Prop where
  kind : scope.kind = .function
  co : scope.isCoroutine = false
  nocell : ∀ y ∈ scope.names, y.2 ≠ .cell
  dot : scope.names.lookup (".0" : Str) = some .local
  own : ∀ y ∈ scope.names, y.2 = .local → y.1 ∈ xs ∨ y.1 = ".0"
  par : ∀ x ∈ xs, scope.names.lookup x = some .local
  free : ∀ y ∈ scope.names, y.2 = .free → sc.names.lookup y.1 = some .cell ∨ sc.names.lookup y.1 = some .free
def genKLB (sc scope : Scope) (xs : List Str) : Bool :=
  decide (scope.kind = .function) && (!scope.isCoroutine && (decide (scope.names.lookup (".0" : Str) = some .local) && ((xs.all fun x => decide (scope.names.lookup x = some .local)) && scope.names.all fun y => !decide (y.2 = .cell) && ((!decide (y.2 = .local) || (decide (y.1 ∈ xs) || decide (y.1 = ".0"))) && (!decide (y.2 = .free) || (decide (sc.names.lookup y.1 = some .cell) || decide (sc.names.lookup y.1 = some .free)))))))
theorem genKL_by {sc scope : Scope} {xs : List Str} (h : genKLB sc scope xs = true) : GenKL sc scope xs := by
  unfold genKLB at h
  simp only [Bool.and_eq_true, Bool.or_eq_true, Bool.not_eq_true', decide_eq_true_eq, decide_eq_false_iff_not, List.all_eq_true] at h
  obtain ⟨h1, h2, h3, h4, h5⟩ := h
  refine ⟨h1, h2, fun y hy => (h5 y hy).1, h3, fun y hy e => ?_, h4, fun y hy e => ?_⟩
  · rcases (h5 y hy).2.1 with z | z
    · exact absurd e z
    · exact z
  · rcases (h5 y hy).2.2 with z | z
    · exact absurd e z
    · exact z
theorem GenKL.has {X : Cx} {scope : Scope} {xs : List Str} (L : GenKL X.env.scope scope xs) (ok : X.Ok) : ∀ y ∈ scope.names, y.2 = .free → ∃ c, X.env.cells.lookup y.1 = some c := fun y hy e => by
  rcases L.free y hy e with k | k
  · exact ok.has _ (.inl k)
  · exact ok.has _ (.inr k)
/-- the context of the element -/
def genCxT (X : Cx) (xs : List Str) (A : Around) (s1 : Shared) (H1 : Hp) (env : Env) (fp : List Addr) : Cx where
  prog := X.prog
  w := X.w
  K := X.K
  mg := X.mg
  base := X.base
  A := A.deeper env
  N := xs ++ X.N
  s_0 := s1
  H_0 := H1
  env := env
  outer := X.stack
  stack := env :: X.stack
  ex := fp
  fn := fun _ => false
  calm := true
  pn := []
  xe := fun _ _ => False
section
variable {X : Cx} {pins : List (Addr × Obj)} {σ : L2.St}
theorem gen_startT {xs : List Str} {A : Around} {s1 s4 : Shared} {H1 H4 : Hp} {scope : Scope} {C P : Addr} {code : Value} {pn : List (Addr × Obj)} {m : Str → Option Value} {fp : List Addr} (I : Inv X pins σ H1 s1) (L : GenKL X.env.scope scope xs) (hf : A.frames = some X.stack) (hd : A.handled = none) (hx : ∀ x ∈ xs, x ∉ X.N) (hdot : (".0" : Str) ∉ X.N)
    (hC : s1.heap.objs.size ≤ C) (hP : ∃ ps, H1 P = some (.tbl ps)) (kp : ∀ b o, b ≠ P → s1.heap.get? b = some o → s4.heap.get? b = some o) (un : Un (frs X.stack) [] H1 H4 s1.heap s4.heap) (hok : HOk X.prog X.w H4 s4.heap) (bare : AllBare s4.gens) (hos : s4.os = s1.os)
    (hns : s4.heap.Ns C m) (hCn : H4 C = none) (hpn : ∀ p ∈ pn, s4.heap.get? p.1 = some p.2 ∧ H4 p.1 = none ∧ p.1 ≠ C ∧ p.1 ∉ frs X.stack ∧ ∀ v, p.2.data ≠ .cell v)
    (hfp : ∀ b ∈ fp, FpOk X pins H1 b) (hfC : ∀ b ∈ fp, b ≠ C) :
    Inv (genCxT X xs A s1 H1 (gEnv X scope C code) fp) pn (xs.map (fun _ => none) ++ σ) H4 s4 := by
  have hfree := L.has I.ok
  have e0 := I.env0
  obtain ⟨ps, hP⟩ := hP
  have cm : ∀ {y c}, (cloFrom X.env.cells scope.names []).lookup y = some c → X.env.cells.lookup y = some c := fun {y c} e => by
    rcases cloFrom_mem (PySem.mem_of_lookup e) with hm | ⟨h1, h2⟩
    · cases hm
    · obtain ⟨c1, hc⟩ := hfree _ h1 rfl
      have hc : X.env.cells.lookup y = some c1 := hc
      have e2 : c = c1 := by
        rw [h2, hc] <;> rfl
      rw [e2]
      exact hc
  have look : ∀ {y}, scope.names.lookup y = some .free → ∃ c, (cloFrom X.env.cells scope.names []).lookup y = some c := fun {y} hl => by
    have hy : (y, NameKind.free) ∈ scope.names := PySem.mem_of_lookup hl
    exact mem_lookup (cloFrom_has (cells := X.env.cells) (acc := []) hy)
  have nP : ∀ b, H1 b = none → b ≠ P := fun b n z => by rw [z, hP] at n; cases n
  have cellK : ∀ {c : Addr} {v : Option Value}, H1 c = none → s1.heap.IsCell c v → s4.heap.IsCell c v := fun {c v} n ⟨o, ho, hd⟩ => ⟨_, kp _ _ (nP _ n) ho, hd⟩
  have nst : ∀ b ∈ fp, b ∉ frs X.stack := fun b hb z => by
    obtain ⟨_, f1, f2, _⟩ := hfp b hb
    rcases List.mem_cons.mp (I.stkSub b z) with e | z
    · exact f1 e
    · exact f2 z
  have nbase : ∀ b o, X.base.get? b = some o → b ∉ fp := fun b o e z => by
    obtain ⟨_, _, _, f3, _⟩ := hfp b z
    rcases f3 with f | f
    · exact I.ok.noex b o e f
    · exact absurd (Nat.lt_of_lt_of_le (Heap.lt_size e) I.ok.bsz) (Nat.not_lt.mpr f)
  refine ⟨⟨e0.mod, L.kind, I.ok.glob, rfl, hC, fun y z c e1 e2 => I.ok.inj y z c (cm e1) (cm e2), fun y hy => ?_, fun y c z _ => ?_, fun _ => hd, Around.frames_deeper hf, .inr ⟨rfl, rfl⟩, fun b z => ⟨hfC b z, fun x c e => (hfp b z).2.2.2.2.1 x c (cm e)⟩, e0.bs, e0.bsz, nbase,
      nst, e0.funs, e0.frf⟩,
    hos, bare, ⟨fun b o e n h1 _ => un.keep b o e n h1 (by simp), fun b o e n h1 _ => un.slot b o e n h1 (by simp), fun b o e n _ => un.free b o e n (by simp), fun b o e _ => un.there b o e (by simp), un.tups, un.frzs, un.tbls⟩, ⟨_, hns, fun i y v' e1 e2 e3 => ?_⟩, fun y c e => ?_, hCn, fun y c e => ?_, fun q hq => ?_, hok, ?_⟩
  · have hy : scope.names.lookup y = some .cell ∨ scope.names.lookup y = some .free := hy
    rcases hy with hy | hy
    · exact absurd rfl (L.nocell _ (PySem.mem_of_lookup hy))
    · exact look hy
  · have z : false = true := z
    cases z
  · have e3 : Vis scope y := e3
    have e1 : (xs ++ X.N)[i]? = some y := e1
    have e2 : (xs.map (fun _ => (none : Option V)) ++ σ)[i]? = some (some v') := e2
    by_cases hi : i < xs.length
    · rw [List.getElem?_append_left (by rw [List.length_map]; exact hi), List.getElem?_map, List.getElem?_eq_getElem hi] at e2
      cases e2
    · rw [List.getElem?_append_right (Nat.le_of_not_lt hi)] at e1
      rw [List.getElem?_append_right (by rw [List.length_map]; exact Nat.le_of_not_lt hi), List.length_map] at e2
      have hyN := List.mem_of_getElem? e1
      rcases e3 with k | k | k
      · rcases L.own _ (PySem.mem_of_lookup k) rfl with z | z
        · exact absurd hyN (hx _ z)
        · exact absurd (by rw [← show y = ".0" from z]; exact hyN) hdot
      · exact absurd rfl (L.nocell _ (PySem.mem_of_lookup k))
      · obtain ⟨m, hn, hl⟩ := I.loc
        have hvis : Vis X.env.scope y := (L.free _ (PySem.mem_of_lookup k) rfl).elim (fun k => .inr (.inl k)) (fun k => .inr (.inr k))
        obtain ⟨w', r, q⟩ := hl _ y v' e1 e2 hvis
        obtain ⟨c2, h2⟩ := look k
        refine ⟨w', r, .inr ⟨.inr k, c2, h2, ?_⟩⟩
        have c1 := cm h2
        rcases q with ⟨k', _⟩ | ⟨_, c3, e', z⟩
        · have k' : X.env.scope.names.lookup y = some .local := k'
          rcases L.free _ (PySem.mem_of_lookup k) rfl with k2 | k2 <;> rw [show X.env.scope.names.lookup y = _ from k2] at k' <;> cases k'
        · rw [c1] at e'
          cases e'
          exact cellK (I.freeC y _ c1) z
  · obtain ⟨w', z⟩ := I.cell y c (cm e)
    exact ⟨w', cellK (I.freeC y c (cm e)) z⟩
  · have n1 := I.freeC y c (cm e)
    obtain ⟨w', z⟩ := I.cell y c (cm e)
    obtain ⟨o, ho, _⟩ := z
    exact un.free c o ho n1 (by simp)
  · have hq : q ∈ pn := hq
    exact hpn q hq
  · show (xs.map (fun _ => none) ++ σ).length = (xs ++ X.N).length
    rw [List.length_append, List.length_append, List.length_map, I.len]
end
end Cl

set_option maxHeartbeats 0
namespace Cl
open PySem PySem.Spec PyProof.Rows L2
open GxR (TabB TabG Tabbed GenS inv_tab sh_eta)
structure GWT (G : Cx) (xs : List Str) (J : It) (fp : List Addr) (it : Addr) (tn : Nat → Heap → Prop) (tg : Expr) (tgw : TG) (n : Nat) (bs : Nat → Bool) (Pv : Nat → Hp → Prop) (tel : TE) (σ : L2.St) : Prop where
  calm : G.calm = true
  xe : ∀ u s, ¬ G.xe u s
  turn : Turn G.prog G.w G.K tg J fp it tn
  tgp : PG G tg tgw
  go : ∀ i H, i < n → Pv i H → J.go i H
  stop : ∀ H, Pv n H → J.stop n H
  step : ∀ (i : Nat) (v : V) (H H' : Hp) (os : L2.St), i < n → Pv i H → J.yld i H v H' → os.length = xs.length →
    tgw v (os ++ σ) H' fun σ2 H2 => (∃ os2 : L2.St, os2.length = xs.length ∧ σ2 = os2 ++ σ) ∧ tel σ2 H2 fun y H3 => y = .bl (bs i) ∧ Pv (i + 1) H3
section
variable {G : Cx} {xs : List Str} {J : It} {fp : List Addr} {it a : Addr} {tn : Nat → Heap → Prop} {tg : Expr} {tgw : TG} {n g : Nat} {bs : Nat → Bool} {Pv : Nat → Hp → Prop} {tel : TE} {σ : L2.St}
def tST (G : Cx) (xs : List Str) (fp : List Addr) (a : Addr) (tn : Nat → Heap → Prop) (g : Nat) (Pv : Nat → Hp → Prop) (σ : L2.St) (i : Nat) (s : Shared) : Prop :=
  ∃ (H : Hp) (os : L2.St) (oA : Obj), Inv G [(a, oA)] (os ++ σ) H s ∧ os.length = xs.length ∧ Pv i H ∧ tn i s.heap ∧ (∀ b ∈ fp, FpOk G [(a, oA)] H b) ∧ GenO g oA ∧ g < s.gens.size
def tM1 (G : Cx) (xs : List Str) (J : It) (fp : List Addr) (a : Addr) (tn : Nat → Heap → Prop) (g n : Nat) (Pv : Nat → Hp → Prop) (σ : L2.St) (i : Nat) (u : Value) (s : Shared) : Prop :=
  ∃ (H H' : Hp) (v : V) (os : L2.St) (oA : Obj), Inv G [(a, oA)] (os ++ σ) H' s ∧ os.length = xs.length ∧ Pv i H ∧ i < n ∧ J.yld i H v H' ∧ RelV v u ∧ tn (i + 1) s.heap ∧ (∀ b ∈ fp, FpOk G [(a, oA)] H' b) ∧ GenO g oA ∧ g < s.gens.size
def tM2 (G : Cx) (xs : List Str) (fp : List Addr) (a : Addr) (tn : Nat → Heap → Prop) (g : Nat) (bs : Nat → Bool) (Pv : Nat → Hp → Prop) (tel : TE) (σ : L2.St) (i : Nat) (s : Shared) : Prop :=
  ∃ (H : Hp) (os : L2.St) (oA : Obj), Inv G [(a, oA)] (os ++ σ) H s ∧ os.length = xs.length ∧ (tel (os ++ σ) H fun y H3 => y = .bl (bs i) ∧ Pv (i + 1) H3) ∧ tn (i + 1) s.heap ∧ (∀ b ∈ fp, FpOk G [(a, oA)] H b) ∧ GenO g oA ∧ g < s.gens.size
def tFIN (G : Cx) (xs : List Str) (Pv : Nat → Hp → Prop) (σ : L2.St) (n : Nat) (s : Shared) : Prop := ∃ (H : Hp) (os : L2.St), Inv G [] (os ++ σ) H s ∧ os.length = xs.length ∧ Pv n H
theorem kept_turn (T : Turn G.prog G.w G.K tg J fp it tn) {pins : List (Addr × Obj)} {i : Nat} {s s' : Shared} {σ' : L2.St} {H H' : Hp} (t : tn i s.heap) (hf : ∀ b ∈ fp, FpOk G pins H b) (J' : Inv G (pins ++ pinsAt fp s.heap) σ' H' s') :
    tn i s'.heap ∧ (∀ b ∈ fp, FpOk G pins H' b) ∧ Inv G pins σ' H' s' := by
  have at_ : ∀ b ∈ fp, ∀ o, s.heap.get? b = some o → (b, o) ∈ G.pn ++ (pins ++ pinsAt fp s.heap) := fun b hb o e => List.mem_append_right _ (List.mem_append_right _ (mem_pinsAt hb e))
  refine ⟨T.keep _ _ _ t fun b hb o e => (J'.pin _ (at_ b hb o e)).1, fun b hb => ?_, J'.unpinned⟩
  obtain ⟨o, e, _⟩ := T.obj _ _ t b hb
  exact ⟨(J'.pin _ (at_ b hb o e)).2.1, (hf b hb).2⟩
theorem gw_genT {elt : Expr} {A : Around} (hA : G.A = A.deeper G.env) (W : GWT G xs J fp it tn tg tgw n bs Pv tel σ) (helt : PE G elt tel) :
    GenT G.prog G.w A G.env it tg elt n bs (tST G xs fp a tn g Pv σ) (tM1 G xs J fp a tn g n Pv σ) (tM2 G xs fp a tn g bs Pv tel σ) (tFIN G xs Pv σ n) := by
  refine ⟨fun i s Q E hi st hQ => ?_, fun i v s Q E h hQ => ?_, fun i s Q E h hQ => ?_, fun s Q E st hQ => ?_, fun s Q E st hQ => ?_⟩
  · obtain ⟨H, os, oA, J0, lo, p, ht, hf, hA2, hg⟩ := st
    refine GenW.wpAny_gsz (n := g + 1) hg ?_
    rw [← hA]
    refine wpAny_mono (W.turn.item G rfl rfl rfl W.calm i _ s _ H (fun _ _ => False) J0 hf ht (W.go i H hi p)) (fun r s1 hr hsz => ?_) fun _ _ z => z.elim
    obtain ⟨u, rfl, hu⟩ := hr
    refine hQ u s1 ?_
    refine GenW.wpAny_gsz (n := g + 1) hsz ?_
    rw [hA] at hu
    refine wpAny_mono hu (fun _ s2 hs hsz2 => ?_) fun _ _ (z : False) => z.elim
    obtain ⟨x, H', J1, rx, yx, t1, f1⟩ := hs
    exact ⟨H, H', x, os, oA, J1, lo, p, hi, yx, rx, t1, fun b hb => ⟨f1 b hb, (hf b hb).2⟩, hA2, hsz2⟩
  · obtain ⟨H, H', x, os, oA, J1, lo, p, hi, y, r, t1, f1, hA2, hg⟩ := h
    have J2 := J1.pinned f1 (W.turn.obj _ _ t1)
    refine GenW.wpAny_gsz (n := g + 1) hg ?_
    rw [← hA]
    refine wpAny_mono (W.tgp.run _ s _ H' x v _ J2 r (W.step i x H H' os hi p y lo)) (fun _ s' hs hsz => ?_) fun u s' hs => absurd hs (W.xe u s')
    obtain ⟨σ', H2, J3, ⟨os2, lo2, rfl⟩, ht⟩ := hs
    obtain ⟨t2, f2, J4⟩ := kept_turn W.turn t1 f1 J3
    exact hQ s' ⟨H2, os2, oA, J4, lo2, ht, t2, f2, hA2, hsz⟩
  · obtain ⟨H, os, oA, J1, lo, ht, t1, f1, hA2, hg⟩ := h
    have J2 := J1.pinned f1 (W.turn.obj _ _ t1)
    refine GenW.wpAny_gsz (n := g + 1) hg ?_
    rw [← hA]
    refine wpAny_mono (helt.run _ s _ H _ J2 ht) (fun u s' hs hsz => ?_) fun u s' hs => absurd hs (W.xe u s')
    obtain ⟨y, H', J3, r, rfl, p'⟩ := hs
    obtain rfl : u = Value.bool (bs i) := r
    obtain ⟨t2, f2, J4⟩ := kept_turn W.turn t1 f1 J3
    exact hQ s' ⟨H', os, oA, J4, lo, p', t2, f2, hA2, hsz⟩
  · obtain ⟨H, os, oA, J0, lo, p, ht, hf, hA2, hg⟩ := st
    rw [← hA]
    refine wpAny_mono (W.turn.done G rfl rfl rfl W.calm n _ s _ H (fun _ _ => False) J0 hf ht (W.stop H p)) (fun r s1 hr => ?_) fun _ _ z => z.elim
    obtain ⟨rfl, J1⟩ := hr
    exact hQ s1 ⟨H, os, J1.pins_of fun q hq => (nomatch hq), lo, p⟩
  · obtain ⟨H, os, oA, J0, lo, p, ht, _⟩ := st
    exact W.turn.self _ 0 s Q E ht hQ
theorem gw_sideT : SideN a g (tST G xs fp a tn g Pv σ) where
  gen := fun i s ⟨H, os, oA, J, _, _, _, _, ⟨nm, qn, h1, h2, h3⟩, _⟩ => ⟨oA, nm, qn, (J.pin (a, oA) (List.mem_append_right _ (by simp))).1, h1, h2, h3⟩
  lim := fun i s ⟨H, os, oA, J, _⟩ => J.nolimit
  sz := fun i s ⟨_, _, _, _, _, _, _, _, _, h⟩ => h
  set := fun i s y hy ⟨H, os, oA, J, lo, p, ht, hf, hA, hg⟩ => ⟨H, os, oA, Inv.setGen J hy, lo, p, ht, hf, hA, by rw [GenW.setGen_size]; exact hg⟩
end
end Cl

set_option maxHeartbeats 0
namespace Cl
open PySem PySem.Spec PyProof.Rows L2
open GxR (TabB TabG Tabbed GenS inv_tab sh_eta)
section
variable {X : Cx}
theorem gen_coreT {c P : Addr} {elt tg iter : Expr} {xs : List Str} {Ji : It} {fp : List Addr} {it : Addr} {tn : Nat → Heap → Prop} {gpos : Pos} {scope : Scope} {tel : TE} {tgw : TG} {k : Nat} {pins : List (Addr × Obj)} {σ : L2.St} {s1 : Shared} {H1 : Hp} {n : Nat} {bs : Nat → Bool} {Pv : Nat → Hp → Prop} {Q' : Value → Shared → Prop}
    (hr : RG (k + 2) X.A) (TB : TabB X.base X.mg c P) (hcode : X.env.code = .ref c) (L : GenKL X.env.scope scope xs) (hx : ∀ x ∈ xs, x ∉ X.N) (hdot : (".0" : Str) ∉ X.N)
    (htg : ∀ (s1 : Shared) (H1 : Hp) (C : Addr) (code : Value) (fp : List Addr), PG (genCxT X xs X.A.in1.in1 s1 H1 (gEnv X scope C code) fp) tg tgw)
    (helt : ∀ (s1 : Shared) (H1 : Hp) (C : Addr) (code : Value) (fp : List Addr), RG k (X.A.in1.in1.deeper (gEnv X scope C code)) → PE (genCxT X xs X.A.in1.in1 s1 H1 (gEnv X scope C code) fp) elt tel)
    (I1 : Inv X pins σ H1 s1) (hTn : Turn X.prog X.w X.K tg Ji fp it tn) (ht0 : tn 0 s1.heap) (hfp : ∀ b ∈ fp, FpOk X pins H1 b) (hT : TabG H1 P)
    (hgoes : ∀ i H, i < n → Pv i H → Ji.go i H) (hstop : ∀ H, Pv n H → Ji.stop n H) (hp0 : ∀ H2, Same H1 H2 → TabG H2 P → Pv 0 H2)
    (hstep : ∀ (i : Nat) (v : V) (H H' : Hp) (os : L2.St), i < n → Pv i H → Ji.yld i H v H' → os.length = xs.length → tgw v (os ++ σ) H' fun σ2 H2 => (∃ os2 : L2.St, os2.length = xs.length ∧ σ2 = os2 ++ σ) ∧ tel σ2 H2 fun y H3 => y = .bl (bs i) ∧ Pv (i + 1) H3)
    (hQ : ∀ (a : Addr) (g : Nat) (s5 : Shared) (ST : Nat → Shared → Prop) (FIN : Shared → Prop), s5.heap.IsGen a g → SideN a g ST → AtN X.prog X.w X.A.in1.in1 a g n bs ST FIN 0 s5 →
      (∀ i s', ST i s' → ∃ H', (Pv i H') ∧ ∀ (b : Bool) (Q : VK), Q (.bl b) H' → EP X pins σ Q (.bool b) s') →
      (∀ s' h', FIN s' → (∀ b o, s'.heap.get? b = some o → h'.get? b = some o) → ∃ H', (Pv n H') ∧ ∀ (b : Bool) (Q : VK), Q (.bl b) H' → EP X pins σ Q (.bool b) { s'.setGen g .finished with heap := h' }) → Q' (.ref a) s5) :
    s1.heap.NoLimit ∧
      wpAny (model X.prog X.w) X.A (genexprCode X.env gpos (X.env.qual ++ "<genexpr>") scope) (fun code s₃ => wpAny (model X.prog X.w) X.A (builtinsFor X.env.globals X.env.builtins) (fun bi s₄ =>
        ∀ h', h'.Ns s₄.heap.objs.size (fun y => if y = ".0" then some (.ref it) else none) → Heap.SameBut s₄.heap.objs.size (s₄.heap.push { cls := .type "frame", data := .dict #[] }) h' →
          Q' (.ref h'.objs.size) { s₄ with
            gens := s₄.gens.push (.fresh (.compStart (.GeneratorExp elt [⟨tg, iter, [], 0⟩] scope gpos) 0 (.ref it) .none (genEnv scope (cloFrom X.env.cells scope.names []) s₄.heap.objs.size code bi X.env))),
            toks := s₄.toks + 1 + 1 + 1,
            heap := h'.push { cls := .type "generator", data := .fields #[.int s₄.gens.size 0, .str "<genexpr>" (s₄.toks + 1), .str (X.env.qual ++ "<genexpr>") (s₄.toks + 1 + 1)] } }) X.xe s₃) X.xe s1 := by
  have hfl : ∀ b ∈ fp, b < s1.heap.objs.size := fun b hb => by
    obtain ⟨o, e, _⟩ := hTn.obj _ _ ht0 b hb
    exact Heap.lt_size e
  obtain ⟨ps, hP, ht⟩ := id hT
  have hPs : s1.heap.get? P = some { cls := .none, data := .fields ps } := I1.hok P _ hP
  have hPlt : P < s1.heap.objs.size := Heap.lt_size hPs
  have cd : PySem.W.CodeHd s1.heap c P := TB.code.keeps fun b u e => I1.bk b u e
  have cont : ∀ (code : Value) (h3 : Heap) (tk : Nat) (ps' : Array Value), Heap.ExtBut P s1.heap h3 → s1.heap.objs.size ≤ h3.objs.size → h3.get? P = some { cls := .none, data := .fields ps' } → (∃ more, ps' = ps ++ more) → TriplesOk ps'.toList →
      wpAny (model X.prog X.w) X.A (builtinsFor X.env.globals X.env.builtins) (fun bi s₄ =>
        ∀ h', h'.Ns s₄.heap.objs.size (fun y => if y = ".0" then some (.ref it) else none) → Heap.SameBut s₄.heap.objs.size (s₄.heap.push { cls := .type "frame", data := .dict #[] }) h' →
          Q' (.ref h'.objs.size) { s₄ with
            gens := s₄.gens.push (.fresh (.compStart (.GeneratorExp elt [⟨tg, iter, [], 0⟩] scope gpos) 0 (.ref it) .none (genEnv scope (cloFrom X.env.cells scope.names []) s₄.heap.objs.size code bi X.env))),
            toks := s₄.toks + 1 + 1 + 1,
            heap := h'.push { cls := .type "generator", data := .fields #[.int s₄.gens.size 0, .str "<genexpr>" (s₄.toks + 1), .str (X.env.qual ++ "<genexpr>") (s₄.toks + 1 + 1)] } }) X.xe { s1 with heap := h3, toks := tk } := by
    intro code h3 tk ps' hx3 hsz hP3 hmore ht3
    obtain ⟨bm, ob, e1, e2, e3, e4, e5, e6, e7, e8⟩ := TB.bm
    have keep3 : ∀ b u, b ≠ P → s1.heap.get? b = some u → h3.get? b = some u := fun b u hb e => hx3 b u hb e
    refine wpAny_builtinsFor (m := X.mg) (by rw [I1.ok.glob]; exact (I1.mod.glob.keeps I1.bk).extBut hx3 TB.gP) e1 e2 (keep3 _ _ e4 (I1.bk _ _ e5)) e6 e7 e8 ?_
    intro h4 hns4 hsb4
    show Q' (.ref h4.objs.size) _
    have hC4 : h4.objs.size = h3.objs.size + 1 := by rw [hsb4.1, Heap.size_push]
    obtain ⟨more, em⟩ := hmore
    subst em
    have nP : ∀ b, H1 b = none → b ≠ P := fun b n z => by rw [z, hP] at n; cases n
    have keep4 : ∀ b u, b ≠ P → s1.heap.get? b = some u → h4.get? b = some u := fun b u hb e => hsb4.extBut b u (Nat.ne_of_lt (Nat.lt_of_lt_of_le (Heap.lt_size e) hsz)) (Heap.get?_push_of_some _ (keep3 b u hb e))
    have hP4 : h4.get? P = some { cls := .none, data := .fields (ps ++ more) } := hsb4.extBut P _ (Nat.ne_of_lt (Nat.lt_of_lt_of_le hPlt hsz)) (Heap.get?_push_of_some _ hP3)
    generalize hgo : ({ cls := .type "generator", data := .fields #[.int s1.gens.size 0, .str "<genexpr>" (tk + 1), .str (X.env.qual ++ "<genexpr>") (tk + 1 + 1)] } : Obj) = go
    have hA5 : (h4.push go).get? h4.objs.size = some go := Heap.get?_push_size _ (by rw [← hgo]; rfl)
    have keep5 : ∀ b u, b ≠ P → s1.heap.get? b = some u → (h4.push go).get? b = some u := fun b u hb e => Heap.get?_push_of_some _ (keep4 b u hb e)
    have hP5 : (h4.push go).get? P = some { cls := .none, data := .fields (ps ++ more) } := Heap.get?_push_of_some _ hP4
    generalize hgs : (GenState.fresh (.compStart (.GeneratorExp elt [⟨tg, iter, [], 0⟩] scope gpos) 0 (.ref it) .none (gEnv X scope h3.objs.size code))) = gs
    have gb : gs.bare = true := by rw [← hgs]; rfl
    have J := inv_tab (more := more) (h' := h4.push go) (g' := s1.gens.push gs) (d' := s1.drawn) (t' := tk + 1 + 1 + 1) I1 hP keep5 hP5 (I1.bare.push gb)
    have fresh : ∀ b, s1.heap.objs.size ≤ b → b ≠ P → upd H1 P (.tbl (ps ++ more)) b = none := fun b hb n => by rw [upd_ne n]; exact I1.hok.fresh hb
    have neP : ∀ b, s1.heap.objs.size ≤ b → b ≠ P := fun b hb z => by rw [z] at hb; exact absurd hPlt (Nat.not_lt.mpr hb)
    have noStk : ∀ b, s1.heap.objs.size ≤ b → b ∉ frs X.stack := fun b hb z => by
      rcases List.mem_cons.mp (I1.stkSub b z) with e | z
      · rw [e] at hb; exact absurd I1.lt (Nat.not_lt.mpr hb)
      · exact I1.nofs hb z
    have lC : s1.heap.objs.size ≤ h3.objs.size := hsz
    have lA : s1.heap.objs.size ≤ h4.objs.size := by rw [hC4]; exact Nat.le_trans lC (Nat.le_succ _)
    have un : Un (frs X.stack) [] H1 (upd H1 P (.tbl (ps ++ more))) s1.heap (h4.push go) := by
      have at_ : ∀ b, b ≠ P → upd H1 P (.tbl (ps ++ more)) b = H1 b := fun b h => upd_ne h
      have nQ : ∀ b u, H1 b = some u → (∀ q, u ≠ .tbl q) → b ≠ P := fun b u e q z => by
        rw [z, hP] at e
        exact q _ (Option.some.inj e).symm
      refine ⟨fun b o e n _ _ => keep5 b o (nP b n) e, fun b o e n _ _ => ⟨o.slots, keep5 b o (nP b n) e⟩, fun b o _ n _ => by rw [at_ b (nP b n)]; exact n, fun b o e _ => ?_, fun b ys e => by rw [at_ b (nQ b _ e fun q z => nomatch z)]; exact e, fun b o u e => by rw [at_ b (nQ b _ e fun q z => nomatch z)]; exact e, fun b qs e => ?_⟩
      · by_cases hb : b = P
        · rw [hb]; exact ⟨_, hP5⟩
        · exact ⟨o, keep5 b o hb e⟩
      · by_cases hb : b = P
        · rw [hb, hP] at e
          cases e
          exact ⟨more, by rw [hb, upd_same]⟩
        · exact ⟨#[], by rw [at_ b hb, e]; simp⟩
    have nfP : ∀ b ∈ fp, b ≠ P := fun b hb z => by
      have := (hfp b hb).1
      rw [z, hP] at this
      cases this
    have nfC : ∀ b ∈ fp, b ≠ h3.objs.size := fun b hb => Nat.ne_of_lt (Nat.lt_of_lt_of_le (hfl b hb) lC)
    have St := gen_startT (xs := xs) (C := h3.objs.size) (P := P) (code := code) (m := fun y => if y = ".0" then some (.ref it) else none) (A := X.A.in1.in1) (s4 := { s1 with heap := h4.push go, gens := s1.gens.push gs, drawn := s1.drawn, toks := tk + 1 + 1 + 1 }) (pn := [(h4.objs.size, go)]) (fp := fp) I1 L I1.ok.frames hr.room.hd hx hdot lC ⟨ps, hP⟩ keep5 un J.hok J.bare rfl
      (hns4.push _) (fresh _ lC (neP _ lC)) (fun p hp => by
        rw [List.mem_singleton.mp hp]
        exact ⟨hA5, fresh _ lA (neP _ lA), by show h4.objs.size ≠ h3.objs.size; rw [hC4]; exact Nat.succ_ne_self _, noStk _ lA, fun v z => by rw [← hgo] at z; cases z⟩) hfp nfC
    have tb : Tabbed P H1 (upd H1 P (.tbl (ps ++ more))) := ⟨⟨ps ++ more, upd_same, ht3⟩, fun b hb => upd_ne hb⟩
    have sm := Same.tabbed hT tb
    have hrG : RG k (X.A.in1.in1.deeper (gEnv X scope h3.objs.size code)) := ⟨⟨hr.room.hd, by have := hr.room.dp; show X.A.depth + 1 + 3 * k + 5 < _; omega, by have := hr.room.un; show X.A.units + 1 + 1 + 3 + 16 * k + 200 < _; omega⟩, hr.gd⟩
    have GWw : GWT (genCxT X xs X.A.in1.in1 s1 H1 (gEnv X scope h3.objs.size code) fp) xs Ji fp it tn tg tgw n bs Pv tel σ :=
      ⟨rfl, fun u s z => z, hTn, htg s1 H1 _ _ fp, hgoes, hstop, hstep⟩
    have GG := gw_genT (a := h4.objs.size) (g := s1.gens.size) (elt := elt) (A := X.A.in1.in1) (by rfl) GWw (helt s1 H1 _ _ fp hrG)
    have p0 : Pv 0 (upd H1 P (.tbl (ps ++ more))) := hp0 _ sm tb.1
    have cm : ∀ y c, (cloFrom X.env.cells scope.names []).lookup y = some c → X.env.cells.lookup y = some c := fun y c e => by
      have hfree := L.has I1.ok
      rcases cloFrom_mem (PySem.mem_of_lookup e) with hm | ⟨h1, h2⟩
      · cases hm
      · obtain ⟨c1, hc⟩ := hfree _ h1 rfl
        have hc : X.env.cells.lookup y = some c1 := hc
        have e2 : c = c1 := by rw [h2, hc] <;> rfl
        rw [e2]
        exact hc
    have st0 : tST (genCxT X xs X.A.in1.in1 s1 H1 (gEnv X scope h3.objs.size code) fp) xs fp h4.objs.size tn s1.gens.size Pv σ 0 { s1 with heap := h4.push go, gens := s1.gens.push gs, drawn := s1.drawn, toks := tk + 1 + 1 + 1 } :=
      ⟨_, xs.map (fun _ => none), go, St, by rw [List.length_map], p0, hTn.keep _ _ _ ht0 fun b hb o e => keep5 b o (nfP b hb) e, fun b hb => ⟨by rw [upd_ne (nfP b hb)]; exact (hfp b hb).1, nfC b hb, fun z => by
          obtain ⟨_, f1, f2, _⟩ := hfp b hb
          rcases List.mem_cons.mp (I1.stkSub b z) with e | z
          · exact f1 e
          · exact f2 z, .inl hb, fun y c e => (hfp b hb).2.2.2.2.1 y c (cm y c e), fun p hp => by
          have hp : p ∈ [(h4.objs.size, go)] := hp
          rw [List.mem_singleton.mp hp]
          exact fun z => absurd (hfl b hb) (Nat.not_lt.mpr (by rw [← show h4.objs.size = b from z]; exact lA))⟩, by rw [← hgo]; exact ⟨_, _, rfl, rfl, rfl⟩, by show s1.gens.size < (s1.gens.push gs).size; rw [Array.size_push]; exact Nat.lt_succ_self _⟩
    have side := gw_sideT (G := genCxT X xs X.A.in1.in1 s1 H1 (gEnv X scope h3.objs.size code) fp) (xs := xs) (fp := fp) (a := h4.objs.size) (tn := tn) (g := s1.gens.size) (Pv := Pv) (σ := σ)
    have back : ∀ {pn : List (Addr × Obj)} {os : L2.St} {H : Hp} {s' : Shared}, Inv (genCxT X xs X.A.in1.in1 s1 H1 (gEnv X scope h3.objs.size code) fp) pn (os ++ σ) H s' → ∀ (b : Bool) (Q : VK), Q (.bl b) H → EP X pins σ Q (.bool b) s' := fun {pn os H s'} J b Q q =>
      ⟨.bl b, H, I1.call' (ch := fp) J.os J.base J.hok J.bare (fun b hb => ⟨(hfp b hb).2.2.2.1, (hfp b hb).2.1, (hfp b hb).2.2.2.2.1, (hfp b hb).2.2.2.2.2⟩), rfl, q⟩
    have out1 : ∀ i s', tST (genCxT X xs X.A.in1.in1 s1 H1 (gEnv X scope h3.objs.size code) fp) xs fp h4.objs.size tn s1.gens.size Pv σ i s' → ∃ H', (Pv i H') ∧ ∀ (b : Bool) (Q : VK), Q (.bl b) H' → EP X pins σ Q (.bool b) s' :=
      fun i s' ⟨H', os, oA, J', lo, p, _⟩ => ⟨H', p, fun b Q q => back J' b Q q⟩
    have out2 : ∀ s' h', tFIN (genCxT X xs X.A.in1.in1 s1 H1 (gEnv X scope h3.objs.size code) fp) xs Pv σ n s' → (∀ b o, s'.heap.get? b = some o → h'.get? b = some o) → ∃ H', (Pv n H') ∧ ∀ (b : Bool) (Q : VK), Q (.bl b) H' → EP X pins σ Q (.bool b) { s'.setGen s1.gens.size .finished with heap := h' } :=
      fun s' h' ⟨H', os, J', lo, p⟩ k => ⟨H', p, fun b Q q => back (Inv.kept (t' := s'.toks) (Inv.setGen (g := s1.gens.size) (y := .finished) J' rfl) k) b Q q⟩
    refine hQ h4.objs.size s1.gens.size _ _ _ (side.gen 0 _ st0) side ⟨st0, gs, Array.getElem?_push_size .., fun s'' hal => ?_⟩ out1 out2
    rw [← hgs]
    exact ⟨rfl, by rw [Nat.sub_zero]; exact seg_startT (iter := iter) (scope := scope) (pos := gpos) L.co GG s'' s'' hal⟩
  refine ⟨I1.nolimit, ?_⟩
  cases hf : codeAmong gpos ps.toList with
  | none =>
    refine wpAny_genexprCodeX hcode (cd.code hPs ht) (cd.tab hPs) hf fun c' h' tk hx hge hlt hco' _ htab' _ => ?_
    obtain ⟨o1, vs, f1, tf, fl, tg, inF, tx, tt, op, _, _, _, _, _, _, _, _, _, htr, _⟩ := hco'
    exact cont _ h' tk _ hx (Nat.le_trans hge (Nat.le_of_lt hlt)) htab'.2 ⟨_, rfl⟩ htr
  | some cv =>
    refine wpAny_genexprCode_hit hcode (cd.code hPs ht) hf ?_
    exact cont cv s1.heap s1.toks ps (Heap.ExtBut.refl _ _) (Nat.le_refl _) hPs ⟨#[], by simp⟩ ht
/-- all(elt for tg in iter), any(..) over any iterator -/
def tAllI (P : Addr) (m : Nat) (stop : Bool) (wi : TI) (tgw : TG) (tel : TE) : TE := fun σ H Q => wi σ H fun J H1 => ∃ (n : Nat) (bs : Nat → Bool) (Pv : Nat → Hp → Prop), TabG H1 P ∧
  (∀ i H, i < n → Pv i H → J.go i H) ∧ (∀ H, Pv n H → J.stop n H) ∧ (∀ H2, Same H1 H2 → TabG H2 P → Pv 0 H2) ∧
  (∀ (i : Nat) (v : V) (H H' : Hp) (os : L2.St), i < n → Pv i H → J.yld i H v H' → os.length = m → tgw v (os ++ σ) H' fun σ2 H2 => (∃ os2 : L2.St, os2.length = m ∧ σ2 = os2 ++ σ) ∧ tel σ2 H2 fun y H3 => y = .bl (bs i) ∧ Pv (i + 1) H3) ∧
  (∀ i H2, i < n → bs i = stop → Pv (i + 1) H2 → Q (.bl stop) H2) ∧ (∀ H2, (∀ i, i < n → bs i = !stop) → Pv n H2 → Q (.bl (!stop)) H2)
theorem pe_allI {c P : Addr} {elt tg iter : Expr} {xs : List Str} {p pos gpos : Pos} {scope : Scope} {wi : TI} {tel : TE} {tgw : TG} {k : Nat}
    (hr : RG (k + 2) X.A) (hg : Gl X "all") (hm : X.mg "all" = none) (TB : TabB X.base X.mg c P) (hcode : X.env.code = .ref c) (L : GenKL X.env.scope scope xs) (hx : ∀ x ∈ xs, x ∉ X.N) (hdot : (".0" : Str) ∉ X.N) (hi : PI X tg iter wi)
    (htg : ∀ (s1 : Shared) (H1 : Hp) (C : Addr) (code : Value) (fp : List Addr), PG (genCxT X xs X.A.in1.in1 s1 H1 (gEnv X scope C code) fp) tg tgw)
    (helt : ∀ (s1 : Shared) (H1 : Hp) (C : Addr) (code : Value) (fp : List Addr), RG k (X.A.in1.in1.deeper (gEnv X scope C code)) → PE (genCxT X xs X.A.in1.in1 s1 H1 (gEnv X scope C code) fp) elt tel)
    (hs : ∀ v, genFold iter X.env v = pure v := by intro _; rfl)
    (he : starEach [.GeneratorExp elt [⟨tg, iter, [], 0⟩] scope gpos] X.env = (false, eval (.GeneratorExp elt [⟨tg, iter, [], 0⟩] scope gpos) X.env) :: starEach [] X.env := by rfl) :
    PE X (.Call (.Name "all" p) [.GeneratorExp elt [⟨tg, iter, [], 0⟩] scope gpos] [] pos) (tAllI P xs.length false wi tgw tel) := by
  refine ⟨fun pins s σ H Q I h => ?_⟩
  refine wpAny_Call_Name_kw (ld_blt I hg hm PyProof.Rows.boot_all ?_)
  refine PyProof.Rows.callWith_builtin1 ?_ he (by rfl)
  rw [he]
  show wpAny _ _ (spliced ((false, eval (.GeneratorExp elt [⟨tg, iter, [], 0⟩] scope gpos) X.env) :: backTo pos (starEach [] X.env))) _ _ s
  refine Calls.spliced_cons ?_
  refine wpAny_GeneratorExp_make L.co (closure_ok (L.has I.ok)) L.nocell L.dot L.kind (by have := hr.room.dp; omega) ?_ hs
  refine thn (hi.run pins s σ H _ I h) fun xv s0 h0 => ?_
  refine wpAny_mono h0 (fun itv s1 h1 => ?_) fun _ _ z => z
  obtain ⟨it, fp, tn, J, H1, rfl, I1, hTn, ht0, hfp, n, bs, Pv, hT, hgo, hstop, hp0, hstep, q2, q3⟩ := h1
  refine gen_coreT (gpos := gpos) (tg := tg) (iter := iter) (xs := xs) (elt := elt) (scope := scope) (Q' := fun v s' => wpAny (model X.prog X.w) X.A (spliced (backTo pos (starEach [] X.env))) (fun vs s2 => wpAny (model X.prog X.w) X.A (call (.builtin "all") (v :: vs)) (EP X pins σ Q) X.xe s2) X.xe s') hr TB hcode L hx hdot htg helt I1 hTn ht0 hfp hT hgo hstop hp0 hstep fun a g s5 ST FIN hgen side at_ out1 out2 => ?_
  refine Calls.spliced_nil ?_
  refine call_function_tree PySem.F.kind_all PySem.F.plain_all PySem.F.entry_all (PySem.F.args_all1 _) ?_
  unfold Builtin.«all»
  refine wpAny_bind (m := oneArg "all" _) (wpAny_pure ?_)
  refine wpAny_bind (wpAny_pyIter_gen hgen ?_)
  refine wpAny_pure ⟨plainId_quiet PySem.F.plain_all_loop _, all_loopN (A := X.A) hr.room.hd (by have := hr.room.dp; omega) side _ 0 s5 rfl (Nat.zero_le _) at_ (fun j hj => absurd hj (Nat.not_lt_zero _)) (fun i s' hi hb st => ?_) fun s' h' all hf hk => ?_⟩
  · obtain ⟨H', p, e⟩ := out1 (i + 1) s' st
    exact e false Q (q2 i H' hi hb p)
  · obtain ⟨H', p, e⟩ := out2 s' h' hf hk
    exact e true Q (q3 H' all p)
theorem pe_anyI {c P : Addr} {elt tg iter : Expr} {xs : List Str} {p pos gpos : Pos} {scope : Scope} {wi : TI} {tel : TE} {tgw : TG} {k : Nat}
    (hr : RG (k + 2) X.A) (hg : Gl X "any") (hm : X.mg "any" = none) (TB : TabB X.base X.mg c P) (hcode : X.env.code = .ref c) (L : GenKL X.env.scope scope xs) (hx : ∀ x ∈ xs, x ∉ X.N) (hdot : (".0" : Str) ∉ X.N) (hi : PI X tg iter wi)
    (htg : ∀ (s1 : Shared) (H1 : Hp) (C : Addr) (code : Value) (fp : List Addr), PG (genCxT X xs X.A.in1.in1 s1 H1 (gEnv X scope C code) fp) tg tgw)
    (helt : ∀ (s1 : Shared) (H1 : Hp) (C : Addr) (code : Value) (fp : List Addr), RG k (X.A.in1.in1.deeper (gEnv X scope C code)) → PE (genCxT X xs X.A.in1.in1 s1 H1 (gEnv X scope C code) fp) elt tel)
    (hs : ∀ v, genFold iter X.env v = pure v := by intro _; rfl)
    (he : starEach [.GeneratorExp elt [⟨tg, iter, [], 0⟩] scope gpos] X.env = (false, eval (.GeneratorExp elt [⟨tg, iter, [], 0⟩] scope gpos) X.env) :: starEach [] X.env := by rfl) :
    PE X (.Call (.Name "any" p) [.GeneratorExp elt [⟨tg, iter, [], 0⟩] scope gpos] [] pos) (tAllI P xs.length true wi tgw tel) := by
  refine ⟨fun pins s σ H Q I h => ?_⟩
  refine wpAny_Call_Name_kw (ld_blt I hg hm PyProof.Rows.boot_any ?_)
  refine PyProof.Rows.callWith_builtin1 ?_ he (by rfl)
  rw [he]
  show wpAny _ _ (spliced ((false, eval (.GeneratorExp elt [⟨tg, iter, [], 0⟩] scope gpos) X.env) :: backTo pos (starEach [] X.env))) _ _ s
  refine Calls.spliced_cons ?_
  refine wpAny_GeneratorExp_make L.co (closure_ok (L.has I.ok)) L.nocell L.dot L.kind (by have := hr.room.dp; omega) ?_ hs
  refine thn (hi.run pins s σ H _ I h) fun xv s0 h0 => ?_
  refine wpAny_mono h0 (fun itv s1 h1 => ?_) fun _ _ z => z
  obtain ⟨it, fp, tn, J, H1, rfl, I1, hTn, ht0, hfp, n, bs, Pv, hT, hgo, hstop, hp0, hstep, q2, q3⟩ := h1
  refine gen_coreT (gpos := gpos) (tg := tg) (iter := iter) (xs := xs) (elt := elt) (scope := scope) (Q' := fun v s' => wpAny (model X.prog X.w) X.A (spliced (backTo pos (starEach [] X.env))) (fun vs s2 => wpAny (model X.prog X.w) X.A (call (.builtin "any") (v :: vs)) (EP X pins σ Q) X.xe s2) X.xe s') hr TB hcode L hx hdot htg helt I1 hTn ht0 hfp hT hgo hstop hp0 hstep fun a g s5 ST FIN hgen side at_ out1 out2 => ?_
  refine Calls.spliced_nil ?_
  refine call_function_tree PySem.F.kind_any PySem.F.plain_any PySem.F.entry_any (PySem.F.args_any1 _) ?_
  unfold Builtin.«any»
  refine wpAny_bind (m := oneArg "any" _) (wpAny_pure ?_)
  refine wpAny_bind (wpAny_pyIter_gen hgen ?_)
  refine wpAny_pure ⟨plainId_quiet PySem.F.plain_any_loop _, any_loopN (A := X.A) hr.room.hd (by have := hr.room.dp; omega) side _ 0 s5 rfl (Nat.zero_le _) at_ (fun j hj => absurd hj (Nat.not_lt_zero _)) (fun i s' hi hb st => ?_) fun s' h' all hf hk => ?_⟩
  · obtain ⟨H', p, e⟩ := out1 (i + 1) s' st
    exact e true Q (q2 i H' hi hb p)
  · obtain ⟨H', p, e⟩ := out2 s' h' hf hk
    exact e false Q (q3 H' all p)
end
end Cl

set_option maxHeartbeats 1000000
namespace Cl
open PySem PySem.Spec PyProof.Rows L2
open PySem.Sem (wp)
/-! ### zip of a list and a tuple: a side of either kind -/
inductive SqK where
  | l
  | t
def SqK.it (k : SqK) (h : Heap) (i a : Addr) (n : Nat) : Prop := match k with
  | .l => h.IsListIter i a n
  | .t => h.IsTupleIter i a n
def SqK.sq (k : SqK) (h : Heap) (a : Addr) (xs : Array Value) : Prop := match k with
  | .l => h.IsList a xs
  | .t => h.IsTuple a xs
theorem SqK.it_at {k : SqK} {h h' : Heap} {i a : Addr} {n : Nat} (z : k.it h i a n) (f : ∀ o, h.get? i = some o → h'.get? i = some o) : k.it h' i a n := by
  cases k
  · obtain ⟨o, ho, r⟩ := z; exact ⟨o, f o ho, r⟩
  · obtain ⟨o, ho, r⟩ := z; exact ⟨o, f o ho, r⟩
theorem SqK.sq_at {k : SqK} {h h' : Heap} {a : Addr} {xs : Array Value} (z : k.sq h a xs) (f : ∀ o, h.get? a = some o → h'.get? a = some o) : k.sq h' a xs := by
  cases k
  · obtain ⟨o, ho, r⟩ := z; exact ⟨o, f o ho, r⟩
  · obtain ⟨o, ho, r⟩ := z; exact ⟨o, f o ho, r⟩
theorem SqK.it_get {k : SqK} {h : Heap} {i a : Addr} {n : Nat} (z : k.it h i a n) : ∃ o, h.get? i = some o ∧ ∀ v, o.data ≠ .seq v := by
  cases k
  · obtain ⟨o, ho, _, d⟩ := z; exact ⟨o, ho, fun v q => by rw [d] at q; cases q⟩
  · obtain ⟨o, ho, _, d⟩ := z; exact ⟨o, ho, fun v q => by rw [d] at q; cases q⟩
section
variable {pr : Program} {ww : World} {Ar : Around} {Er : Value → Shared → Prop} {sh : Shared}
theorem SqK.nx_item {k : SqK} {i a : Addr} {n : Nat} {xs : Array Value} {x : Value} {R : Value → Shared → Prop} (z : k.it sh.heap i a n) (u : k.sq sh.heap a xs) (e : xs[n]? = some x)
    (go : ∀ hh, k.it hh i a (n + 1) → Heap.SameBut i sh.heap hh → R x { sh with heap := hh }) : wpAny (model pr ww) Ar (Builtin.SmallTypes.nextOf (.ref i)) R Er sh := by
  cases k
  · exact wpAny_nextOf_list_item z u e go
  · exact RZ.nextOf_tuple_item z u e go
theorem SqK.nx_end {k : SqK} {i a : Addr} {n : Nat} {xs : Array Value} {R : Value → Shared → Prop} (hd : Ar.handled = none) (z : k.it sh.heap i a n) (u : k.sq sh.heap a xs) (e : xs[n]? = none)
    (er : ∀ hh b, Heap.ExtBut i sh.heap hh → (∃ o, hh.get? b = some o ∧ o.cls = .type "StopIteration") → Er (.ref b) { sh with heap := hh }) : wpAny (model pr ww) Ar (Builtin.SmallTypes.nextOf (.ref i)) R Er sh := by
  cases k
  · exact wpAny_nextOf_list_end hd z u e er
  · exact RZ.nextOf_tuple_end hd z u e er
theorem zipK_item {ka kb : SqK} {zz ti to ia ib la lb : Addr} {na nb : Nat} {us vs : Array Value} {u v p q : Value} {R : Value → Shared → Prop} (D : ZipApart zz ti to ia ib la lb)
    (z0 : IsZip sh.heap zz ti to .none) (t0 : IsPair sh.heap ti (.ref ia) (.ref ib)) (o0 : IsPair sh.heap to p q) (a0 : ka.it sh.heap ia la na) (b0 : kb.it sh.heap ib lb nb) (la0 : ka.sq sh.heap la us) (lb0 : kb.sq sh.heap lb vs) (eu : us[na]? = some u) (ev : vs[nb]? = some v)
    (go : ∀ hh, IsZip hh zz ti to (rawInt sh.heap.objs.size) → IsPair hh to u v → ka.it hh ia la (na + 1) → kb.it hh ib lb (nb + 1) → IsPair hh sh.heap.objs.size u v → hh.objs.size = sh.heap.objs.size + 1 → (∀ c o, c ≠ zz → c ≠ to → c ≠ ia → c ≠ ib → sh.heap.get? c = some o → hh.get? c = some o) → R (.ref sh.heap.objs.size) { sh with heap := hh }) :
    wpAny (model pr ww) Ar (Builtin.«zip.__next__» ⟨[.ref zz], []⟩) (fun fin s' => ∃ y, fin = .done (.ret y) ∧ R y s') Er sh := by
  show wpAny _ _ (field (.ref zz) 2 >>= _) _ _ _
  refine wpAny_bind (wpAny_field z0 rfl (x := .bool false) rfl ?_)
  show wpAny _ _ (field (.ref zz) 3 >>= _) _ _ _
  refine wpAny_bind (wpAny_field z0 rfl (x := .ref ti) rfl ?_)
  refine wpAny_bind (wpAny_seqItems t0 rfl ?_)
  show wpAny _ _ (Builtin.SmallTypes.ownedTupleIsFree (.ref zz) >>= _) _ _ _
  refine wpAny_bind ?_
  delta Builtin.SmallTypes.ownedTupleIsFree
  refine wpAny_bind (wpAny_field z0 rfl (x := .none) rfl (wpAny_pure ?_))
  simp only [if_true]
  refine wpAny_bind (wpAny_rule ?_)
  refine wpAny_bind (wpAny_field z0 rfl (x := .ref to) rfl ?_)
  refine wpAny_bind (wpAny_setField_rec z0 (by simp) fun g1 z1 s1 => ?_)
  replace z1 : IsZip g1 zz ti to .ellipsis := z1
  refine wpAny_bind ?_
  simp only [List.forIn_cons, List.forIn_nil, List.zipIdx_cons, List.zipIdx_nil]
  -- the first side
  refine wpAny_bind (wpAny_bind (wpAny_onRaise ?_))
  show wpAny _ _ (Builtin.SmallTypes.nextOf (.ref ia) >>= _) _ _ _
  refine wpAny_bind (SqK.nx_item (SqK.it_at a0 fun o e => s1.extBut _ _ D.i1z e) (SqK.sq_at la0 fun o e => s1.extBut _ _ D.l1z e) eu fun g2 a2 s2 => wpAny_pure ?_)
  have o2 : IsPair g2 to p q := s2.extBut _ _ D.TOi1 (s1.extBut _ _ D.TOz o0)
  refine wpAny_bind (wpAny_seqItems o2 rfl ?_)
  refine wpAny_bind (wpAny_updateSeq_pair o2 fun g3 o3 s3 => ?_)
  replace o3 : IsPair g3 to u q := o3
  refine wpAny_bind (wpAny_letGo (wpAny_pure ?_))
  -- the second
  refine wpAny_bind (wpAny_bind (wpAny_onRaise ?_))
  show wpAny _ _ (Builtin.SmallTypes.nextOf (.ref ib) >>= _) _ _ _
  refine wpAny_bind (SqK.nx_item (SqK.it_at b0 fun o e => s3.extBut _ _ D.TOi2.symm (s2.extBut _ _ D.i12.symm (s1.extBut _ _ D.i2z e))) (SqK.sq_at lb0 fun o e => s3.extBut _ _ D.l2TO (s2.extBut _ _ D.l2i1 (s1.extBut _ _ D.l2z e))) ev fun g4 b4 s4 => wpAny_pure ?_)
  have o4 : IsPair g4 to u q := s4.extBut _ _ D.TOi2 o3
  refine wpAny_bind (wpAny_seqItems o4 rfl ?_)
  refine wpAny_bind (wpAny_updateSeq_pair o4 fun g5 o5 s5 => ?_)
  replace o5 : IsPair g5 to u v := o5
  refine wpAny_bind (wpAny_letGo (wpAny_pure (wpAny_pure ?_)))
  -- the pair handed out
  refine wpAny_bind (wpAny_seqItems o5 rfl ?_)
  refine wpAny_bind (wpAny_newTuple ?_)
  have n5 : g5.objs.size = sh.heap.objs.size := by rw [s5.1, s4.1, s3.1, s2.1, s1.1]
  have z5 : IsZip g5 zz ti to .ellipsis := s5.extBut _ _ D.TOz.symm (s4.extBut _ _ D.i2z.symm (s3.extBut _ _ D.TOz.symm (s2.extBut _ _ D.i1z.symm z1)))
  have k5 : ∀ c o, c ≠ zz → c ≠ to → c ≠ ia → c ≠ ib → sh.heap.get? c = some o → g5.get? c = some o := fun c o c1 c2 c3 c4 e => s5.extBut _ _ c2 (s4.extBut _ _ c4 (s3.extBut _ _ c2 (s2.extBut _ _ c3 (s1.extBut _ _ c1 e))))
  have a5 : ka.it g5 ia la (na + 1) := SqK.it_at a2 fun o e => s5.extBut _ _ D.TOi1.symm (s4.extBut _ _ D.i12 (s3.extBut _ _ D.TOi1.symm e))
  have b5 : kb.it g5 ib lb (nb + 1) := SqK.it_at b4 fun o e => s5.extBut _ _ D.TOi2.symm e
  have zl : zz < g5.objs.size := Heap.lt_size z5
  show wpAny _ _ (Builtin.SmallTypes.ownedTupleHandOut (.ref zz) (.ref g5.objs.size) >>= _) _ _ _
  refine wpAny_bind ?_
  delta Builtin.SmallTypes.ownedTupleHandOut
  have z6 : IsZip (g5.push { cls := .type "tuple", data := .seq #[u, v] }) zz ti to .ellipsis := Heap.get?_push_of_some _ z5
  refine wpAny_bind (wpAny_setField_rec z6 (by simp) fun g7 z7 s7 => ?_)
  replace z7 : IsZip g7 zz ti to (rawInt g5.objs.size) := z7
  refine wpAny_setField_rec z7 (by simp) fun g8 z8 s8 => ?_
  replace z8 : IsZip g8 zz ti to (rawInt g5.objs.size) := z8
  have up : ∀ c o, c ≠ zz → g5.get? c = some o → g8.get? c = some o := fun c o c1 e => s8.extBut _ _ c1 (s7.extBut _ _ c1 (Heap.get?_push_of_some _ e))
  have p8 : IsPair g8 g5.objs.size u v := s8.extBut _ _ (Nat.ne_of_gt zl) (s7.extBut _ _ (Nat.ne_of_gt zl) (Heap.get?_push_size _ rfl))
  have n8 : g8.objs.size = g5.objs.size + 1 := by rw [s8.1, s7.1, Heap.size_push]
  rw [n5] at z8 p8 n8
  refine wpAny_pure ⟨_, rfl, ?_⟩
  show R (.ref g5.objs.size) _
  rw [n5]
  exact go g8 z8 (up _ _ D.TOz o5) (SqK.it_at a5 fun o e => up _ o D.i1z e) (SqK.it_at b5 fun o e => up _ o D.i2z e) p8 n8 fun c o c1 c2 c3 c4 e => up c o c1 (k5 c o c1 c2 c3 c4 e)
theorem zipK_end {ka kb : SqK} {zz ti to ia ib la lb : Addr} {na nb : Nat} {us vs : Array Value} {p q : Value} {R : Fin → Shared → Prop} (hd : Ar.handled = none) (D : ZipApart zz ti to ia ib la lb)
    (z0 : IsZip sh.heap zz ti to .none) (t0 : IsPair sh.heap ti (.ref ia) (.ref ib)) (o0 : IsPair sh.heap to p q) (a0 : ka.it sh.heap ia la na) (b0 : kb.it sh.heap ib lb nb) (la0 : ka.sq sh.heap la us) (lb0 : kb.sq sh.heap lb vs) (out : us[na]? = none ∨ vs[nb]? = none)
    (er : ∀ hh b, (∀ c o, c ≠ zz → c ≠ to → c ≠ ia → c ≠ ib → sh.heap.get? c = some o → hh.get? c = some o) → (∃ o, hh.get? b = some o ∧ o.cls = .type "StopIteration") → Er (.ref b) { sh with heap := hh }) :
    wpAny (model pr ww) Ar (Builtin.«zip.__next__» ⟨[.ref zz], []⟩) R Er sh := by
  show wpAny _ _ (field (.ref zz) 2 >>= _) _ _ _
  refine wpAny_bind (wpAny_field z0 rfl (x := .bool false) rfl ?_)
  show wpAny _ _ (field (.ref zz) 3 >>= _) _ _ _
  refine wpAny_bind (wpAny_field z0 rfl (x := .ref ti) rfl ?_)
  refine wpAny_bind (wpAny_seqItems t0 rfl ?_)
  show wpAny _ _ (Builtin.SmallTypes.ownedTupleIsFree (.ref zz) >>= _) _ _ _
  refine wpAny_bind ?_
  delta Builtin.SmallTypes.ownedTupleIsFree
  refine wpAny_bind (wpAny_field z0 rfl (x := .none) rfl (wpAny_pure ?_))
  simp only [if_true]
  refine wpAny_bind (wpAny_rule ?_)
  refine wpAny_bind (wpAny_field z0 rfl (x := .ref to) rfl ?_)
  refine wpAny_bind (wpAny_setField_rec z0 (by simp) fun g1 z1 s1 => ?_)
  replace z1 : IsZip g1 zz ti to .ellipsis := z1
  refine wpAny_bind ?_
  simp only [List.forIn_cons, List.forIn_nil, List.zipIdx_cons, List.zipIdx_nil]
  refine wpAny_bind (wpAny_bind (wpAny_onRaise ?_))
  show wpAny _ _ (Builtin.SmallTypes.nextOf (.ref ia) >>= _) _ _ _
  have A1 := SqK.it_at a0 fun o e => s1.extBut _ _ D.i1z e
  have L1 := SqK.sq_at la0 fun o e => s1.extBut _ _ D.l1z e
  cases hu : us[na]? with
  | none =>
    refine wpAny_bind (SqK.nx_end hd A1 L1 hu fun g2 b s2 hb => ?_)
    obtain ⟨ob, eb, cb⟩ := hb
    have z2 : IsZip g2 zz ti to .ellipsis := s2 _ _ D.i1z.symm z1
    have ne : b ≠ zz := fun w => by subst w; rw [z2] at eb; cases eb; simp at cb
    exact wpAny_setField_rec z2 (by simp) fun g3 _ s3 => er g3 b (fun c o c1 _ c3 _ w => s3.extBut _ _ c1 (s2 _ _ c3 (s1.extBut _ _ c1 w))) ⟨ob, s3.extBut _ _ ne eb, cb⟩
  | some u =>
    have hv : vs[nb]? = none := by
      rcases out with w | w
      · rw [hu] at w; cases w
      · exact w
    refine wpAny_bind (SqK.nx_item A1 L1 hu fun g2 a2 s2 => wpAny_pure ?_)
    have o2 : IsPair g2 to p q := s2.extBut _ _ D.TOi1 (s1.extBut _ _ D.TOz o0)
    refine wpAny_bind (wpAny_seqItems o2 rfl ?_)
    refine wpAny_bind (wpAny_updateSeq_pair o2 fun g3 o3 s3 => ?_)
    refine wpAny_bind (wpAny_letGo (wpAny_pure ?_))
    refine wpAny_bind (wpAny_bind (wpAny_onRaise ?_))
    show wpAny _ _ (Builtin.SmallTypes.nextOf (.ref ib) >>= _) _ _ _
    refine wpAny_bind (SqK.nx_end hd (SqK.it_at b0 fun o e => s3.extBut _ _ D.TOi2.symm (s2.extBut _ _ D.i12.symm (s1.extBut _ _ D.i2z e))) (SqK.sq_at lb0 fun o e => s3.extBut _ _ D.l2TO (s2.extBut _ _ D.l2i1 (s1.extBut _ _ D.l2z e))) hv fun g4 b s4 hb => ?_)
    obtain ⟨ob, eb, cb⟩ := hb
    have z4 : IsZip g4 zz ti to .ellipsis := s4 _ _ D.i2z.symm (s3.extBut _ _ D.TOz.symm (s2.extBut _ _ D.i1z.symm z1))
    have ne : b ≠ zz := fun w => by subst w; rw [z4] at eb; cases eb; simp at cb
    exact wpAny_setField_rec z4 (by simp) fun g5 _ s5 => er g5 b (fun c o c1 c2 c3 c4 w => s5.extBut _ _ c1 (s4 _ _ c4 (s3.extBut _ _ c2 (s2.extBut _ _ c3 (s1.extBut _ _ c1 w))))) ⟨ob, s5.extBut _ _ ne eb, cb⟩
theorem zipK_next {ka kb : SqK} {zz ti to ia ib la lb : Addr} {na nb : Nat} {us vs : Array Value} {u v p q : Value} {R : Option Value → Shared → Prop} (D : ZipApart zz ti to ia ib la lb)
    (z0 : IsZip sh.heap zz ti to .none) (t0 : IsPair sh.heap ti (.ref ia) (.ref ib)) (o0 : IsPair sh.heap to p q) (a0 : ka.it sh.heap ia la na) (b0 : kb.it sh.heap ib lb nb) (la0 : ka.sq sh.heap la us) (lb0 : kb.sq sh.heap lb vs) (eu : us[na]? = some u) (ev : vs[nb]? = some v)
    (go : ∀ hh, IsZip hh zz ti to (rawInt sh.heap.objs.size) → IsPair hh to u v → ka.it hh ia la (na + 1) → kb.it hh ib lb (nb + 1) → IsPair hh sh.heap.objs.size u v → hh.objs.size = sh.heap.objs.size + 1 → (∀ c o, c ≠ zz → c ≠ to → c ≠ ia → c ≠ ib → sh.heap.get? c = some o → hh.get? c = some o) → R (some (.ref sh.heap.objs.size)) { sh with heap := hh }) :
    wpAny (model pr ww) Ar (pyNext (.ref zz)) R Er sh := by
  have ty : sh.TypeIs (.ref zz) "zip" := ⟨_, z0, rfl⟩
  delta pyNext
  refine wpAny_bind (wpAny_attempt (wpAny_callSpecial?_slot (name := Str.ofString "__next__") ty PySem.F.slot_zip_next (wpAny_call_entry PySem.F.slot_zip_next ty PySem.F.entry_zip_next ?_ (PySem.F.args_zip_next_1 _))))
  exact zipK_item D z0 t0 o0 a0 b0 la0 lb0 eu ev fun hh c1 c2 c3 c4 c5 c6 c7 => wpAny_pure (go hh c1 c2 c3 c4 c5 c6 c7)
theorem zipK_stop {ka kb : SqK} {zz ti to ia ib la lb : Addr} {na nb : Nat} {us vs : Array Value} {p q : Value} {R : Option Value → Shared → Prop} (hd : Ar.handled = none) (D : ZipApart zz ti to ia ib la lb)
    (z0 : IsZip sh.heap zz ti to .none) (t0 : IsPair sh.heap ti (.ref ia) (.ref ib)) (o0 : IsPair sh.heap to p q) (a0 : ka.it sh.heap ia la na) (b0 : kb.it sh.heap ib lb nb) (la0 : ka.sq sh.heap la us) (lb0 : kb.sq sh.heap lb vs) (out : us[na]? = none ∨ vs[nb]? = none)
    (go : ∀ hh, (∀ c o, c ≠ zz → c ≠ to → c ≠ ia → c ≠ ib → sh.heap.get? c = some o → hh.get? c = some o) → R none { sh with heap := hh }) :
    wpAny (model pr ww) Ar (pyNext (.ref zz)) R Er sh := by
  have ty : sh.TypeIs (.ref zz) "zip" := ⟨_, z0, rfl⟩
  delta pyNext
  refine wpAny_bind (wpAny_attempt (wpAny_callSpecial?_slot (name := Str.ofString "__next__") ty PySem.F.slot_zip_next (wpAny_call_entry PySem.F.slot_zip_next ty PySem.F.entry_zip_next (zipK_end hd D z0 t0 o0 a0 b0 la0 lb0 out fun hh b hk hb => ?_) (PySem.F.args_zip_next_1 _))))
  obtain ⟨o, e, c⟩ := hb
  exact wpAny_bind (wpAny_isInstance (T := "StopIteration") (b := true) ⟨o, e, c⟩ isSubtype_stop (wpAny_pure (go _ hk)))
end
/-! the call -/
abbrev zmA (h : Heap) (a : Addr) : Heap := h.push { cls := .type "list_iterator", data := .fields #[.ref a, .int 0 0] }
abbrev zmB (h : Heap) (a b : Addr) : Heap := (zmA h a).push { cls := .type "tuple_iterator", data := .fields #[.ref b, .int 0 0] }
abbrev zmC (h : Heap) (a b : Addr) : Heap := (zmB h a b).push { cls := .type "tuple", data := .seq #[.ref h.objs.size, .ref (zmA h a).objs.size] }
abbrev zmD (h : Heap) (a b : Addr) : Heap := (zmC h a b).push { cls := .type "tuple", data := .seq #[.none, .none] }
abbrev zmE (h : Heap) (a b : Addr) : Heap := (zmD h a b).push { cls := .type "zip", data := .fields #[.none, .bool false, .bool false, .ref (zmB h a b).objs.size, .ref (zmC h a b).objs.size] }
theorem zipM_new (a b : Addr) (us vs : Array Value) :
    PySem.Meets (Builtin.«zip.__new__» ⟨[.type "zip", .ref a, .ref b], []⟩) (fun _ R s => s.heap.IsList a us ∧ s.heap.IsTuple b vs ∧ R (.ok (.ret (.ref (zmD s.heap a b).objs.size))) { s with heap := zmE s.heap a b }) :=
  .of_wp fun pr ww Ar R s h => by
    obtain ⟨hp, g, d, tk, os⟩ := s
    obtain ⟨ha, hb, h⟩ := h
    have hsub := sub_zip
    have u1 : Heap.IsList (Shared.heap ⟨hp, g, d, tk, os⟩) a us := ha
    have u2 : Heap.IsTuple (Shared.heap ⟨hp.push { cls := .type "list_iterator", data := .fields #[.ref a, .int 0 0] }, g, d, tk, os⟩) b vs := Heap.IsTuple.push hb _
    wp_walk using wpAny_pyIter_list u1, wpAny_pyIter_tuple u2
    exact ⟨_, rfl, h⟩
theorem call_zipM {pr : Program} {ww : World} {Ar : Around} {Er : Value → Shared → Prop} {sh : Shared} {a b : Addr} {us vs : Array Value} {R : Value → Shared → Prop} (ha : sh.heap.IsList a us) (hb : sh.heap.IsTuple b vs)
    (go : ∀ hh, IsZip hh (sh.heap.objs.size + 4) (sh.heap.objs.size + 2) (sh.heap.objs.size + 3) .none → IsPair hh (sh.heap.objs.size + 2) (.ref sh.heap.objs.size) (.ref (sh.heap.objs.size + 1)) → IsPair hh (sh.heap.objs.size + 3) .none .none →
      hh.IsListIter sh.heap.objs.size a 0 → hh.IsTupleIter (sh.heap.objs.size + 1) b 0 → (∀ c o, sh.heap.get? c = some o → hh.get? c = some o) → R (.ref (sh.heap.objs.size + 4)) { sh with heap := hh }) :
    wpAny (model pr ww) Ar (call (.type "zip") [.ref a, .ref b]) R Er sh := by
  refine callType_new PySem.F.called_zip (by decide) (PySem.F.typeCall_zip_2 _ _) (PySem.F.newCall_zip_2 _ _) (fun ob => PySem.F.args_object_init_3 ob _ _) PySem.F.entry_zip_new (zipM_new a b us vs) ⟨ha, hb, ?_⟩
  have m1 : (zmA sh.heap a).objs.size = sh.heap.objs.size + 1 := Heap.size_push ..
  have m2 : (zmB sh.heap a b).objs.size = sh.heap.objs.size + 2 := by rw [Heap.size_push, m1]
  have m3 : (zmC sh.heap a b).objs.size = sh.heap.objs.size + 3 := by rw [Heap.size_push, m2]
  have m4 : (zmD sh.heap a b).objs.size = sh.heap.objs.size + 4 := by rw [Heap.size_push, m3]
  have f5 : (zmE sh.heap a b).get? (zmD sh.heap a b).objs.size = some _ := Heap.get?_push_size _ rfl
  have f4 : (zmE sh.heap a b).get? (zmC sh.heap a b).objs.size = some _ := Heap.get?_push_of_some _ (Heap.get?_push_size _ rfl)
  have f3 : (zmE sh.heap a b).get? (zmB sh.heap a b).objs.size = some _ := Heap.get?_push_of_some _ (Heap.get?_push_of_some _ (Heap.get?_push_size _ rfl))
  have f2 : (zmE sh.heap a b).get? (zmA sh.heap a).objs.size = some _ := Heap.get?_push_of_some _ (Heap.get?_push_of_some _ (Heap.get?_push_of_some _ (Heap.get?_push_size _ rfl)))
  have f1 : (zmE sh.heap a b).get? sh.heap.objs.size = some _ := Heap.get?_push_of_some _ (Heap.get?_push_of_some _ (Heap.get?_push_of_some _ (Heap.get?_push_of_some _ (Heap.get?_push_size _ rfl))))
  show _ ∧ _
  rw [m2, m3, m4] at f5
  rw [m1, m2] at f3
  rw [m3] at f4
  rw [m1] at f2
  rw [m4]
  exact ⟨⟨_, f5, rfl⟩, go _ f5 f3 f4 ⟨_, f1, rfl, rfl⟩ ⟨_, f2, rfl, rfl⟩ fun c o e => Heap.get?_push_of_some _ (Heap.get?_push_of_some _ (Heap.get?_push_of_some _ (Heap.get?_push_of_some _ (Heap.get?_push_of_some _ e))))⟩
/-! the turns -/
def ItzM (K : PySem.W.Frag) (a b : Addr) : It :=
  ⟨fun i H => ∃ (xs ys : List V) (x y : V), SqL K H a xs ∧ SqT K H b ys ∧ xs[i]? = some x ∧ ys[i]? = some y,
    fun i H v H' => ∃ T x y, v = .ref T ∧ H T = none ∧ H' = upd H T (.tup [x, y]) ∧ (∀ xs, SqL K H a xs → xs[i]? = some x) ∧ ∀ ys, SqT K H b ys → ys[i]? = some y,
    fun i H => ∃ xs ys : List V, SqL K H a xs ∧ SqT K H b ys ∧ (xs.length ≤ i ∨ ys.length ≤ i)⟩
theorem turn_zipM {P : Program} {w : World} {K : PySem.W.Frag} {elts : List Expr} {kk : Nat} {tpos : Pos} {a b z ti to i1 i2 : Addr} (D : ZipApart z ti to i1 i2 a b) :
    Turn P w K (.Tuple elts kk tpos) (ItzM K a b) [z, ti, to, i1, i2] z (fun i h => IsZip h z ti to .none ∧ IsPair h ti (.ref i1) (.ref i2) ∧ (∃ x y, IsPair h to x y) ∧ SqK.l.it h i1 a i ∧ SqK.t.it h i2 b i) where
  mem := by simp
  obj := fun i h st c hc => by
    obtain ⟨q1, q2, ⟨x, y, q3⟩, g1, g2⟩ := st
    obtain ⟨o1, e1, d1⟩ := SqK.it_get g1
    obtain ⟨o2, e2, d2⟩ := SqK.it_get g2
    have hc : c = z ∨ c = ti ∨ c = to ∨ c = i1 ∨ c = i2 := by simpa using hc
    rcases hc with q | q | q | q | q <;> subst q
    · exact ⟨_, q1, fun v q => nomatch q⟩
    · exact ⟨_, q2, fun v q => nomatch q⟩
    · exact ⟨_, q3, fun v q => nomatch q⟩
    · obtain ⟨o1, e1, _, d1⟩ := g1
      exact ⟨o1, e1, fun v q => by rw [d1] at q; cases q⟩
    · obtain ⟨o2, e2, _, d2⟩ := g2
      exact ⟨o2, e2, fun v q => by rw [d2] at q; cases q⟩
  keep := fun i h h' st k => by
    obtain ⟨q1, q2, ⟨x, y, q3⟩, g1, g2⟩ := st
    exact ⟨k z (by simp) _ q1, k ti (by simp) _ q2, ⟨x, y, k to (by simp) _ q3⟩, SqK.it_at g1 fun o e => k i1 (by simp) o e, SqK.it_at g2 fun o e => k i2 (by simp) o e⟩
  item := by
    intro X eP eW eK hc i pins s σ H E I hf st hg
    subst eP eW eK
    obtain ⟨q1, q2, ⟨x0, y0, q3⟩, g1, g2⟩ := st
    obtain ⟨xs, ys, x, y, gx, gy, hx, hy⟩ := hg
    obtain ⟨us, ru, pu, _⟩ := I.list gx
    obtain ⟨vs, rv, pv', _⟩ := I.tuple gy
    obtain ⟨u, eu, r1⟩ := ru.get hx
    obtain ⟨v, ev, r2⟩ := rv.get hy
    have zl : z < s.heap.objs.size := Heap.lt_size q1
    refine zipK_next D q1 q2 q3 g1 g2 (show SqK.l.sq s.heap a us.toArray from pu.isList) (show SqK.t.sq s.heap b vs.toArray from pv') (u := u) (v := v) (by simpa using eu) (by simpa using ev) fun hh z' o' g1' g2' hT hsz hk => ?_
    refine ⟨_, rfl, wpAny_letOwnedTupleGo_zip (s := { s with heap := hh }) z' fun h2 z2 sb => ?_⟩
    have hT2 : h2.get? s.heap.objs.size = some { cls := .type "tuple", data := .seq #[u, v] } := (sb.2 _ (Nat.ne_of_gt zl)).trans hT
    have new : ObjOk X.prog X.w (upd H s.heap.objs.size (.tup [x, y])) h2 s.heap.objs.size (.tup [x, y]) := ⟨by show 2 ≤ sizeLine; decide, [u, v], .cons r1 (.cons r2 .nil), ⟨_, hT2, rfl, _, rfl⟩⟩
    have I1 : Inv X pins σ (upd H s.heap.objs.size (.tup [x, y])) { s with heap := h2 } :=
      I.turnedNew (t' := s.toks) (ch := [z, ti, to, i1, i2]) (fun c o hb e => (sb.2 c (fun w => hb (by simp [w]))).trans (hk c o (fun w => hb (by simp [w])) (fun w => hb (by simp [w])) (fun w => hb (by simp [w])) (fun w => hb (by simp [w])) e)) hf (Nat.le_refl _) new
    refine ⟨.ref s.heap.objs.size, _, I1, rfl, ⟨_, x, y, rfl, I.hok.fresh (Nat.le_refl _), rfl, fun l hl => by rw [I.list_inj hl gx]; exact hx, fun l hl => by rw [I.tuple_inj hl gy]; exact hy⟩, ⟨z2, ?_, ⟨u, v, ?_⟩, ?_, ?_⟩, fun c hcm => ?_⟩
    · exact (sb.2 _ D.TIz).trans (hk _ _ D.TIz D.TITO D.TIi1 D.TIi2 q2)
    · exact (sb.2 _ D.TOz).trans o'
    · exact SqK.it_at g1' fun o e => (sb.2 _ D.i1z).trans e
    · exact SqK.it_at g2' fun o e => (sb.2 _ D.i2z).trans e
    · have lt : c < s.heap.objs.size := by
        have hcm : c = z ∨ c = ti ∨ c = to ∨ c = i1 ∨ c = i2 := by simpa using hcm
        rcases hcm with q | q | q | q | q <;> subst q
        · exact zl
        · exact Heap.lt_size q2
        · exact Heap.lt_size q3
        · obtain ⟨_, e1, _⟩ := SqK.it_get g1; exact Heap.lt_size e1
        · obtain ⟨_, e1, _⟩ := SqK.it_get g2; exact Heap.lt_size e1
      rw [upd_ne (Nat.ne_of_lt lt)]
      exact (hf c hcm).1
  done := by
    intro X eP eW eK hc i pins s σ H E I hf st hg
    subst eP eW eK
    obtain ⟨q1, q2, ⟨x0, y0, q3⟩, g1, g2⟩ := st
    obtain ⟨xs, ys, gx, gy, en⟩ := hg
    obtain ⟨us, ru, pu, _⟩ := I.list gx
    obtain ⟨vs, rv, pv', _⟩ := I.tuple gy
    have l1 := ru.length
    have l2 := rv.length
    have out : us.toArray[i]? = none ∨ vs.toArray[i]? = none := by
      rcases en with q | q
      · exact .inl (by simp; omega)
      · exact .inr (by simp; omega)
    exact zipK_stop (I.ok.hd hc) D q1 q2 q3 g1 g2 (show SqK.l.sq s.heap a us.toArray from pu.isList) (show SqK.t.sq s.heap b vs.toArray from pv') out fun hh hk => ⟨rfl, I.turnedL (t' := s.toks) (ch := [z, ti, to, i1, i2]) (fun c o hb e =>
      hk c o (fun w => hb (by simp [w])) (fun w => hb (by simp [w])) (fun w => hb (by simp [w])) (fun w => hb (by simp [w])) e) hf⟩
  self := fun A i s Q E st h => wpAny_pyIter_zip st.1 h
def iZipM (K : PySem.W.Frag) (ta : TA) : TI := fun σ H R => ta σ H fun vs H1 => ∃ a b xs ys, vs = [.ref a, .ref b] ∧ SqL K H1 a xs ∧ SqT K H1 b ys ∧ R (ItzM K a b) H1
theorem pi_zipM {X : Cx} {e e2 : Expr} {ta : TA} {p pos tpos : Pos} {elts : List Expr} {kk : Nat} (hg : Gl X "zip") (hm : X.mg "zip" = none) (ha : PA X [e, e2] ta)
    (hs : starEach [e, e2] X.env = (false, eval e X.env) :: starEach [e2] X.env := by rfl) (hpl : (backTo pos (starEach [e2] X.env)).any (·.1) = false := by rfl) :
    PI X (.Tuple elts kk tpos) (.Call (.Name "zip" p) [e, e2] [] pos) (iZipM X.K ta) := by
  refine ⟨fun pins s σ H R I h => Call_ (ld_blt I hg hm PyProof.Rows.boot_zip (PyProof.Rows.callWith_type1 (thn (ha.run pos pins s σ H _ I h) fun ws s1 ⟨vs, H1, I1, rr, qq⟩ => ?_) hs hpl))⟩
  obtain ⟨a, b, xs, ys, rfl, gx, gy, qq⟩ := qq
  cases rr with
  | cons r rr =>
    cases rr with
    | cons r' rr =>
      cases rr; cases r; cases r'
      obtain ⟨us, ru, pu, _⟩ := I1.list gx
      obtain ⟨vs, rv, pv', _⟩ := I1.tuple gy
      obtain ⟨o2, ho2, _⟩ := id pv'
      refine call_zipM pu.isList (show s1.heap.IsTuple b vs.toArray from pv') fun hh z0 t0 o0 a0 b0 hk => wpAny_pyIter_zip z0 ?_
      have I2 : Inv X pins σ H1 { s1 with heap := hh } := I1.kept (t' := s1.toks) hk
      refine ⟨s1.heap.objs.size + 4, [s1.heap.objs.size + 4, s1.heap.objs.size + 2, s1.heap.objs.size + 3, s1.heap.objs.size, s1.heap.objs.size + 1], _, _, H1, rfl, I2, turn_zipM (PySem.W.ktu_apart s1.heap.objs.size a b pu.lt (Heap.lt_size ho2)), ⟨z0, t0, ⟨_, _, o0⟩, a0, b0⟩, fun c hc => ?_, qq⟩
      have le : s1.heap.objs.size ≤ c := by
        have hc : c = s1.heap.objs.size + 4 ∨ c = s1.heap.objs.size + 2 ∨ c = s1.heap.objs.size + 3 ∨ c = s1.heap.objs.size ∨ c = s1.heap.objs.size + 1 := by simpa using hc
        rcases hc with q | q | q | q | q <;> rw [q] <;> first | exact Nat.le_refl _ | exact Nat.le_add_right _ _
      exact I1.fpOk le (I1.hok.fresh le)
theorem walk_zipM {K : PySem.W.Frag} {a b : Addr} {xs ys : List V} {n : Nat} (hn : n = min xs.length ys.length) : Walk (ItzM K a b) n (fun H => SqL K H a xs ∧ SqT K H b ys) (YPair (fun i => xs[i]?) (fun i => ys[i]?)) := by
  subst hn
  refine ⟨fun i _ hi q => ?_, fun _ q => ⟨xs, ys, q.1, q.2, by omega⟩, fun i H v H' _ q y => ?_⟩
  · have h1 : i < xs.length := by omega
    have h2 : i < ys.length := by omega
    exact ⟨xs, ys, xs[i], ys[i], q.1, q.2, by simp [h1], by simp [h2]⟩
  · obtain ⟨T, x, z, h1, h2, h3, h4, h5⟩ := y
    exact ⟨T, x, z, h1, h2, h3, h4 xs q.1, h5 ys q.2⟩
def lcZM {K : PySem.W.Frag} {a b : Addr} {xs ys : List V} {n : Nat} {g : TG} {tt : TT} {te : TE} {vs : List Nat} {σ : L2.St} {H1 : Hp} {D : Addr} {Qd : Hp → Prop} (hn : n = min xs.length ys.length)
    (Pv : Nat → Hp → Prop) (hD : H1 D = none) (h0 : ∀ H', Same H1 H' → H' D = some (.lst []) → Pv 0 H') (hG : ∀ i H, i ≤ n → Pv i H → SqL K H a xs ∧ SqT K H b ys)
    (hs : ∀ i x H H', i < n → Pv i H → YPair (fun i => xs[i]?) (fun i => ys[i]?) i H x H' → g x (wipe σ vs) H' fun σ2 H2 => wipe σ2 vs = wipe σ vs ∧ tt σ2 H2 fun b H3 =>
      if b = true then te σ2 H3 fun y H4 => ∃ acc, H4 D = some (.lst acc) ∧ acc.length < sizeLine ∧ Pv (i + 1) (upd H4 D (.lst (acc ++ [y]))) else Pv (i + 1) H3)
    (hd : ∀ H, Pv n H → Qd H) := lc_it (walk_zipM (K := K) (a := a) (b := b) hn) (g := g) (tt := tt) (te := te) (vs := vs) (σ := σ) (H1 := H1) (D := D) (Qd := Qd) Pv (h0 _ (same_new hD) upd_same) hG hs hd
end Cl

/-! The probes of a set's table meet every slot, for every mask one below a power of two. -/
namespace SG
open PySem PySem.Spec L2
def S : Nat → Nat
  | 0 => 0
  | n + 1 => S n * 5 + 1
theorem S_add (a : Nat) : ∀ b, S (a + b) = 5 ^ b * S a + S b
  | 0 => by simp [S]
  | b + 1 => by
    show S (a + b) * 5 + 1 = _
    rw [S_add a b, Nat.pow_succ]
    show _ = 5 ^ b * 5 * S a + (S b * 5 + 1)
    rw [Nat.add_mul, Nat.mul_right_comm]
    omega
theorem pow5 (n : Nat) : ∃ q, 5 ^ n = 4 * q + 1 := by
  induction n with
  | zero => exact ⟨0, rfl⟩
  | succ n ih => obtain ⟨q, e⟩ := ih; exact ⟨5 * q + 1, by rw [Nat.pow_succ, e]; omega⟩
theorem S_pow : ∀ n, ∃ c, S (2 ^ n) = 2 ^ n * (2 * c + 1)
  | 0 => ⟨0, rfl⟩
  | n + 1 => by
    obtain ⟨c, e⟩ := S_pow n
    obtain ⟨q, eq⟩ := pow5 (2 ^ n)
    refine ⟨2 * q * c + q + c, ?_⟩
    rw [show 2 ^ (n + 1) = 2 ^ n + 2 ^ n by rw [Nat.pow_succ]; omega, S_add, e, eq]
    generalize 2 ^ n = p
    have h : ∀ x : Nat, (4 * q + 1) * x + x = 2 * (2 * q + 1) * x := fun x => by
      have : (4 * q + 1) * x + x = (4 * q + 1 + 1) * x := by rw [Nat.add_mul (4 * q + 1) 1 x, Nat.one_mul]
      rw [this]; congr 1; omega
    rw [h]
    have h2 : (p + p) * (2 * (2 * q * c + q + c) + 1) = p * (2 * (2 * (2 * q * c + q + c) + 1)) := by rw [← Nat.two_mul, Nat.mul_comm 2 p, Nat.mul_assoc]
    rw [h2, Nat.mul_comm (2 * (2 * q + 1)), Nat.mul_assoc]
    congr 1
    have h3 : (2 * c + 1) * (2 * (2 * q + 1)) = 2 * ((2 * c + 1) * (2 * q + 1)) := by rw [Nat.mul_left_comm]
    rw [h3]
    congr 1
    rw [Nat.add_mul, Nat.mul_add, Nat.one_mul, Nat.mul_one]
    have h4 : 2 * c * (2 * q) = 2 * (2 * q * c) := by
      rw [Nat.mul_assoc, Nat.mul_comm c]
    omega
theorem S_surj : ∀ n j, ∃ b, b < 2 ^ n ∧ S b % 2 ^ n = j % 2 ^ n
  | 0, j => ⟨0, by decide, by rw [Nat.pow_zero, Nat.mod_one, Nat.mod_one]⟩
  | n + 1, j => by
    obtain ⟨b, hb, e⟩ := S_surj n j
    obtain ⟨c, ec⟩ := S_pow n
    obtain ⟨q, eq⟩ := pow5 b
    have e2 : 2 ^ (n + 1) = 2 * 2 ^ n := by rw [Nat.pow_succ, Nat.mul_comm]
    have pos : 0 < 2 ^ n := Nat.pow_pos (by decide)
    rw [e2]
    have key : ∀ x y p : Nat, 0 < p → x % p = y % p → x % (2 * p) = y % (2 * p) ∨ (x + p) % (2 * p) = y % (2 * p) := by
      intro x y p hp h
      have d1 := Nat.div_add_mod x p
      have d2 := Nat.div_add_mod y p
      have hm : x % p < p := Nat.mod_lt _ hp
      generalize x / p = u at d1
      generalize y / p = v at d2
      generalize x % p = r at d1 h hm
      rw [← h] at d2
      subst d1 d2
      have z : ∀ k, (2 * p * k + r) % (2 * p) = r := fun k => by rw [Nat.mul_add_mod]; exact Nat.mod_eq_of_lt (by omega)
      have z1 : ∀ k, (2 * p * k + (p + r)) % (2 * p) = p + r := fun k => by rw [Nat.mul_add_mod]; exact Nat.mod_eq_of_lt (by omega)
      have ev : ∀ k, p * (2 * k) + r = 2 * p * k + r := fun k => by rw [← Nat.mul_assoc, Nat.mul_comm p 2]
      have od : ∀ k, p * (2 * k + 1) + r = 2 * p * k + (p + r) := fun k => by rw [Nat.mul_add, ← Nat.mul_assoc, Nat.mul_comm p 2, Nat.mul_one, Nat.add_assoc]
      have ep : ∀ k, p * (2 * k) + r + p = 2 * p * k + (p + r) := fun k => by rw [ev]; omega
      have op : ∀ k, p * (2 * k + 1) + r + p = 2 * p * (k + 1) + r := fun k => by rw [od, Nat.mul_add]; omega
      rcases Nat.mod_two_eq_zero_or_one u with hu | hu <;> rcases Nat.mod_two_eq_zero_or_one v with hv | hv
      · obtain ⟨a, rfl⟩ : ∃ a, u = 2 * a := ⟨u / 2, by omega⟩
        obtain ⟨b, rfl⟩ : ∃ a, v = 2 * a := ⟨v / 2, by omega⟩
        left; rw [ev, ev, z, z]
      · obtain ⟨a, rfl⟩ : ∃ a, u = 2 * a := ⟨u / 2, by omega⟩
        obtain ⟨b, rfl⟩ : ∃ a, v = 2 * a + 1 := ⟨v / 2, by omega⟩
        right; rw [ep, od, z1, z1]
      · obtain ⟨a, rfl⟩ : ∃ a, u = 2 * a + 1 := ⟨u / 2, by omega⟩
        obtain ⟨b, rfl⟩ : ∃ a, v = 2 * a := ⟨v / 2, by omega⟩
        right; rw [op, ev, z, z]
      · obtain ⟨a, rfl⟩ : ∃ a, u = 2 * a + 1 := ⟨u / 2, by omega⟩
        obtain ⟨b, rfl⟩ : ∃ a, v = 2 * a + 1 := ⟨v / 2, by omega⟩
        left; rw [od, od, z1, z1]
    rcases key (S b) j (2 ^ n) pos e with h | h
    · exact ⟨b, by omega, h⟩
    · refine ⟨2 ^ n + b, by omega, ?_⟩
      rw [← h, S_add, ec, eq]
      generalize 2 ^ n = p
      have : (4 * q + 1) * (p * (2 * c + 1)) = 2 * p * ((4 * q + 1) * c + 2 * q) + p := by
        rw [Nat.mul_left_comm, Nat.mul_comm 2 p, Nat.mul_assoc]
        have : (4 * q + 1) * (2 * c + 1) = 2 * ((4 * q + 1) * c + 2 * q) + 1 := by
          rw [Nat.mul_add, Nat.mul_left_comm]; omega
        rw [this, Nat.mul_add, Nat.mul_one]
      rw [this, Nat.add_assoc, Nat.mul_add_mod, Nat.add_comm p]
def MaskG (m : Nat) : Prop := ∃ n, 3 ≤ n ∧ n ≤ 13 ∧ m + 1 = 2 ^ n
theorem MaskG.odd {m : Nat} (h : MaskG m) : m % 2 = 1 := by
  obtain ⟨n, h1, h2, e⟩ := h
  obtain ⟨k, rfl⟩ : ∃ k, n = k + 1 := ⟨n - 1, by omega⟩
  rw [Nat.pow_succ] at e
  omega
theorem MaskG.le {m : Nat} (h : MaskG m) : m ≤ 8191 := by
  obtain ⟨n, h1, h2, e⟩ := h
  have : 2 ^ n ≤ 2 ^ 13 := Nat.pow_le_pow_right (by decide) h2
  omega
theorem lcgN_S (m : Nat) : ∀ k, lcgN m k = S k % (m + 1)
  | 0 => by show 0 = 0 % (m + 1); rw [Nat.zero_mod]
  | k + 1 => by
    show (lcgN m k * 5 + 1) % (m + 1) = (S k * 5 + 1) % (m + 1)
    rw [lcgN_S m k, Nat.add_mod, Nat.mod_mul_mod, ← Nat.add_mod]
theorem lcg_allG {m : Nat} (h : MaskG m) {j : Nat} (hj : j ≤ m) : ∃ b, b ≤ m ∧ lcgN m b = j := by
  obtain ⟨n, h1, h2, e⟩ := h
  obtain ⟨b, hb, eb⟩ := S_surj n j
  refine ⟨b, by omega, ?_⟩
  rw [lcgN_S, e, eb]
  exact Nat.mod_eq_of_lt (by omega)
theorem lcg_roundG {m : Nat} (h : MaskG m) : lcgN m (m + 1) = 0 := by
  obtain ⟨n, h1, h2, e⟩ := h
  obtain ⟨c, ec⟩ := S_pow n
  rw [lcgN_S, e, ec, Nat.mul_mod_right]
theorem lcgI_allG {m : Nat} (h : MaskG m) {i j : Nat} (hi : i ≤ m) (hj : j ≤ m) : ∃ k, k ≤ m ∧ lcgI m i k = j := by
  obtain ⟨a, ha, ea⟩ := lcg_allG h hi
  obtain ⟨b, hb, eb⟩ := lcg_allG h hj
  by_cases q : a ≤ b
  · exact ⟨b - a, by omega, by rw [← ea, lcgN_add, ← eb]; congr 1; omega⟩
  · refine ⟨m + 1 + b - a, by omega, ?_⟩
    have e0 : lcgI m 0 b = lcgN m b := by
      have := lcgN_add m 0 b
      rw [Nat.zero_add] at this
      exact this
    rw [← ea, lcgN_add, show a + (m + 1 + b - a) = m + 1 + b by omega, ← lcgN_add, lcg_roundG h, e0, eb]
theorem run_meetsG {m : Nat} (hm : MaskG m) (h : Int) {j : Nat} (hj : j ≤ m) : ∃ n, n ≤ m + 12 ∧ runI m (SetTable.bits h) n = j := by
  obtain ⟨k, hk, e⟩ := lcgI_allG hm (runI_le m (SetTable.bits h) 12) hj
  exact ⟨12 + k, by omega, by rw [runI_tail (bits_lt h), e]⟩
theorem off_le (m : Nat) : ∀ n i b, off m i b n ≤ 10 * n
  | 0, i, b => Nat.le_refl 0
  | n + 1, i, b => by
    show SetTable.runEnd m i - i + 1 + off m (SetTable.leap m i b).1 (SetTable.leap m i b).2 n ≤ _
    have := off_le m n (SetTable.leap m i b).1 (SetTable.leap m i b).2
    have : SetTable.runEnd m i - i ≤ 9 := by unfold SetTable.runEnd; split <;> omega
    omega
theorem nth_offj (m : Nat) (h : Int) (n : Nat) : way m h (off m (SetTable.bits h % (m + 1)) (SetTable.bits h) n) = runI m (SetTable.bits h) n := by
  show (nth m (runAt m (SetTable.bits h % (m + 1)) (SetTable.bits h)) _).j = _
  rw [nth_off, itL_run]
  rfl
theorem nth_meetsG {m : Nat} (hm : MaskG m) (h : Int) {j : Nat} (hj : j ≤ m) : ∃ k, k < 10 * SetTable.turns m ∧ way m h k = j := by
  obtain ⟨n, hn, e⟩ := run_meetsG hm h hj
  refine ⟨_, ?_, (nth_offj m h n).trans e⟩
  have := off_le m n (SetTable.bits h % (m + 1)) (SetTable.bits h)
  unfold SetTable.turns
  omega
theorem way_leG (m : Nat) (h : Int) (k : Nat) : way m h k ≤ m := by
  have hi : SetTable.bits h % (m + 1) ≤ m := Nat.le_of_lt_succ (Nat.mod_lt _ (Nat.succ_pos m))
  have := nth_in (m := m) k (runAt m (SetTable.bits h % (m + 1)) (SetTable.bits h)) (by
    obtain ⟨a, b, c⟩ := runEnd_bd hi
    show SetTable.bits h % (m + 1) + (SetTable.runEnd m (SetTable.bits h % (m + 1)) - SetTable.bits h % (m + 1)) ≤ m
    omega)
  show (nth m (runAt m (SetTable.bits h % (m + 1)) (SetTable.bits h)) k).j ≤ m
  omega
theorem free_findG {m : Nat} (hm : MaskG m) (owner : Array (Option Nat)) (h : Int) {j : Nat} (hj : j ≤ m) (hn : oAt owner j = none) :
    ∃ K, SetTable.layClean.free m owner (SetTable.turns m) (SetTable.bits h % (m + 1)) (SetTable.bits h) = some (way m h K) ∧
      oAt owner (way m h K) = none ∧ ∀ k, k < K → oAt owner (way m h k) ≠ none := by
  obtain ⟨n, hn2, e⟩ := run_meetsG hm h hj
  have e2 := (nth_offj m h n).trans e
  obtain ⟨K, hK, hp, hl⟩ := st_least (p := fun k => oAt owner (way m h k) = none) _ (by show oAt owner (way m h (off m (SetTable.bits h % (m + 1)) (SetTable.bits h) n)) = none; rw [e2]; exact hn)
  refine ⟨K, ?_, hp, hl⟩
  refine free_spec m owner (SetTable.turns m) n _ _ K (by unfold SetTable.turns; omega) hK (fun k hk => ?_) ?_
  · cases q : oAt owner (way m h k) with
    | none => exact absurd q (hl k hk)
    | some _ => rfl
  · show (oAt owner (way m h K)).isNone = true
    rw [hp]; rfl
end SG

/-! A set's table laid anew, and a row put into it, at any mask one below a power of two. -/
namespace SG
open PySem PySem.Spec L2
theorem own_step {m : Nat} (hm : MaskG m) {done : List Int} {owner : Array (Option Nat)} (O : Own m done owner) (hl : done.length ≤ m) (h : Int) :
    ∃ j, SetTable.layClean.free m owner (SetTable.turns m) (SetTable.bits h % (m + 1)) (SetTable.bits h) = some j ∧
      Own m (done ++ [h]) (owner.setIfInBounds j (some done.length)) := by
  obtain ⟨ps, lp, hp⟩ := O.ps
  obtain ⟨j0, hj0, nj0⟩ := st_missing ps (m + 1) (by omega)
  have free0 : oAt owner j0 = none := Classical.byContradiction fun z => nj0 (hp j0 (by omega) z)
  obtain ⟨K, e, hn, hb⟩ := free_findG hm owner h (Nat.le_of_lt_succ hj0) free0
  refine ⟨_, e, ?_⟩
  have hw := way_leG m h K
  have self : oAt (owner.setIfInBounds (way m h K) (some done.length)) (way m h K) = some done.length := oAt_set_self _ (by rw [O.sz]; omega)
  have ne : ∀ {j}, j ≠ way m h K → oAt (owner.setIfInBounds (way m h K) (some done.length)) j = oAt owner j := fun hj => oAt_set_ne _ hj
  have keep : ∀ j, oAt owner j ≠ none → oAt (owner.setIfInBounds (way m h K) (some done.length)) j ≠ none := fun j hj => by
    by_cases q : j = way m h K
    · rw [q, self]; exact nofun
    · rw [ne q]; exact hj
  refine ⟨by rw [Array.size_setIfInBounds]; exact O.sz, fun j k hj hk => ?_, fun k hk => ?_, ⟨ps ++ [way m h K], by simp [lp], fun j hj hq => ?_⟩⟩
  · by_cases q : j = way m h K
    · rw [q, self] at hk
      injection hk with hk
      exact ⟨h, K, by rw [← hk]; simp, q.symm, fun k' hk' => keep _ (hb k' hk')⟩
    · rw [ne q] at hk
      obtain ⟨h', K', e1, e2, e3⟩ := O.at_ j k hj hk
      exact ⟨h', K', by rw [List.getElem?_append_left (List.getElem?_eq_some_iff.mp e1).1]; exact e1, e2, fun k' hk' => keep _ (e3 k' hk')⟩
  · rw [List.length_append] at hk
    by_cases q : k = done.length
    · exact ⟨way m h K, hw, by rw [self, q]⟩
    · obtain ⟨j, hj, ej⟩ := O.all k (by have : [h].length = 1 := rfl; omega)
      refine ⟨j, hj, ?_⟩
      rw [ne (fun z => by rw [z, hn] at ej; cases ej)]
      exact ej
  · by_cases q : j = way m h K
    · simp [q]
    · rw [ne q] at hq
      exact List.mem_append_left _ (hp j hj hq)
theorem fold_okG {m : Nat} (hm : MaskG m) : ∀ (rest done : List Int) (owner : Array (Option Nat)), Own m done owner → done.length + rest.length ≤ m →
    ∃ owner', List.foldl (stepF m) (some (owner, done.length)) rest = some (owner', (done ++ rest).length) ∧ Own m (done ++ rest) owner'
  | [], done, owner, O, _ => ⟨owner, by simp, by simpa using O⟩
  | h :: rest, done, owner, O, hl => by
    obtain ⟨j, e, O1⟩ := own_step hm O (by simp at hl; omega) h
    obtain ⟨o', e2, O2⟩ := fold_okG hm rest (done ++ [h]) _ O1 (by simp at hl ⊢; omega)
    refine ⟨o', ?_, by simpa using O2⟩
    rw [List.foldl_cons]
    have e3 : stepF m (some (owner, done.length)) h = some (owner.setIfInBounds j (some done.length), (done ++ [h]).length) := by
      show (do let j ← SetTable.layClean.free m owner (SetTable.turns m) (SetTable.bits h % (m + 1)) (SetTable.bits h); pure (owner.setIfInBounds j (some done.length), done.length + 1)) = _
      rw [e]
      simp
    rw [e3, e2]
    simp
theorem layClean_okG {m : Nat} (hm : MaskG m) {hs : Array Int} (hl : hs.size ≤ m) : ∃ owner, SetTable.layClean m hs = some owner ∧ Own m hs.toList owner := by
  obtain ⟨o, e, O⟩ := fold_okG hm hs.toList [] _ (Own.init m) (by simpa using hl)
  refine ⟨o, ?_, by simpa using O⟩
  rw [layClean_eq]
  rw [show (0 : Nat) = ([] : List Int).length from rfl, e]
  rfl
structure TabG (t : SetTable) (hs : List Int) : Prop where
  ris : Ris t.place.toList
  dm : t.dummies = #[]
  sz : t.place.size = hs.length
  mok : MaskG t.mask
  bd : ∀ x ∈ t.place.toList, x ≤ t.mask
  reach : ∀ (i : Nat) (h : Int) (j : Nat), hs[i]? = some h → t.place.toList[i]? = some j →
    ∃ k, way t.mask h k = j ∧ ∀ k', k' < k → way t.mask h k' ∈ t.place.toList
section
variable {t : SetTable} {hs : List Int} (T : TabG t hs)
include T
theorem TabG.first (hl : hs.length ≤ t.mask) (h : Int) : ∃ K, K < 10 * SetTable.turns t.mask ∧ way t.mask h K ∉ t.place.toList ∧ ∀ k, k < K → way t.mask h k ∈ t.place.toList := by
  obtain ⟨j, hj, nj⟩ := st_missing t.place.toList (t.mask + 1) (by rw [Array.length_toList, T.sz]; omega)
  obtain ⟨k, hk, e⟩ := nth_meetsG T.mok h (Nat.le_of_lt_succ hj)
  obtain ⟨K, hK, hp, hl2⟩ := st_least (p := fun k => way t.mask h k ∉ t.place.toList) k (by show way t.mask h k ∉ _; rw [e]; exact nj)
  exact ⟨K, by omega, hp, fun k' hk' => Classical.byContradiction fun z => hl2 k' hk' z⟩
theorem TabG.before {h : Int} {K i j : Nat} (hK : way t.mask h K ∉ t.place.toList) (hi : hs[i]? = some h) (hj : t.place.toList[i]? = some j) :
    ∃ k, k < K ∧ way t.mask h k = j := by
  obtain ⟨k, e, hb⟩ := T.reach i h j hi hj
  refine ⟨k, Classical.byContradiction fun z => ?_, e⟩
  rcases Nat.lt_or_eq_of_le (Nat.le_of_not_lt z) with q | q
  · exact hK (hb K q)
  · rw [q, e] at hK
    exact hK (List.mem_of_getElem? hj)
theorem TabG.below_le (j : Nat) : SetTable.below t.place j ≤ hs.length := by
  have := (below_cut T.ris j).1
  rw [← T.sz]
  exact this
theorem TabG.put {h : Int} {K : Nat} (hK : way t.mask h K ∉ t.place.toList) (hb : ∀ k, k < K → way t.mask h k ∈ t.place.toList) :
    (t.put (way t.mask h K)).2 = SetTable.below t.place (way t.mask h K) ∧ SetTable.below t.place (way t.mask h K) ≤ hs.length ∧
      TabG (t.put (way t.mask h K)).1 (hs.take (SetTable.below t.place (way t.mask h K)) ++ h :: hs.drop (SetTable.below t.place (way t.mask h K))) ∧
      (t.put (way t.mask h K)).1.mask = t.mask ∧ (t.put (way t.mask h K)).1.led = t.led ∧ (t.put (way t.mask h K)).1.plain = t.plain ∧
      (t.put (way t.mask h K)).1.fill = hs.length + 1 := by
  have pl := put_place t (way t.mask h K)
  have pd := put_dm T.dm (way t.mask h K)
  have ble := T.below_le (way t.mask h K)
  have wle := way_leG t.mask h K
  have mm : (t.put (way t.mask h K)).1.mask = t.mask := rfl
  have ris : Ris (t.put (way t.mask h K)).1.place.toList :=
    ris_insert T.ris fun z => hK (List.mem_of_getElem? (by rw [Array.getElem?_toList]; exact z))
  have mem : ∀ x, x ∈ (t.put (way t.mask h K)).1.place.toList ↔ x = way t.mask h K ∨ x ∈ t.place.toList := fun x => by
    rw [pl, (put_perm _ _ _).mem_iff, List.mem_cons]
  have lp : t.place.toList.length = hs.length := by rw [Array.length_toList, T.sz]
  have szz : (t.put (way t.mask h K)).1.place.size = hs.length + 1 := by
    rw [← Array.length_toList, pl, len_ins _ (by rw [lp]; exact ble), lp]
  generalize hp : SetTable.below t.place (way t.mask h K) = p at *
  refine ⟨hp, ble, ⟨ris, pd, by rw [szz, len_ins _ ble], T.mok, fun x hx => ?_, fun i h' j hi hj => ?_⟩, rfl, rfl, rfl, ?_⟩
  · rcases (mem x).mp hx with q | q
    · rw [q]; exact wle
    · exact T.bd x q
  · rw [tins_get _ ble] at hi
    rw [pl, tins_get _ (by rw [lp]; exact ble)] at hj
    rw [mm]
    have old : ∀ i', hs[i']? = some h' → t.place.toList[i']? = some j → ∃ k, way t.mask h' k = j ∧ ∀ k', k' < k → way t.mask h' k' ∈ (t.put (way t.mask h K)).1.place.toList := fun i' a b => by
      obtain ⟨k, e, g⟩ := T.reach i' h' j a b
      exact ⟨k, e, fun k' hk' => (mem _).mpr (.inr (g k' hk'))⟩
    by_cases q : i < p
    · rw [if_pos q] at hi hj
      exact old i hi hj
    · rw [if_neg q] at hi hj
      by_cases q2 : i = p
      · rw [if_pos q2] at hi hj
        injection hi with hi
        injection hj with hj
        subst hi hj
        exact ⟨K, rfl, fun k' hk' => (mem _).mpr (.inr (hb k' hk'))⟩
      · rw [if_neg q2] at hi hj
        exact old (i - 1) hi hj
  · show (t.put (way t.mask h K)).1.place.size + (t.put (way t.mask h K)).1.dummies.size = _
    rw [pd, szz]
    rfl
end
theorem pw_filterMap {f : Nat → Option (Nat × Nat)} (hf : ∀ j x, f j = some x → x.1 = j) : ∀ (l : List Nat), Ris l → Ris ((l.filterMap f).map (·.1)) ∧ ∀ x ∈ (l.filterMap f).map (·.1), x ∈ l
  | [], _ => ⟨.nil, fun _ z => nomatch z⟩
  | a :: l, h => by
    obtain ⟨h1, h2⟩ := List.pairwise_cons.mp h
    obtain ⟨i1, i2⟩ := pw_filterMap hf l h2
    cases q : f a with
    | none => rw [List.filterMap_cons_none q]; exact ⟨i1, fun x hx => List.mem_cons_of_mem _ (i2 x hx)⟩
    | some x =>
      rw [List.filterMap_cons_some q, List.map_cons]
      have e := hf a x q
      refine ⟨List.pairwise_cons.mpr ⟨fun y hy => by rw [e]; exact h1 y (i2 y hy), i1⟩, fun y hy => ?_⟩
      rcases List.mem_cons.mp hy with z | z
      · rw [z, e]; exact List.mem_cons_self
      · exact List.mem_cons_of_mem _ (i2 y z)
theorem ris_live (m : Nat) (owner : Array (Option Nat)) : Ris ((liveOf m owner).map (·.1)) :=
  (pw_filterMap (f := fun j => (owner.getD j none).map fun x => (j, x)) (fun j x e => by
    cases q : owner.getD j none with
    | none => rw [q] at e; cases e
    | some y => rw [q] at e; cases e; rfl) (List.range (m + 1)) List.pairwise_lt_range).1
theorem relaid_okG (t : SetTable) {hs : Array Int} {wanted M : Nat} (eM : SetTable.sizeAbove wanted - 1 = M) (hM : MaskG M) (hl : hs.size ≤ M) :
    ∃ t' order, t.relaid hs wanted = some (t', order) ∧ order.toList.Perm (List.range hs.size) ∧
      TabG t' (order.toList.map fun i => hs.getD i 0) ∧ t'.mask = M ∧ t'.led = t.led ∧ t'.plain = t.plain ∧ t'.dummies = #[] := by
  obtain ⟨owner, e, O⟩ := layClean_okG hM hl
  refine ⟨tabOf t M owner, ((liveOf M owner).map (·.2)).toArray, ?_, ?_, ?_, rfl, rfl, rfl, rfl⟩
  · rw [relaid_eq, eM, e]; rfl
  · have ris := ris_live M owner
    have nd : ((liveOf M owner).map (·.1)).Nodup := List.Pairwise.imp (fun h => Nat.ne_of_lt h) ris
    obtain ⟨ps, lp, hp⟩ := O.ps
    have le1 := nat_nodup_len _ ps nd fun x hx => by
      obtain ⟨⟨j, k⟩, hm, rfl⟩ := List.mem_map.mp hx
      obtain ⟨h1, h2⟩ := (mem_live O.sz).mp hm
      exact hp j h1 (by rw [h2]; exact nofun)
    have all : ∀ k, k < hs.size → k ∈ (liveOf M owner).map (·.2) := fun k hk => by
      obtain ⟨j, hj, ej⟩ := O.all k (by rw [Array.length_toList]; exact hk)
      exact List.mem_map.mpr ⟨(j, k), (mem_live O.sz).mpr ⟨hj, ej⟩, rfl⟩
    have le2 := nat_nodup_len (List.range hs.size) ((liveOf M owner).map (·.2)) List.nodup_range fun x hx => all x (List.mem_range.mp hx)
    rw [List.length_map] at le1 le2
    rw [List.length_range] at le2
    rw [lp, Array.length_toList (xs := hs)] at le1
    exact perm_range _ _ (by show ((liveOf M owner).map (·.2)).length = _; rw [List.length_map]; omega) all
  · refine ⟨ris_live M owner, rfl, by show ((liveOf M owner).map (·.1)).toArray.size = _; simp, hM, fun x hx => ?_, fun i h j hi hj => ?_⟩
    · obtain ⟨⟨j, k⟩, hm, rfl⟩ := List.mem_map.mp hx
      exact ((mem_live O.sz).mp hm).1
    · have hi : (((liveOf M owner).map (·.2)).map fun i => hs.getD i 0)[i]? = some h := hi
      have hj : ((liveOf M owner).map (·.1))[i]? = some j := hj
      rw [List.getElem?_map] at hj
      rw [List.map_map, List.getElem?_map] at hi
      cases q : (liveOf M owner)[i]? with
      | none => rw [q] at hj; cases hj
      | some x =>
        obtain ⟨j', k⟩ := x
        rw [q] at hi hj
        injection hj with hj
        injection hi with hi
        have hj : j' = j := hj
        subst hj
        have hi : hs.getD k 0 = h := hi
        obtain ⟨h1, h2⟩ := (mem_live O.sz).mp (List.mem_of_getElem? q)
        obtain ⟨h', K, e1, e2, e3⟩ := O.at_ j' k h1 h2
        have e4 : h' = h := by
          rw [Array.getElem?_toList] at e1
          rw [← hi, Array.getD_eq_getD_getElem?, e1]
          rfl
        subst e4
        refine ⟨K, e2, fun k' hk' => ?_⟩
        show way M h' k' ∈ (liveOf M owner).map (·.1)
        cases q2 : oAt owner (way M h' k') with
        | none => exact absurd q2 (e3 k' hk')
        | some z => exact List.mem_map.mpr ⟨(_, z), (mem_live O.sz).mpr ⟨way_leG M h' k', q2⟩, rfl⟩
end SG

/-! Sets whose elements are objects of a kind: an element sought, put in, the table laid anew. -/
namespace SG
open PySem PySem.Spec L2
/-- what a set asks of the kind of its elements -/
structure SKind (P : Program) (w : World) (K : Type) [DecidableEq K] where
  is : Heap → K → Addr → Prop
  hash : K → Int
  room : Nat
  keep : ∀ {h h' : Heap} {k : K} {a : Addr}, is h k a → (∀ c o, h.get? c = some o → o.cls = .type "tuple" → h'.get? c = some o) → is h' k a
  pyHash : ∀ {A : Around} {E : Value → Shared → Prop} {s : Shared} {k : K} {a : Addr} {Q : Int → Shared → Prop},
    A.units + room < cLine → is s.heap k a → (∀ tk, Q (hash k) { s with toks := tk }) → wpAny (model P w) A (PySem.pyHash (.ref a)) Q E s
  eqB : ∀ {A : Around} {E : Value → Shared → Prop} {s : Shared} {x y : K} {a b : Addr} {Q : Bool → Shared → Prop},
    A.units + room < cLine → is s.heap x a → is s.heap y b → (∀ tk, Q (decide (x = y)) { s with toks := tk }) → wpAny (model P w) A (eqBool (.ref a) (.ref b)) Q E s
  byVal : ∀ {A : Around} {E : Value → Shared → Prop} {s : Shared} {k : K} {a : Addr} {Q : Bool → Shared → Prop},
    is s.heap k a → Q true s → wpAny (model P w) A (hashByValue 8 (.ref a)) Q E s
  seen : ∀ {A : Around} {E : Value → Shared → Prop} {s : Shared} {k : K} {b : Addr} {Q : Bool → Shared → Prop},
    is s.heap k b → ∀ {ys : List Value}, (∀ y ∈ ys, ∃ k' c, y = .ref c ∧ is s.heap k' c) → Q false s →
    wpAny (model P w) A (searchCouldBeSeen (.ref b) ys) Q E s
section
variable {P : Program} {w : World} {K : Type} [DecidableEq K] (knd : SKind P w K)
def rowsG (L : List (Addr × K)) : List (Int × Value) := L.map fun p => (knd.hash p.2, .ref p.1)
structure SetG (h : Heap) (a : Addr) (L : List (Addr × K)) (es : Array (Int × Value)) (ep : Nat) (t : SetTable) : Prop where
  ob : ∃ o, h.get? a = some o ∧ o.ExactSet ∧ o.data = .set es ep t
  rows : es.toList = rowsG knd L
  tab : TabG t (L.map fun p => knd.hash p.2)
  nd : (L.map (·.2)).Nodup
  tup : ∀ p ∈ L, knd.is h p.2 p.1
  plain : t.plain = true
  led : w.params.followText "set-order" = true ∨ t.led = true
  room : L.length * 5 < t.mask * 3
  few : L.length < 2048
variable {knd}
theorem nth_dummy (m : Nat) (p : SetTable.Probe) (hp : p.dummy = none) : ∀ k, (nth m p k).dummy = none
  | 0 => hp
  | k + 1 => by
    rw [nth_succ]
    have := nth_dummy m p hp k
    unfold adv
    split <;> exact this
section
variable {A : Around} {E : Value → Shared → Prop} {s : Shared} {a : Addr} {L : List (Addr × K)} {es : Array (Int × Value)} {ep : Nat} {t : SetTable}
  (R : SetG knd s.heap a L es ep t)
include R
theorem SetG.size : es.size = L.length := by
  rw [← Array.length_toList, R.rows]; exact List.length_map _
theorem SetG.fits : t.fits es.size = true := by
  have h1 := R.tab.sz
  rw [List.length_map] at h1
  have h2 := R.size
  have h3 := R.room
  unfold SetTable.fits SetTable.fill
  rw [R.tab.dm, h1, h2]
  simp
  omega
theorem SetG.gw : ¬ t.gaveWay = true := by
  have := R.tab.mok.odd
  unfold SetTable.gaveWay
  rw [this]
  decide
theorem SetG.entry {i : Nat} {p : Addr × K} (h : L[i]? = some p) : es[i]? = some (knd.hash p.2, .ref p.1) := by
  rw [← Array.getElem?_toList, R.rows]
  unfold rowsG
  rw [List.getElem?_map, h]
  rfl
theorem SetG.at_place {i j : Nat} (h : t.place.toList[i]? = some j) : ∃ p, L[i]? = some p := by
  have h1 := (List.getElem?_eq_some_iff.mp h).1
  have h2 := R.tab.sz
  rw [List.length_map] at h2
  rw [Array.length_toList, h2] at h1
  exact ⟨L[i], List.getElem?_eq_getElem h1⟩
theorem SetG.toks (tk : Nat) : SetG knd ({ s with toks := tk } : Shared).heap a L es ep t := R
theorem wpAny_state {Q : Array (Int × Value) × Nat × SetTable → Shared → Prop} (q : Q (es, ep, t) s) : wpAny (model P w) A (setState a) Q E s := by
  obtain ⟨o, h1, _, h3⟩ := R.ob
  exact wpAny_setState_of h1 h3 R.fits q
theorem seek_from {x : Addr} {k : K} (hx : knd.is s.heap k x) (hu : A.units + knd.room < cLine) {N : Nat} (hlt : N < 10 * SetTable.turns t.mask)
    (hN : way t.mask (knd.hash k) N ∉ t.place.toList) (hb : ∀ c, c < N → way t.mask (knd.hash k) c ∈ t.place.toList) {Q : SetFound → Shared → Prop}
    (q1 : k ∈ L.map (·.2) → ∀ tk, Q (.there none) { s with toks := tk })
    (q2 : k ∉ L.map (·.2) → ∀ tk, Q (.free (way t.mask (knd.hash k) N) false) { s with toks := tk }) :
    ∀ (f c : Nat) (stand : Option SetTable.Probe) (tk : Nat),
      stand.getD (t.probeStart (knd.hash k)) = nth t.mask (runAt t.mask (SetTable.bits (knd.hash k) % (t.mask + 1)) (SetTable.bits (knd.hash k))) c →
      c ≤ N → N - c < f → (∀ (i : Nat) (p : Addr × K), L[i]? = some p → p.2 = k → ∃ c', c ≤ c' ∧ c' < N ∧ t.place.toList[i]? = some (way t.mask (knd.hash k) c')) →
      wpAny (model P w) A (setSearchFrom a (.ref x) (knd.hash k) true f stand) Q E { s with toks := tk }
  | 0, c, stand, tk, _, _, h, _ => absurd h (Nat.not_lt_zero _)
  | f + 1, c, stand, tk, est, hc, hf, hi => by
    rw [setSearchFrom_succ]
    refine wpAny_bind (wpAny_state (R.toks tk) ?_)
    dsimp only
    rw [if_neg R.gw]
    generalize hst : runAt t.mask (SetTable.bits (knd.hash k) % (t.mask + 1)) (SetTable.bits (knd.hash k)) = st at *
    have wy : ∀ c, way t.mask (knd.hash k) c = (nth t.mask st c).j := fun c => by rw [← hst]
    have sd : st.dummy = none := by rw [← hst]; rfl
    rw [est]
    have hp : ∀ k', nth t.mask (nth t.mask st c) k' = nth t.mask st (c + k') := fun k' => (nth_add t.mask c st k').symm
    have G := go_spec t R.tab.ris R.tab.dm (fun i => (Option.map (fun x => x.fst) es[i]?).getD 0) (knd.hash k) (10 * SetTable.turns t.mask) (N - c) (nth t.mask st c)
      (nth_dummy _ _ sd c) (by omega) (fun k' hk' => by rw [hp, ← wy]; exact hb _ (by omega)) (by rw [hp, ← wy, show c + (N - c) = N by omega]; exact hN)
    have hash_at : ∀ {i : Nat} {p : Addr × K}, L[i]? = some p → (Option.map (fun x => x.fst) es[i]?).getD 0 = knd.hash p.2 := fun h => by rw [R.entry h]; rfl
    show wpAny (model P w) A (match SetTable.probe.go t (fun i => (Option.map (fun x => x.fst) es[i]?).getD 0) (knd.hash k) (10 * SetTable.turns t.mask) (nth t.mask st c) with | some met => _ | _ => _) Q E _
    rcases G with ⟨k', i, hk', pl, hh, hbef, eg⟩ | ⟨hnone, eg⟩
    · rw [eg]
      dsimp only
      rw [hp] at pl
      obtain ⟨p, ep1⟩ := R.at_place pl
      have ent := R.entry ep1
      have mem : p ∈ L := List.mem_of_getElem? ep1
      have rest : wpAny (model P w) A (searchRest a (.ref x) (knd.hash k) true f es t (nth t.mask (nth t.mask st c) k').j i (nth t.mask (nth t.mask st c) (k' + 1))) Q E { s with toks := tk } := by
        unfold searchRest
        rw [ent]
        dsimp only
        refine wpAny_bind (wpAny_holding (knd.eqB hu (R.tup p mem) hx fun tk2 => ?_))
        refine wpAny_bind (wpAny_state (R.toks tk2) ?_)
        dsimp only
        by_cases q : p.2 = k
        · rw [if_pos (by simp [q])]
          exact wpAny_pure (q1 (List.mem_map.mpr ⟨p, mem, q⟩) tk2)
        · rw [if_neg (by simp [q]), sameMem]
          dsimp only
          rw [if_pos rfl, hp, slot_live R.tab.ris pl]
          dsimp only
          rw [ent]
          dsimp only
          refine wpAny_bind (wpAny_isSame_ref_self ?_)
          refine wpAny_bind (wpAny_pure ?_)
          rw [if_pos rfl]
          dsimp only
          rw [if_neg (by simp [q])]
          refine seek_from hx hu hlt hN hb q1 q2 f (c + k' + 1) _ tk2 ?_ (by omega) (by omega) (fun i' p' e1 e2 => ?_)
          · rw [hst]
            show nth t.mask (nth t.mask st c) (k' + 1) = _
            rw [hp]
            rfl
          · obtain ⟨c', g1, g2, g3⟩ := hi i' p' e1 e2
            refine ⟨c', ?_, g2, g3⟩
            rcases Nat.lt_or_ge c' (c + k' + 1) with z | z
            · exfalso
              rcases Nat.lt_or_eq_of_le (Nat.lt_succ_iff.mp z) with z | z
              · refine hbef (c' - c) i' (by omega) ?_ (by rw [hash_at e1, e2])
                rw [hp, show c + (c' - c) = c' by omega, g3, wy]
              · rw [z, wy] at g3
                have h1 := (List.getElem?_eq_some_iff.mp pl)
                have h2 := (List.getElem?_eq_some_iff.mp g3)
                obtain ⟨l1, v1⟩ := h1
                obtain ⟨l2, v2⟩ := h2
                have ei : i = i' := by
                  have pw := List.pairwise_iff_getElem.mp R.tab.ris
                  rcases Nat.lt_trichotomy i i' with z2 | z2 | z2
                  · have := pw i i' l1 l2 z2
                    omega
                  · exact z2
                  · have := pw i' i l2 l1 z2
                    omega
                subst ei
                rw [ep1] at e1
                injection e1 with e1
                subst e1
                exact q e2
            · exact z
      split
      · refine wpAny_bind (knd.seen (s := { s with toks := tk }) hx (fun y hy => ?_) ?_)
        · obtain ⟨e, he, rfl⟩ := List.mem_map.mp hy
          have he := (Array.mem_filter.mp (Array.mem_toList_iff.mp he)).1
          have he := Array.mem_toList_iff.mpr he
          rw [R.rows] at he
          obtain ⟨p', hp', rfl⟩ := List.mem_map.mp he
          exact ⟨p'.2, p'.1, rfl, R.tup p' hp'⟩
        · rw [if_neg (by decide)]
          exact rest
      · exact rest
    · rw [eg]
      dsimp only
      rw [hp, show c + (N - c) = N by omega, ← wy]
      refine wpAny_pure (q2 (fun z => ?_) tk)
      obtain ⟨p, hp2, e⟩ := List.mem_map.mp z
      obtain ⟨i, l, v⟩ := List.mem_iff_getElem.mp hp2
      have hg : L[i]? = some p := by rw [List.getElem?_eq_getElem l, v]
      obtain ⟨c', g1, g2, g3⟩ := hi i p hg e
      refine hnone (c' - c) i (by omega) ?_ (by rw [hash_at hg, e])
      rw [hp, show c + (c' - c) = c' by omega, g3, wy]
theorem seek_at {x : Addr} {k : K} (hx : knd.is s.heap k x) (hu : A.units + knd.room < cLine) {Q : SetFound → Shared → Prop}
    (q1 : k ∈ L.map (·.2) → ∀ tk, Q (.there none) { s with toks := tk })
    (q2 : ∀ N, k ∉ L.map (·.2) → way t.mask (knd.hash k) N ∉ t.place.toList → (∀ c, c < N → way t.mask (knd.hash k) c ∈ t.place.toList) →
      ∀ tk, Q (.free (way t.mask (knd.hash k) N) false) { s with toks := tk }) :
    wpAny (model P w) A (setSearch a (.ref x) (knd.hash k) true) Q E s := by
  have hl : (L.map fun p => knd.hash p.2).length ≤ t.mask := by rw [List.length_map]; have := R.room; omega
  obtain ⟨N, n1, n2, n3⟩ := R.tab.first hl (knd.hash k)
  have ml := R.tab.mok.le
  have fu : N - 0 < 100000 := by unfold SetTable.turns at n1; omega
  unfold setSearch
  generalize (100000 : Nat) = F at fu ⊢
  refine seek_from R hx hu n1 n2 n3 q1 (fun z tk => q2 N z n2 n3 tk) F 0 none s.toks rfl (Nat.zero_le _) fu (fun i p e1 e2 => ?_)
  have h1 : (L.map fun p => knd.hash p.2)[i]? = some (knd.hash k) := by rw [List.getElem?_map, e1, ← e2]; rfl
  have h2 : i < t.place.toList.length := by
    rw [Array.length_toList, R.tab.sz]
    exact (List.getElem?_eq_some_iff.mp h1).1
  obtain ⟨c, g1, g2⟩ := R.tab.before n2 h1 (List.getElem?_eq_getElem h2)
  exact ⟨c, Nat.zero_le _, g1, by rw [List.getElem?_eq_getElem h2, g2]⟩
end
end
end SG

/-! An element put into a set, and the table laid anew. -/
namespace SG
open PySem PySem.Spec L2
theorem go_pow {n : Nat} (hn : n ≤ 8188) : ∀ (f j : Nat), j ≤ 13 → 13 - j < f → ∃ k, j ≤ k ∧ k ≤ 13 ∧ SetTable.sizeAbove.go n f (2 ^ j) = 2 ^ k ∧ n < 2 ^ k
  | 0, j, _, h => absurd h (Nat.not_lt_zero _)
  | f + 1, j, hj, hf => by
    rw [SetTable.sizeAbove.go]
    by_cases q : 2 ^ j ≤ n
    · rw [if_pos q]
      have : j ≠ 13 := fun z => by rw [z] at q; have : (2 : Nat) ^ 13 = 8192 := rfl; omega
      obtain ⟨k, h1, h2, h3, h4⟩ := go_pow hn f (j + 1) (by omega) (by omega)
      exact ⟨k, by omega, h2, by rw [← h3, Nat.pow_succ], h4⟩
    · rw [if_neg q]
      exact ⟨j, Nat.le_refl _, hj, rfl, by omega⟩
theorem above {n : Nat} (hn : n ≤ 8188) : MaskG (SetTable.sizeAbove n - 1) ∧ n < SetTable.sizeAbove n ∧ SetTable.sizeAbove n ≤ 8192 := by
  obtain ⟨k, h1, h2, h3, h4⟩ := go_pow hn 64 3 (by decide) (by decide)
  have h3 : SetTable.sizeAbove n = 2 ^ k := h3
  rw [h3]
  refine ⟨⟨k, h1, h2, by omega⟩, h4, ?_⟩
  have : 2 ^ k ≤ 2 ^ 13 := Nat.pow_le_pow_right (by decide) h2
  omega
theorem range_get {α : Type} : ∀ (L : List α), (List.range L.length).filterMap (fun i => L[i]?) = L
  | [] => rfl
  | a :: L => by
    rw [List.length_cons, List.range_succ_eq_map, List.filterMap_cons]
    have e0 : (a :: L)[0]? = some a := rfl
    rw [e0]
    dsimp only
    rw [List.filterMap_map]
    congr 1
    exact range_get L
section
variable {P : Program} {w : World} {K : Type} [DecidableEq K] {knd : SKind P w K}
theorem order_rowsG (L : List (Addr × K)) (es : Array (Int × Value)) (order : Array Nat) (hr : es.toList = rowsG knd L) (hp : order.toList.Perm (List.range L.length)) :
    ∃ L2, (order.filterMap fun x => es[x]?).toList = rowsG knd L2 ∧ L2.Perm L ∧
      L2.map (fun p => knd.hash p.2) = order.toList.map fun i => (es.map (·.1)).getD i 0 := by
  have ge : ∀ i, es[i]? = (L[i]?).map fun (p : Addr × K) => (knd.hash p.2, Value.ref p.1) := fun i => by
    rw [← Array.getElem?_toList, hr]
    unfold rowsG
    rw [List.getElem?_map]
  refine ⟨order.toList.filterMap fun i => L[i]?, ?_, ?_, ?_⟩
  · rw [Array.toList_filterMap]
    unfold rowsG
    rw [List.map_filterMap]
    congr 1
    funext i
    exact ge i
  · have := hp.filterMap fun i => L[i]?
    rw [range_get] at this
    exact this
  · have : ∀ l : List Nat, (∀ i ∈ l, i < L.length) → (l.filterMap fun i => L[i]?).map (fun p => knd.hash p.2) = l.map fun i => (es.map (·.1)).getD i 0 := by
      intro l
      induction l with
      | nil => intro _; rfl
      | cons i l ih =>
        intro h
        have hi := h i List.mem_cons_self
        rw [List.filterMap_cons_some (b := L[i]) (List.getElem?_eq_getElem hi), List.map_cons, List.map_cons, ih fun j hj => h j (List.mem_cons_of_mem _ hj)]
        congr 1
        rw [Array.getD_eq_getD_getElem?, Array.getElem?_map, ge, List.getElem?_eq_getElem hi]
        rfl
    exact this _ fun i hi => List.mem_range.mp (hp.mem_iff.mp hi)
theorem keep_same {h h' : Heap} {a : Addr} {o : Obj} (ho : h.get? a = some o) (hs : o.cls = .type "set") (sb : Heap.SameBut a h h') {k : K} {b : Addr} (hk : knd.is h k b) : knd.is h' k b :=
  knd.keep hk fun c o' hc ht => by
    rw [sb.2 c fun z => ?_]
    · exact hc
    · subst z
      rw [ho] at hc
      injection hc with hc
      subst hc
      rw [hs] at ht
      injection ht with ht
      exact absurd ht (by decide)
section
variable {A : Around} {E : Value → Shared → Prop} {s : Shared} {a : Addr} {L : List (Addr × K)} {es : Array (Int × Value)} {ep : Nat} {t : SetTable}
theorem relay_atG {o : Obj} (ho : s.heap.get? a = some o) (hx : o.ExactSet) (hd : o.data = .set es ep t) (hr : es.toList = rowsG knd L) (hsz : t.place.size = es.size)
    (hdm : t.dummies = #[]) (hm : es.size ≤ t.mask) (hnd : (L.map (·.2)).Nodup) (ht : ∀ p ∈ L, knd.is s.heap p.2 p.1) (hpl : t.plain = true)
    (hled : w.params.followText "set-order" = true ∨ t.led = true) (hf : L.length < 2048) (h1 : 1 ≤ L.length) {Q : Unit → Shared → Prop}
    (q : ∀ h' L' es' ep' t', Heap.SameBut a s.heap h' → SetG knd h' a L' es' ep' t' → L'.Perm L → Q () { s with heap := h' }) :
    wpAny (model P w) A (setRelay a (SetTable.grown L.length)) Q E s := by
  have eg : SetTable.grown L.length = L.length * 4 := by unfold SetTable.grown; rw [if_neg (by omega)]
  obtain ⟨M1, M2, M3⟩ := above (n := SetTable.grown L.length) (by rw [eg]; omega)
  have len : es.size = L.length := by rw [← Array.length_toList, hr]; exact List.length_map _
  rw [setRelay_eq]
  refine wpAny_bind (wpAny_setState_of ho hd (by unfold SetTable.fits SetTable.fill; rw [hsz, hdm]; simp; exact hm) ?_)
  dsimp only
  rw [if_neg (by rw [sizeLine_eq]; omega)]
  obtain ⟨t', order, e, pm, T, m1, m2, m3, m4⟩ := relaid_okG t (hs := es.map (·.1)) (wanted := SetTable.grown L.length) rfl M1 (by rw [Array.size_map, len]; omega)
  rw [Array.size_map, len] at pm
  obtain ⟨L2, r1, r2, r3⟩ := order_rowsG L es order hr pm
  rw [e]
  dsimp only
  have sz : (order.filterMap fun x => es[x]?).size = es.size := by
    rw [← Array.length_toList, r1, len]
    unfold rowsG
    rw [List.length_map, r2.length_eq]
  rw [if_neg (by rw [sz]; simp)]
  refine wpAny_bind (wpAny_pure ?_)
  dsimp only
  refine wpAny_storeSet_of ho hd ?_ (by rw [sz, len, sizeLine_eq]; omega)
  have sb := Heap.SameBut.update s.heap a (Obj.putSet (order.filterMap fun x => es[x]?) t')
  have hp : Obj.putSet (order.filterMap fun x => es[x]?) t' o = { o with data := .set (order.filterMap fun x => es[x]?) (ep + 1) t' } := by
    obtain ⟨c, d, dt, sl⟩ := o
    have hd : dt = .set es ep t := hd
    subst hd
    rfl
  have hg := Heap.get?_update_self (Obj.putSet (order.filterMap fun x => es[x]?) t') ho (by
    rw [hp]
    rfl)
  refine q _ L2 _ (ep + 1) t' sb ⟨⟨_, hg, ?_, ?_⟩, r1, by rw [r3]; exact T, (r2.map (·.2)).nodup_iff.mpr hnd, fun p hp2 => keep_same ho hx.1 sb (ht p (r2.mem_iff.mp hp2)), m3.trans hpl, ?_, ?_, by rw [r2.length_eq]; exact hf⟩ r2
  · rw [hp]; exact hx
  · rw [hp]
  · rw [m2]; exact hled
  · rw [m1, r2.length_eq]; rw [eg] at M2 M3 ⊢; omega
end
end
end SG

/-! An element put into a set. -/
namespace SG
open PySem PySem.Spec L2
section
variable {P : Program} {w : World} {K : Type} [DecidableEq K] {knd : SKind P w K}
variable {A : Around} {E : Value → Shared → Prop} {s : Shared} {a : Addr} {L : List (Addr × K)} {es : Array (Int × Value)} {ep : Nat} {t : SetTable}
theorem put_obj (o : Obj) (hd : o.data = .set es ep t) (es' : Array (Int × Value)) (t' : SetTable) : Obj.putSet es' t' o = { o with data := .set es' (ep + 1) t' } := by
  obtain ⟨c, d, dt, sl⟩ := o
  have hd : dt = .set es ep t := hd
  subst hd
  rfl
theorem add_atG (R : SetG knd s.heap a L es ep t) {x : Addr} {k : K} (hx : knd.is s.heap k x) (hu : A.units + knd.room < cLine) (hl : L.length + 1 < 2048) {Q : Bool → Shared → Prop}
    (q : ∀ b h' L' es' ep' t' tk, Heap.SameBut a s.heap h' → SetG knd h' a L' es' ep' t' → (k ∈ L.map (·.2) → L' = L) → (k ∉ L.map (·.2) → L'.Perm ((x, k) :: L)) →
      Q b { s with heap := h', toks := tk }) :
    wpAny (model P w) A (setAddHashed a (.ref x) (knd.hash k)) Q E s := by
  unfold setAddHashed
  refine wpAny_holding ?_
  rw [show (100000 : Nat) = 99999 + 1 from rfl, setAddHashedIn_succ]
  generalize (99999 : Nat) = F
  refine wpAny_bind (wpAny_state R ?_)
  dsimp only
  rw [if_neg (by simp [byScan, Value.scannable])]
  refine wpAny_bind (seek_at R hx hu (fun mem tk => ?_) (fun N nm n2 n3 tk => ?_))
  · exact wpAny_pure (q false s.heap L es ep t tk ⟨rfl, fun _ _ => rfl⟩ R (fun _ => rfl) fun z => absurd mem z)
  · dsimp only
    refine wpAny_bind (wpAny_state (R.toks tk) ?_)
    dsimp only
    obtain ⟨p1, p2, T, p4, p5, p6, p7⟩ := R.tab.put n2 n3
    have pdm := put_dm R.tab.dm (way t.mask (knd.hash k) N)
    have szT := T.sz
    obtain ⟨t1, p0⟩ : ∃ z, t.put (way t.mask (knd.hash k) N) = z := ⟨_, rfl⟩
    generalize ht1 : t.put (way t.mask (knd.hash k) N) = tp at *
    obtain ⟨t1, p⟩ := tp
    dsimp only at p1 T p4 p5 p6 p7 pdm szT ⊢
    rw [← p1] at p2 T szT
    clear p0
    have lenH : (L.map fun p => knd.hash p.2).length = L.length := List.length_map _
    rw [lenH] at p2 p7
    rw [if_pos (p6.trans R.plain)]
    refine wpAny_bind (knd.byVal hx ?_)
    rw [if_pos rfl]
    obtain ⟨o, ho, hxo, hd⟩ := R.ob
    have esz := R.size
    have insL : (SetTable.insertAt es p (knd.hash k, Value.ref x)).toList = rowsG knd (L.take p ++ (x, k) :: L.drop p) := by
      rw [SetTable.toList_insertAt, R.rows]
      unfold rowsG
      rw [List.map_append, List.map_cons, List.map_take, List.map_drop]
    have lenL : (L.take p ++ (x, k) :: L.drop p).length = L.length + 1 := len_ins _ p2 _
    have pmL := put_perm L p (x, k)
    have szI : (SetTable.insertAt es p (knd.hash k, Value.ref x)).size = L.length + 1 := by
      rw [← Array.length_toList, insL]
      unfold rowsG
      rw [List.length_map, lenL]
    have hsL : (L.take p ++ (x, k) :: L.drop p).map (fun p => knd.hash p.2) = (L.map fun p => knd.hash p.2).take p ++ knd.hash k :: (L.map fun p => knd.hash p.2).drop p := by
      rw [List.map_append, List.map_cons, List.map_take, List.map_drop]
    refine wpAny_bind (wpAny_storeSet_of ho hd ?_ (by rw [szI, sizeLine_eq]; omega))
    have sb := Heap.SameBut.update s.heap a (Obj.putSet (SetTable.insertAt es p (knd.hash k, Value.ref x)) t1)
    have po := put_obj o hd (SetTable.insertAt es p (knd.hash k, Value.ref x)) t1
    have hg := Heap.get?_update_self (Obj.putSet (SetTable.insertAt es p (knd.hash k, Value.ref x)) t1) ho (by rw [po]; rfl)
    rw [po] at hg
    have ndL : ((L.take p ++ (x, k) :: L.drop p).map (·.2)).Nodup := by
      rw [(pmL.map (·.2)).nodup_iff, List.map_cons]
      exact List.nodup_cons.mpr ⟨nm, R.nd⟩
    have tupL : ∀ q ∈ (L.take p ++ (x, k) :: L.drop p), knd.is (s.heap.update a (Obj.putSet (SetTable.insertAt es p (knd.hash k, Value.ref x)) t1)) q.2 q.1 := fun q hq => by
      refine keep_same ho hxo.1 sb ?_
      rcases List.mem_cons.mp (pmL.mem_iff.mp hq) with z | z
      · rw [z]; exact hx
      · exact R.tup q z
    have led1 : w.params.followText "set-order" = true ∨ t1.led = true := by rw [p5]; exact R.led
    have plain1 : t1.plain = true := p6.trans R.plain
    have szp : t1.place.size = L.length + 1 := by
      have : t1.fill = t1.place.size + t1.dummies.size := rfl
      rw [pdm] at this
      rw [p7] at this
      exact this.symm
    have few : (L.take p ++ (x, k) :: L.drop p).length < 2048 := by rw [lenL]; exact hl
    by_cases full : t1.tooFull = true
    · rw [if_pos (by rw [full]; rfl)]
      rw [esz, ← lenL]
      refine wpAny_bind (relay_atG (s := { s with heap := s.heap.update a (Obj.putSet (SetTable.insertAt es p (knd.hash k, Value.ref x)) t1), toks := tk }) hg ?_ rfl insL (by rw [szp, szI]) pdm ?_ ndL tupL plain1 led1 few (by rw [lenL]; omega) fun h' L' es' ep' t' sb2 R2 pm2 => ?_)
      · exact hxo
      · have := R.room
        rw [szI, p4]; omega
      · refine wpAny_pure (q true h' L' es' ep' t' tk ⟨sb2.1.trans sb.1, fun b hb => (sb2.2 b hb).trans (sb.2 b hb)⟩ R2 (fun z => absurd z nm) fun _ => pm2.trans pmL)
    · rw [if_neg (by rw [Bool.not_eq_true] at full; rw [full]; decide)]
      refine wpAny_pure (q true _ _ _ (ep + 1) t1 tk sb ⟨⟨_, hg, hxo, rfl⟩, insL, by rw [hsL]; exact T, ndL, tupL, plain1, led1, ?_, few⟩ (fun z => absurd z nm) fun _ => pmL)
      have : ¬ (t1.fill * 5 ≥ t1.mask * 3) := fun z => full (decide_eq_true z)
      rw [p7] at this
      rw [lenL]
      omega
theorem SetG.keep {h h' : Heap} (R : SetG knd h a L es ep t) (ha : ∀ o, h.get? a = some o → h'.get? a = some o) (ht : ∀ p ∈ L, knd.is h' p.2 p.1) : SetG knd h' a L es ep t := by
  obtain ⟨⟨o, ho, hx⟩, h2, h3, h4, h5, h6, h7, h8, h9⟩ := R
  exact ⟨⟨o, ha o ho, hx⟩, h2, h3, h4, ht, h6, h7, h8, h9⟩
/-- what a walk over `ks` has put in after `i` of them -/
structure GotG (ks : List (Addr × K)) (i : Nat) (L : List (Addr × K)) : Prop where
  sub : ∀ p ∈ L, p ∈ ks.take i
  all : ∀ p ∈ ks.take i, p.2 ∈ L.map (·.2)
  len : L.length ≤ i
theorem setG_fresh {h : Heap} (hh : h.get? a = some { cls := .type "set", data := .set #[] 0 (SetTable.fresh 0 0 !w.params.followText "set-order") }) :
    SetG knd h a [] #[] 0 (SetTable.fresh 0 0 !w.params.followText "set-order") :=
  ⟨⟨_, hh, ⟨rfl, rfl, rfl⟩, rfl⟩, rfl, ⟨.nil, rfl, rfl, ⟨3, by decide, by decide, rfl⟩, fun _ z => (nomatch z), fun _ _ _ z _ => (nomatch z)⟩, .nil, fun _ z => (nomatch z), rfl, by
    cases q : w.params.followText "set-order"
    · exact .inr rfl
    · exact .inl rfl, (by decide : 0 * 5 < 7 * 3), (by decide : 0 < 2048)⟩
theorem update_loop {I : Addr} {fp wr : List Addr} {G : Array GenState → Array GenState → Prop} {n : Nat} {Pv : Nat → Value → Prop} {St : Nat → Shared → Prop} {R : Result → Shared → Prop}
    (W : WalksS P w A.in1 I fp wr G n Pv St) (S : Addr) (hS : S ∉ fp) (ks : List (Addr × K)) (hn : n = ks.length) (hf : ks.length < 2048)
    (hv : ∀ i v, Pv i v → ∃ p, ks[i]? = some p ∧ v = .ref p.1) (h0 : Heap) (hk : ∀ p ∈ ks, knd.is h0 p.2 p.1) (hS0 : h0.get? S = none) (hw : ∀ b ∈ wr, h0.get? b = none)
    (hu : A.in1.units + knd.room < cLine) :
    ∀ (k i : Nat) (s : Shared), n - i = k → i ≤ n → St i s → (∀ b o, h0.get? b = some o → s.heap.get? b = some o) →
      (∃ L es ep t, SetG knd s.heap S L es ep t ∧ GotG ks i L) →
      (∀ s' L es ep t, Moved (S :: wr) G s s' → SetG knd s'.heap S L es ep t → GotG ks n L → (∀ b o, h0.get? b = some o → s'.heap.get? b = some o) → R (.ok (.ret .none)) s') →
      codeAny (model P w) A (.builtin "set.update.loop" { pos := [.ref S, .ref I] }) R s := by
  have back : ∀ {s' : Shared} {i : Nat} {L : List (Addr × K)}, GotG ks i L → (∀ b o, h0.get? b = some o → s'.heap.get? b = some o) → ∀ p ∈ L, knd.is s'.heap p.2 p.1 :=
    fun GT hk' p hp => knd.keep (hk p (List.mem_of_mem_take (GT.sub p hp))) fun c o e _ => hk' c o e
  have nS : S ∉ wr := fun z => hS (W.sub S z)
  intro k
  induction k with
  | zero =>
    intro i s e hi st k0 ⟨L, es, ep, t, RS, GT⟩ r
    have : i = n := by omega
    subst this
    refine codeAny_builtin PyProof.Rows.F.entry_set_update_loop ?_
    unfold Builtin.«set.update.loop»
    refine wpAny_bind (W.done s _ _ st fun s' mv => ?_)
    dsimp only
    have k1 : ∀ b o, h0.get? b = some o → s'.heap.get? b = some o := fun b o e => mv.heap b o (fun z => by rw [hw b z] at e; cases e) (k0 b o e)
    exact wpAny_pure (r s' L es ep t ⟨fun b o hb => mv.heap b o fun z => hb (List.mem_cons_of_mem _ z), mv.gens, mv.drawn, mv.os, mv.toks⟩
      (RS.keep (fun o ho => mv.heap S o nS ho) (back GT k1)) GT k1)
  | succ k ih =>
    intro i s e hi st k0 ⟨L, es, ep, t, RS, GT⟩ r
    refine codeAny_builtin PyProof.Rows.F.entry_set_update_loop ?_
    unfold Builtin.«set.update.loop»
    refine wpAny_bind (W.item i s _ _ (by omega) st fun v s1 pv st1 mv => ?_)
    dsimp only
    have k1 : ∀ b o, h0.get? b = some o → s1.heap.get? b = some o := fun b o e => mv.heap b o (fun z => by rw [hw b z] at e; cases e) (k0 b o e)
    have R1 := RS.keep (fun o ho => mv.heap S o nS ho) (back GT k1)
    obtain ⟨p, hp, ev⟩ := hv i v pv
    subst ev
    have hpk : p ∈ ks := List.mem_of_getElem? hp
    have hx : knd.is s1.heap p.2 p.1 := knd.keep (hk p hpk) fun c o e _ => k1 c o e
    have lL := GT.len
    have add : wpAny (model P w) (A.under (.builtin "set.update.loop" { pos := [.ref S, .ref I] })) (holding [.ref p.1] (setAdd S (.ref p.1)))
        (fun _ s2 => ∃ h' L' es' ep' t' tk, s2 = { s1 with heap := h', toks := tk } ∧ Heap.SameBut S s1.heap h' ∧ SetG knd h' S L' es' ep' t' ∧ (p.2 ∈ L.map (·.2) → L' = L) ∧ (p.2 ∉ L.map (·.2) → L'.Perm ((p.1, p.2) :: L)))
        (fun _ _ => False) s1 := by
      refine wpAny_holding ?_
      unfold setAdd
      refine wpAny_holding (wpAny_bind (knd.pyHash hu hx fun tk => ?_))
      exact add_atG (s := { s1 with toks := tk }) R1 hx hu (by omega) fun b h' L' es' ep' t' tk sb R2 c1 c2 => ⟨h', L', es', ep', t', tk, rfl, sb, R2, c1, c2⟩
    refine wpAny_bind (wpAny_mono (wpAny_toks add) (fun b s2 hq => ?_) (fun _ _ z => z.2.elim))
    obtain ⟨htk, h', L', es', ep', t', tk, e2, sb, R2, c1, c2⟩ := hq
    subst e2
    have kp : ∀ b o, h0.get? b = some o → h'.get? b = some o := fun b o e => by
      rw [sb.2 b fun z => by rw [z, hS0] at e; cases e]
      exact k1 b o e
    have GT2 : GotG ks (i + 1) L' := by
      have ts : ks.take (i + 1) = ks.take i ++ [p] := by rw [List.take_succ, hp]; rfl
      by_cases q : p.2 ∈ L.map (·.2)
      · have c1 := c1 q
        subst c1
        exact ⟨fun y hy => by rw [ts]; exact List.mem_append_left _ (GT.sub y hy), fun y hy => by
          rw [ts] at hy
          rcases List.mem_append.mp hy with z | z
          · exact GT.all y z
          · rw [List.mem_singleton.mp z]; exact q, by omega⟩
      · have c2 := c2 q
        refine ⟨fun y hy => ?_, fun y hy => ?_, by rw [c2.length_eq, List.length_cons]; omega⟩
        · rw [ts]
          rcases List.mem_cons.mp (c2.mem_iff.mp hy) with z | z
          · rw [z]; exact List.mem_append_right _ (List.mem_singleton.mpr rfl)
          · exact List.mem_append_left _ (GT.sub y z)
        · rw [(c2.map (·.2)).mem_iff, List.map_cons]
          rw [ts] at hy
          rcases List.mem_append.mp hy with z | z
          · exact List.mem_cons_of_mem _ (GT.all y z)
          · rw [List.mem_singleton.mp z]; exact List.mem_cons_self
    refine wpAny_pure ⟨plainId_quiet PyProof.Rows.F.plain_set_update_loop _, ih (i + 1) _ (by omega) (by omega) ?_ kp ⟨L', es', ep', t', R2, GT2⟩ fun s' L2 es2 ep2 t2 mv2 R3 GT3 k3 => r s' L2 es2 ep2 t2 ?_ R3 GT3 k3⟩
    · exact W.frame (i + 1) s1 h' tk st1 htk fun b hb o hbo => by
        rw [sb.2 b fun z => by rw [z] at hb; exact hS hb]
        exact hbo
    · refine ⟨fun b o hb hbo => ?_, W.gtrans _ _ _ mv.gens mv2.gens, mv2.drawn.trans mv.drawn, mv2.os.trans mv.os, Nat.le_trans mv.toks (Nat.le_trans htk mv2.toks)⟩
      refine mv2.heap b o hb ?_
      show h'.get? b = some o
      rw [sb.2 b fun z => hb (by rw [z]; exact List.mem_cons_self)]
      exact mv.heap b o (fun z => hb (List.mem_cons_of_mem _ z)) hbo
end
end SG

/-! set(list) and set(tuple). -/
namespace SG
open PySem PySem.Spec L2
section
variable {P : Program} {w : World} {K : Type} [DecidableEq K] {knd : SKind P w K}
variable {A : Around} {E : Value → Shared → Prop} {s : Shared}
theorem sub_ls : isSubtype (.type "list") (.type "set") = pure false := rfl
theorem sub_lf : isSubtype (.type "list") (.type "frozenset") = pure false := rfl
theorem sub_ts : isSubtype (.type "tuple") (.type "set") = pure false := rfl
theorem sub_tf : isSubtype (.type "tuple") (.type "frozenset") = pure false := rfl
theorem name_set : typeName (.type "set") = pure "set" := rfl
theorem call_setL {l : Addr} {items : Array Value} (ks : List (Addr × K)) {Q : Value → Shared → Prop} (hh : A.handled = none) (hl : s.heap.IsList l items)
    (hi : items.toList = ks.map fun p => .ref p.1) (hk : ∀ p ∈ ks, knd.is s.heap p.2 p.1) (hf : ks.length < 2048) (hu : A.units + 6 + knd.room < cLine)
    (q : ∀ h' tk L es ep t, SetG knd h' s.heap.objs.size L es ep t → GotG ks ks.length L → (∀ b o, s.heap.get? b = some o → h'.get? b = some o) →
      s.toks ≤ tk → Q (.ref s.heap.objs.size) { s with heap := h', toks := tk }) :
    wpAny (model P w) A (call (.type "set") [.ref l]) Q E s := by
  obtain ⟨ob, hob⟩ : ∃ ob : Obj, ob = { cls := .type "set", data := .set #[] 0 (SetTable.fresh 0 0 !w.params.followText "set-order") } := ⟨_, rfl⟩
  refine wpAny_call (codeAny_of_tree ?_)
  refine wpAny_pure ⟨Code.quiet_builtin _ (by simp), ?_⟩
  refine codeAny_builtin (b := Builtin.«type.__call__») PySem.F.entry_type_call ?_
  unfold Builtin.«type.__call__»
  dsimp only
  rw [if_neg (by rw [PySem.F.called_set.notType]; decide), if_neg (by rw [PySem.F.called_set.canCreate]; decide), PySem.F.typeCall_set_1]
  refine wpAny_bind (wpAny_pure ?_)
  obtain ⟨mc, mt, em⟩ := PySem.F.called_set.mro
  rw [em]
  refine wpAny_bind (wpAny_pure ?_)
  rw [if_neg (by simp), PySem.F.called_set.made]
  refine wpAny_bind (wpAny_pure ?_)
  dsimp only
  refine wpAny_bind (wpAny_pure ?_)
  have hg : (s.heap.push ob).get? s.heap.objs.size = some ob := Heap.get?_push_size _ (by rw [hob]; rfl)
  have ty : ({ s with heap := s.heap.push ob } : Shared).TypeIs (.ref s.heap.objs.size) "set" := by
    exact ⟨ob, hg, by rw [hob]⟩
  refine wpAny_bind (wpAny_holding (wpAny_call (code_set_led1 (Q₁ := _) _ ?_)))
  rw [← hob]
  refine wpAny_bind (wpAny_isInstance ty PySem.F.called_set.sub ?_)
  rw [if_neg (by decide)]
  refine wpAny_bind (wpAny_holding (wpAny_callSpecial?_slot ty PySem.F.called_set.init (wpAny_call (codeAny_call_builtin_at (Code.quiet_builtin _ (by simp)) PySem.F.entry_set_init (check_set_init_1 ty ?_)))))
  unfold Builtin.«set.__init__»
  refine wpAny_bind (m := noKeywords _ _) (wpAny_pure ?_)
  dsimp only
  refine wpAny_bind (m := typeNameOfCut _ _) ?_
  unfold typeNameOfCut shownTypeOf
  refine wpAny_bind (wpAny_bind (wpAny_typeOf ty ?_))
  rw [if_neg (by decide)]
  refine wpAny_pure ?_
  show wpAny _ _ (typeName (.type "set")) _ _ _
  rw [name_set]
  refine wpAny_pure (wpAny_bind (m := checkCount _ _ _ _) (wpAny_pure ?_))
  refine wpAny_bind (m := Builtin.Frozenset.addrOf _) (wpAny_pure ?_)
  have R0 : SetG knd (s.heap.push ob) s.heap.objs.size [] #[] 0 (SetTable.fresh 0 0 !w.params.followText "set-order") := setG_fresh (by rw [hg, hob])
  refine wpAny_bind (m := setUsed _) (wpAny_bind (wpAny_state (s := { s with heap := s.heap.push ob }) R0 (wpAny_pure ?_)))
  rw [if_neg (by intro z; cases z)]
  have lty : ({ s with heap := s.heap.push ob } : Shared).TypeIs (.ref l) "list" := by
    obtain ⟨o, h1, h2, _⟩ := hl
    exact ⟨o, Heap.get?_push_of_some _ h1, h2⟩
  refine wpAny_bind (m := Builtin.Frozenset.updateFrom _ _ _) ?_
  unfold Builtin.Frozenset.updateFrom Builtin.Frozenset.isAnySet
  refine wpAny_bind (m := (PySem.isInstance _ _ <||> PySem.isInstance _ _)) (wpAny_bind (wpAny_isInstance lty sub_ls ?_))
  show wpAny _ _ (PySem.isInstance (.ref l) (.type "frozenset")) _ _ _
  refine wpAny_isInstance lty sub_lf ?_
  rw [if_neg (by decide)]
  refine wpAny_bind (wpAny_typeOf lty ?_)
  rw [if_neg (by decide)]
  have hl2 : (s.heap.push ob).IsList l items := by
    obtain ⟨o, h1, h2⟩ := hl
    exact ⟨o, Heap.get?_push_of_some _ h1, h2⟩
  refine wpAny_bind (wpAny_pyIter_list hl2 ?_)
  refine wpAny_bind (wpAny_runValue ?_)
  have none_of : ∀ b, s.heap.objs.size ≤ b → s.heap.get? b = none := fun b hb => by
    cases q : s.heap.get? b with
    | none => rfl
    | some o => exact absurd (Heap.lt_size q) (Nat.not_lt.mpr hb)
  have ll : l < s.heap.objs.size := by
    obtain ⟨o, h1, _⟩ := hl
    exact Heap.lt_size h1
  have sz1 : (s.heap.push ob).objs.size = s.heap.objs.size + 1 := by
    show (s.heap.objs.push ob).size = _
    exact Array.size_push _
  obtain ⟨I, hI⟩ : ∃ I, I = (s.heap.push ob).objs.size := ⟨_, rfl⟩
  obtain ⟨io, hio⟩ : ∃ io : Obj, io = { cls := .type "list_iterator", data := .fields #[.ref l, .int 0 0] } := ⟨_, rfl⟩
  have ll : @LT.lt Nat _ l s.heap.objs.size := ll
  have eI : @Eq Nat I (s.heap.objs.size + 1) := hI.trans sz1
  have W := (Walks.list (prog := P) (w := w) (A := (((A.under (.builtin "type.__call__" { pos := [.type "set", .ref l] })).under (.builtin "set.__init__" { pos := [.ref s.heap.objs.size, .ref l] })).in1)) hh I l (fun z => by have z : @Eq Nat l I := z; omega) items).toS
  have en : items.size = ks.length := by rw [← Array.length_toList, hi, List.length_map]
  have grow : ∀ b o, s.heap.get? b = some o → ((s.heap.push ob).push io).get? b = some o := fun b o e => Heap.get?_push_of_some _ (Heap.get?_push_of_some _ e)
  have gI : ((s.heap.push ob).push io).get? I = some io := by rw [hI]; exact Heap.get?_push_size _ (by rw [hio]; rfl)
  rw [← hio]
  rw [show ({ s with heap := s.heap.push ob } : Shared).heap.objs.size = I from hI.symm]
  refine update_loop W s.heap.objs.size ?_ ks en hf (fun i v hv => ?_) s.heap hk (none_of _ (Nat.le_refl _)) (fun b hb => ?_) ?_ items.size 0 _ rfl (Nat.zero_le _) ?_ grow
    ⟨[], #[], 0, _, R0.keep (fun o e => Heap.get?_push_of_some _ e) (fun _ z => (nomatch z)), ⟨fun _ z => (nomatch z), fun _ z => (nomatch z), Nat.le_refl _⟩⟩ fun s' L es ep t mv RS GT k0 => ?_
  · intro z
    rcases List.mem_cons.mp z with z | z
    · have z : @Eq Nat s.heap.objs.size I := z
      omega
    · have z : @Eq Nat s.heap.objs.size l := List.mem_singleton.mp z
      omega
  · rw [← Array.getElem?_toList, hi, List.getElem?_map] at hv
    cases q2 : ks[i]? with
    | none => rw [q2] at hv; cases hv
    | some p => rw [q2] at hv; injection hv with hv; exact ⟨p, rfl, hv.symm⟩
  · rw [List.mem_singleton.mp hb]
    exact none_of _ (show @LE.le Nat _ s.heap.objs.size I by omega)
  · show A.units + (Code.builtin "type.__call__" { pos := [.type "set", .ref l] }).cUnits + (Code.builtin "set.__init__" { pos := [.ref s.heap.objs.size, .ref l] }).cUnits + 1 + knd.room < cLine
    rw [units_type_call_type]
    have : (Code.builtin "set.__init__" { pos := [.ref s.heap.objs.size, .ref l] }).cUnits = 1 := rfl
    omega
  · refine ⟨⟨io, gI, by rw [hio], by rw [hio]; rfl⟩, ?_⟩
    obtain ⟨o, h1, h2⟩ := hl
    exact ⟨o, grow _ _ h1, h2⟩
  · dsimp only
    rw [en] at GT
    have es' : s' = { s with heap := s'.heap, toks := s'.toks } := by
      have g1 := mv.gens
      have g2 := mv.drawn
      have g3 := mv.os
      cases s'
      cases g1
      cases g2
      cases g3
      rfl
    refine wpAny_pure (wpAny_pure ?_)
    dsimp only
    rw [if_neg (by decide)]
    refine wpAny_pure ?_
    dsimp only
    rw [es']
    exact q s'.heap s'.toks L es ep t RS GT k0 mv.toks
theorem call_setT {l : Addr} {items : Array Value} (ks : List (Addr × K)) {Q : Value → Shared → Prop} (hh : A.handled = none) (hl : s.heap.IsTuple l items)
    (hi : items.toList = ks.map fun p => .ref p.1) (hk : ∀ p ∈ ks, knd.is s.heap p.2 p.1) (hf : ks.length < 2048) (hu : A.units + 6 + knd.room < cLine)
    (q : ∀ h' tk L es ep t, SetG knd h' s.heap.objs.size L es ep t → GotG ks ks.length L → (∀ b o, s.heap.get? b = some o → h'.get? b = some o) →
      s.toks ≤ tk → Q (.ref s.heap.objs.size) { s with heap := h', toks := tk }) :
    wpAny (model P w) A (call (.type "set") [.ref l]) Q E s := by
  obtain ⟨ob, hob⟩ : ∃ ob : Obj, ob = { cls := .type "set", data := .set #[] 0 (SetTable.fresh 0 0 !w.params.followText "set-order") } := ⟨_, rfl⟩
  refine wpAny_call (codeAny_of_tree ?_)
  refine wpAny_pure ⟨Code.quiet_builtin _ (by simp), ?_⟩
  refine codeAny_builtin (b := Builtin.«type.__call__») PySem.F.entry_type_call ?_
  unfold Builtin.«type.__call__»
  dsimp only
  rw [if_neg (by rw [PySem.F.called_set.notType]; decide), if_neg (by rw [PySem.F.called_set.canCreate]; decide), PySem.F.typeCall_set_1]
  refine wpAny_bind (wpAny_pure ?_)
  obtain ⟨mc, mt, em⟩ := PySem.F.called_set.mro
  rw [em]
  refine wpAny_bind (wpAny_pure ?_)
  rw [if_neg (by simp), PySem.F.called_set.made]
  refine wpAny_bind (wpAny_pure ?_)
  dsimp only
  refine wpAny_bind (wpAny_pure ?_)
  have hg : (s.heap.push ob).get? s.heap.objs.size = some ob := Heap.get?_push_size _ (by rw [hob]; rfl)
  have ty : ({ s with heap := s.heap.push ob } : Shared).TypeIs (.ref s.heap.objs.size) "set" := by
    exact ⟨ob, hg, by rw [hob]⟩
  refine wpAny_bind (wpAny_holding (wpAny_call (code_set_led1 (Q₁ := _) _ ?_)))
  rw [← hob]
  refine wpAny_bind (wpAny_isInstance ty PySem.F.called_set.sub ?_)
  rw [if_neg (by decide)]
  refine wpAny_bind (wpAny_holding (wpAny_callSpecial?_slot ty PySem.F.called_set.init (wpAny_call (codeAny_call_builtin_at (Code.quiet_builtin _ (by simp)) PySem.F.entry_set_init (check_set_init_1 ty ?_)))))
  unfold Builtin.«set.__init__»
  refine wpAny_bind (m := noKeywords _ _) (wpAny_pure ?_)
  dsimp only
  refine wpAny_bind (m := typeNameOfCut _ _) ?_
  unfold typeNameOfCut shownTypeOf
  refine wpAny_bind (wpAny_bind (wpAny_typeOf ty ?_))
  rw [if_neg (by decide)]
  refine wpAny_pure ?_
  show wpAny _ _ (typeName (.type "set")) _ _ _
  rw [name_set]
  refine wpAny_pure (wpAny_bind (m := checkCount _ _ _ _) (wpAny_pure ?_))
  refine wpAny_bind (m := Builtin.Frozenset.addrOf _) (wpAny_pure ?_)
  have R0 : SetG knd (s.heap.push ob) s.heap.objs.size [] #[] 0 (SetTable.fresh 0 0 !w.params.followText "set-order") := setG_fresh (by rw [hg, hob])
  refine wpAny_bind (m := setUsed _) (wpAny_bind (wpAny_state (s := { s with heap := s.heap.push ob }) R0 (wpAny_pure ?_)))
  rw [if_neg (by intro z; cases z)]
  have lty : ({ s with heap := s.heap.push ob } : Shared).TypeIs (.ref l) "tuple" := by
    obtain ⟨o, h1, h2, _⟩ := hl
    exact ⟨o, Heap.get?_push_of_some _ h1, h2⟩
  refine wpAny_bind (m := Builtin.Frozenset.updateFrom _ _ _) ?_
  unfold Builtin.Frozenset.updateFrom Builtin.Frozenset.isAnySet
  refine wpAny_bind (m := (PySem.isInstance _ _ <||> PySem.isInstance _ _)) (wpAny_bind (wpAny_isInstance lty sub_ts ?_))
  show wpAny _ _ (PySem.isInstance (.ref l) (.type "frozenset")) _ _ _
  refine wpAny_isInstance lty sub_tf ?_
  rw [if_neg (by decide)]
  refine wpAny_bind (wpAny_typeOf lty ?_)
  rw [if_neg (by decide)]
  have hl2 : (s.heap.push ob).IsTuple l items := by
    obtain ⟨o, h1, h2⟩ := hl
    exact ⟨o, Heap.get?_push_of_some _ h1, h2⟩
  refine wpAny_bind (wpAny_pyIter_tuple hl2 ?_)
  refine wpAny_bind (wpAny_runValue ?_)
  have none_of : ∀ b, s.heap.objs.size ≤ b → s.heap.get? b = none := fun b hb => by
    cases q : s.heap.get? b with
    | none => rfl
    | some o => exact absurd (Heap.lt_size q) (Nat.not_lt.mpr hb)
  have ll : l < s.heap.objs.size := by
    obtain ⟨o, h1, _⟩ := hl
    exact Heap.lt_size h1
  have sz1 : (s.heap.push ob).objs.size = s.heap.objs.size + 1 := by
    show (s.heap.objs.push ob).size = _
    exact Array.size_push _
  obtain ⟨I, hI⟩ : ∃ I, I = (s.heap.push ob).objs.size := ⟨_, rfl⟩
  obtain ⟨io, hio⟩ : ∃ io : Obj, io = { cls := .type "tuple_iterator", data := .fields #[.ref l, .int 0 0] } := ⟨_, rfl⟩
  have ll : @LT.lt Nat _ l s.heap.objs.size := ll
  have eI : @Eq Nat I (s.heap.objs.size + 1) := hI.trans sz1
  have W := (Walks.tuple (prog := P) (w := w) (A := (((A.under (.builtin "type.__call__" { pos := [.type "set", .ref l] })).under (.builtin "set.__init__" { pos := [.ref s.heap.objs.size, .ref l] })).in1)) hh I l (fun z => by have z : @Eq Nat l I := z; omega) items).toS
  have en : items.size = ks.length := by rw [← Array.length_toList, hi, List.length_map]
  have grow : ∀ b o, s.heap.get? b = some o → ((s.heap.push ob).push io).get? b = some o := fun b o e => Heap.get?_push_of_some _ (Heap.get?_push_of_some _ e)
  have gI : ((s.heap.push ob).push io).get? I = some io := by rw [hI]; exact Heap.get?_push_size _ (by rw [hio]; rfl)
  rw [← hio]
  rw [show ({ s with heap := s.heap.push ob } : Shared).heap.objs.size = I from hI.symm]
  refine update_loop W s.heap.objs.size ?_ ks en hf (fun i v hv => ?_) s.heap hk (none_of _ (Nat.le_refl _)) (fun b hb => ?_) ?_ items.size 0 _ rfl (Nat.zero_le _) ?_ grow
    ⟨[], #[], 0, _, R0.keep (fun o e => Heap.get?_push_of_some _ e) (fun _ z => (nomatch z)), ⟨fun _ z => (nomatch z), fun _ z => (nomatch z), Nat.le_refl _⟩⟩ fun s' L es ep t mv RS GT k0 => ?_
  · intro z
    rcases List.mem_cons.mp z with z | z
    · have z : @Eq Nat s.heap.objs.size I := z
      omega
    · have z : @Eq Nat s.heap.objs.size l := List.mem_singleton.mp z
      omega
  · rw [← Array.getElem?_toList, hi, List.getElem?_map] at hv
    cases q2 : ks[i]? with
    | none => rw [q2] at hv; cases hv
    | some p => rw [q2] at hv; injection hv with hv; exact ⟨p, rfl, hv.symm⟩
  · rw [List.mem_singleton.mp hb]
    exact none_of _ (show @LE.le Nat _ s.heap.objs.size I by omega)
  · show A.units + (Code.builtin "type.__call__" { pos := [.type "set", .ref l] }).cUnits + (Code.builtin "set.__init__" { pos := [.ref s.heap.objs.size, .ref l] }).cUnits + 1 + knd.room < cLine
    rw [units_type_call_type]
    have : (Code.builtin "set.__init__" { pos := [.ref s.heap.objs.size, .ref l] }).cUnits = 1 := rfl
    omega
  · refine ⟨⟨io, gI, by rw [hio], by rw [hio]; rfl⟩, ?_⟩
    obtain ⟨o, h1, h2⟩ := hl
    exact ⟨o, grow _ _ h1, h2⟩
  · dsimp only
    rw [en] at GT
    have es' : s' = { s with heap := s'.heap, toks := s'.toks } := by
      have g1 := mv.gens
      have g2 := mv.drawn
      have g3 := mv.os
      cases s'
      cases g1
      cases g2
      cases g3
      rfl
    refine wpAny_pure (wpAny_pure ?_)
    dsimp only
    rw [if_neg (by decide)]
    refine wpAny_pure ?_
    dsimp only
    rw [es']
    exact q s'.heap s'.toks L es ep t RS GT k0 mv.toks
end
end SG

/-! The kind of flat tuples of whole numbers; sets of them as objects of a heap of words. -/
namespace SG
open PySem PySem.Spec L2
section
variable {P : Program} {w : World}
theorem isT_cls {h : Heap} {k : List Int} {a : Addr} (hk : L2.IsT P w h k a) : ∃ o, h.get? a = some o ∧ o.cls = .type "tuple" := by
  obtain ⟨o, its, n, h1, h2, _⟩ := hk
  exact ⟨o, h1, h2⟩
def flatK (P : Program) (w : World) : SKind P w (List Int) where
  is := fun h k a => L2.IsT P w h k a
  hash := thash P w
  room := 0
  keep := fun {h h' k a} hk f => by
    obtain ⟨o, its, n, h1, h2, h3⟩ := hk
    exact ⟨o, its, n, f a o h1 h2, h2, h3⟩
  pyHash := fun {A E s k a Q} hu hk q => wpAny_pyHash_tuple (by omega) hk (q _)
  eqB := fun {A E s x y a b Q} hu hx hy q => wpAny_eqBool_tuple (by omega) hx hy (q s.toks)
  byVal := fun {A E s k a Q} hk q => hashBy_tup hk q
  seen := fun {A E s k b Q} hk ys hy q => seen_tup hk hy q
end
section
variable {P : Program} {w : World} {K : Type} [DecidableEq K] (knd : SKind P w K)
/-- what a heap says of a set alone, its elements aside -/
def S0G (h : Heap) (a : Addr) (L : List (Addr × K)) : Prop := ∃ es ep t,
  (∃ o, h.get? a = some o ∧ o.ExactSet ∧ o.data = .set es ep t) ∧ es.toList = rowsG knd L ∧ TabG t (L.map fun p => knd.hash p.2) ∧ (L.map (·.2)).Nodup ∧ t.plain = true ∧
  (w.params.followText "set-order" = true ∨ t.led = true) ∧ L.length * 5 < t.mask * 3 ∧ L.length < 2048
variable {knd}
theorem S0G.full {h : Heap} {a : Addr} {L : List (Addr × K)} (S : S0G knd h a L) (ht : ∀ p ∈ L, knd.is h p.2 p.1) : ∃ es ep t, SetG knd h a L es ep t := by
  obtain ⟨es, ep, t, h1, h2, h3, h4, h5, h6, h7, h8⟩ := S
  exact ⟨es, ep, t, h1, h2, h3, h4, ht, h5, h6, h7, h8⟩
theorem SetG.alone {h : Heap} {a : Addr} {L : List (Addr × K)} {es : Array (Int × Value)} {ep : Nat} {t : SetTable} (S : SetG knd h a L es ep t) : S0G knd h a L :=
  ⟨es, ep, t, S.ob, S.rows, S.tab, S.nd, S.plain, S.led, S.room, S.few⟩
variable (knd) in
def SetGO (a : Addr) (L : List (Addr × K)) : HO := .ext fun h => S0G knd h a L
theorem setGO_new {H : Hp} {h : Heap} {a : Addr} {L : List (Addr × K)} (S : S0G knd h a L) : ObjOk P w H h a (SetGO knd a L) := by
  unfold SetGO ObjOk
  refine ⟨S, ?_, fun h1 h2 S1 f => ?_⟩
  · obtain ⟨es, ep, t, ⟨o, ho, _⟩, _⟩ := S
    exact ⟨o, ho⟩
  · obtain ⟨es, ep, t, ⟨o, ho, hx⟩, hr⟩ := S1
    exact ⟨es, ep, t, ⟨o, f o ho, hx⟩, hr⟩
end
end SG

/-! set(list) of objects of a kind, as a rule of calls; sorted of such a set; its length. -/
namespace SG
open PySem PySem.Spec PyProof.Rows L2 Cl
section
variable {X : Cx} {K : Type} [DecidableEq K] (knd : SKind X.prog X.w K) (el : Hp → Addr → K → Prop)
def rSetG : List V → Hp → VK → Prop := fun xs H Q => ∃ (l : Addr) (ks : List (Addr × K)), xs = [.ref l] ∧ SqL X.K H l (ks.map fun p => V.ref p.1) ∧
  (∀ p ∈ ks, el H p.1 p.2) ∧ ks.length < 2048 ∧ ∀ a H' L, Cl.Same H H' → H a = none → H' a = some (SetGO knd a L) → (L.map (·.2)).Nodup → (∀ p ∈ L, p ∈ ks) → (∀ p ∈ ks, p.2 ∈ L.map (·.2)) → Q (.ref a) H'
variable {knd el}
theorem cr_setG (hc : X.calm = true) (hu : X.A.units + 64 < cLine) (hr : knd.room ≤ 50)
    (hel : ∀ {pins σ H s b k}, Inv X pins σ H s → el H b k → knd.is s.heap k b) : CallR X (.type "set") (rSetG knd el) := by
  intro pins s σ H xs us Q I r ⟨l, ks, e, hl, hk, hf, q⟩
  subst e
  rw [Vals.ref1 r]
  obtain ⟨its, rv, hil, hz⟩ := I.list hl
  have ei : its = ks.map fun p => Value.ref p.1 := by
    clear hf hk q hil hz hl
    induction ks generalizing its with
    | nil => cases rv; rfl
    | cons p ks ih =>
      rw [List.map_cons] at rv
      cases rv with
      | cons r0 rr =>
        rw [List.map_cons, ih _ rr]
        congr 1
  refine call_setL (knd := knd) (items := its.toArray) ks (I.ok.hd hc) hil.isList (by simpa using ei) (fun p hp => hel I (hk p hp)) hf (by omega) fun h' tk L es ep t RS GT kp ht => ?_
  have hn : H s.heap.objs.size = none := I.hok.fresh (Nat.le_refl _)
  have J : Inv X pins σ (upd H s.heap.objs.size (SetGO knd s.heap.objs.size L)) { s with heap := h', gens := s.gens, drawn := s.drawn, toks := tk } :=
    I.call (ch := []) (Un.laid kp (Nat.le_refl _) hn) (I.hok.laid kp (Nat.le_refl _) (setGO_new RS.alone)) I.bare (fun _ z => nomatch z)
  refine ⟨.ref s.heap.objs.size, _, J, rfl, q _ _ L (Cl.same_new hn) hn upd_same RS.nd (fun p hp => ?_) fun p hp => ?_⟩
  · exact List.mem_of_mem_take (GT.sub p hp)
  · exact GT.all p (by rw [List.take_length]; exact hp)
end
section
variable {P : Program} {w : World} {K : Type} [DecidableEq K] {knd : SKind P w K} {A : Around} {E : Value → Shared → Prop} {s : Shared} {a : Addr} {L : List (Addr × K)}
  {es : Array (Int × Value)} {ep : Nat} {t : SetTable} {Q : Value → Shared → Prop}
def leG (enc : K → PyData) (q r : Addr × K) : Prop := PySem.W.dataLe false (fun q : Addr × K => enc q.2) q r = true
theorem perm_refs : ∀ {us vs : List Value}, vs.Perm us → ∀ L : List (Addr × K), us = L.map (fun q => Value.ref q.1) → ∃ L1 : List (Addr × K), vs = L1.map (fun q => Value.ref q.1) ∧ L1.Perm L := by
  intro us vs hp
  induction hp with
  | nil =>
    intro L eu
    cases L with
    | nil => exact ⟨[], rfl, .nil⟩
    | cons q L => cases eu
  | @cons x l1 l2 hp ih =>
    intro L eu
    cases L with
    | nil => cases eu
    | cons q L =>
      rw [List.map_cons] at eu
      injection eu with e2 e3
      obtain ⟨L1, e4, p4⟩ := ih L e3
      exact ⟨q :: L1, by rw [List.map_cons, e2, e4], p4.cons q⟩
  | swap x y l =>
    intro L eu
    match L, eu with
    | q :: r :: L, eu =>
      rw [List.map_cons, List.map_cons] at eu
      injection eu with e2 e3
      injection e3 with e3 e4
      exact ⟨r :: q :: L, by rw [List.map_cons, List.map_cons, e2, e3, e4], .swap ..⟩
    | [_], eu => cases eu
    | [], eu => cases eu
  | trans h1 h2 ih1 ih2 =>
    intro L eu
    obtain ⟨L2, e2, p2⟩ := ih2 L eu
    obtain ⟨L1, e1, p1⟩ := ih1 L2 e2
    exact ⟨L1, e1, p1.trans p2⟩
theorem sorted_setG (R : SetG knd s.heap a L es ep t) (hh : A.handled = none) (enc : K → PyData) (dd : Nat) (hrd : ∀ {h k b}, knd.is h k b → Reads h (.ref b) (enc k) [])
    (hal : PySem.W.AllAlike (L.map fun p => enc p.2)) (hso : PySem.W.Sortable (L.map fun p => enc p.2)) (hdp : ∀ p ∈ L, (enc p.2).depth ≤ dd) (hu : A.units + 8 + dd < cLine)
    (hQ : ∀ s' p (out : Array Value) (c : Nat) (L' : List (Addr × K)), (∀ b o, s.heap.get? b = some o → s'.heap.get? b = some o) →
      s'.gens = s.gens → s'.os = s.os → s.heap.objs.size ≤ p → s'.heap.get? p = some (seqObj "list" out c) →
      out.toList = L'.map (fun q => Value.ref q.1) → L'.Perm L → L'.Pairwise (leG enc) → Q (.ref p) s') :
    wpAny (model P w) A (call (.builtin "sorted") [.ref a]) Q E s := by
  obtain ⟨o, ho, hex, hd⟩ := R.ob
  have nfew := R.few
  refine Calls.call_function_entry kind_sorted plain_sorted entry_sorted (args_sorted1 _) ?_
  unfold Builtin.«sorted»
  refine wpAny_bind (m := checkCount "sorted" 1 1 _) (wpAny_pure ?_)
  refine wpAny_bind (collect_set (A := A.in1) hh ⟨o, ho, hex.1, hd⟩ R.fits (by unfold scanBound; have := R.size; omega) R.tab.ris R.led fun s1 vs k1 hz g1 o1 pm => ?_)
  have rows : es.toList.map (·.2) = L.map fun q => Value.ref q.1 := by
    rw [R.rows]
    unfold rowsG
    rw [List.map_map]
    rfl
  rw [rows] at pm
  obtain ⟨L1, e1, p1⟩ := perm_refs pm L rfl
  have n1 : vs.length = L.length := by rw [e1, List.length_map, p1.length_eq]
  have small : vs.length ≤ sizeLine := by rw [sizeLine_eq]; omega
  refine wpAny_bind (wpAny_newList ?_ small)
  have oL : (s1.heap.push (seqObj "list" vs.toArray 0)).get? s1.heap.objs.size = some (seqObj "list" vs.toArray 0) := Heap.get?_push_size _ rfl
  have reads : ∀ q ∈ L, Reads (s1.heap.push (seqObj "list" vs.toArray 0)) (.ref q.1) (enc q.2) [] := fun q hq =>
    hrd (knd.keep (R.tup q hq) fun c o' hc _ => Heap.get?_push_of_some _ (k1 _ _ hc))
  have each : ∀ l : List (Addr × K), (∀ q ∈ l, q ∈ L) → PySem.W.EachIs (fun (v : Value) (q : Addr × K) => v = .ref q.1) (l.map fun q => Value.ref q.1) l ∧
      PySem.W.EachIs (fun v q => ∃ as, Reads (s1.heap.push (seqObj "list" vs.toArray 0)) v ((fun q : Addr × K => enc q.2) q) as ∧ s1.heap.objs.size ∉ as) (l.map fun q => Value.ref q.1) l := by
    intro l
    induction l with
    | nil => intro _; exact ⟨.nil, .nil⟩
    | cons q l ih =>
      intro h
      obtain ⟨i1, i2⟩ := ih fun r hr => h r (List.mem_cons_of_mem _ hr)
      exact ⟨.cons rfl i1, .cons ⟨[], reads q (h q List.mem_cons_self), fun z => nomatch z⟩ i2⟩
  obtain ⟨c1, c2⟩ := each L1 fun q hq => p1.mem_iff.mp hq
  rw [← e1] at c1 c2
  have sub : ∀ d ∈ L1.map (fun q : Addr × K => enc q.2), d ∈ L.map fun p => enc p.2 := fun d hd => ((p1.map fun p : Addr × K => enc p.2).mem_iff).mp hd
  have hso1 : PySem.W.Sortable (L1.map fun q : Addr × K => enc q.2) := by
    rcases hso with h | h
    · exact .inl fun d hd => h d (sub d hd)
    · exact .inr fun d hd => h d (sub d hd)
  refine wpAny_bind (wpAny_holding (PySem.W.list_sort_data (s := { s1 with heap := s1.heap.push (seqObj "list" vs.toArray 0) }) (enc := fun q : Addr × K => enc q.2) oL c1 c2 (fun d hd d' hd' => hal d (sub d hd) d' (sub d' hd')) hso1 (by rw [p1.length_eq, sizeLine_eq]; omega)
    (fun b hb => by have := hdp b (p1.mem_iff.mp hb); show A.units + 1 + 1 + (enc b.2).depth < cLine; omega) fun out a1 a2 => ?_))
  obtain ⟨c, hc⟩ := sortedHeap_at (vs := vs) (out := out.toArray) oL
  have eo : out = (L1.mergeSort (PySem.W.dataLe false fun q : Addr × K => enc q.2)).map fun q => Value.ref q.1 := by
    revert a2
    generalize L1.mergeSort (PySem.W.dataLe false fun q : Addr × K => enc q.2) = M
    intro a2
    clear hc a1
    induction a2 with
    | nil => rfl
    | cons h t ih => rw [List.map_cons, ← ih, h]
  have pM : (L1.mergeSort (PySem.W.dataLe false fun q : Addr × K => enc q.2)).Perm L := (List.mergeSort_perm _ _).trans p1
  have tot : PySem.W.TotalLe (PySem.W.dataLe false fun q : Addr × K => enc q.2) := PySem.W.sortLe_total ..
  have pw : (L1.mergeSort (PySem.W.dataLe false fun q : Addr × K => enc q.2)).Pairwise (leG enc) :=
    List.pairwise_mergeSort tot.trans (fun x y => by rw [Bool.or_eq_true]; exact tot.total x y) L1
  refine wpAny_pure ⟨_, rfl, hQ _ s1.heap.objs.size out.toArray c _ (fun b u e => ?_) g1 o1 hz hc eo pM pw⟩
  have e5 := k1 b u e
  have lt5 := Heap.lt_size e5
  show (sortedHeap (s1.heap.push (seqObj "list" vs.toArray 0)) s1.heap.objs.size vs out.toArray).get? b = some u
  rw [sortedHeap_old (Nat.ne_of_lt lt5) (by rw [show (s1.heap.push (seqObj "list" vs.toArray 0)).objs.size = s1.heap.objs.size + 1 from Array.size_push ..]; exact Nat.lt_succ_of_lt lt5)]
  exact Heap.get?_push_of_some _ e5
end
section
variable {X : Cx} {K : Type} [DecidableEq K] (knd : SKind X.prog X.w K) (el : Hp → Addr → K → Prop) (enc : K → PyData) (dd : Nat)
def rSortedG : List V → Hp → VK → Prop := fun vs H Q => ∃ (a : Addr) (L : List (Addr × K)), vs = [V.ref a] ∧ H a = some (SetGO knd a L) ∧ (∀ p ∈ L, el H p.1 p.2) ∧
  PySem.W.AllAlike (L.map fun p => enc p.2) ∧ PySem.W.Sortable (L.map fun p => enc p.2) ∧ (∀ p ∈ L, (enc p.2).depth ≤ dd) ∧
  ∀ L' : List (Addr × K), L'.Perm L → L'.Pairwise (leG enc) → L.length < 2048 → (L.map (·.2)).Nodup → New H (.lst (L'.map fun q => V.ref q.1)) Q
variable {knd el enc dd}
theorem cr_sortedG (hc : X.calm = true) (hu : X.A.units + 64 < cLine) (hdd : dd ≤ 50) (hrd : ∀ {h k b}, knd.is h k b → Reads h (.ref b) (enc k) [])
    (hel : ∀ {pins σ H s b k}, Inv X pins σ H s → el H b k → knd.is s.heap k b) : CallR X (.builtin "sorted") (rSortedG knd el enc dd) := by
  intro pins s σ H vs us Q I r ⟨a, L, e, ha, hk, h1, h2, h3, q⟩
  subst e
  obtain ⟨es, ep, t, R⟩ := S0G.full (I.hok a _ ha).1 fun p hp => hel I (hk p hp)
  rw [Vals.ref1 r]
  refine sorted_setG R (I.ok.hd hc) enc dd hrd h1 h2 h3 (by omega) fun s' p out c L' k g o hp hg hout pm pw => ?_
  have few : L'.length < 2048 := by rw [pm.length_eq]; exact R.few
  have len : (L'.map fun q => V.ref q.1).length ≤ sizeLine := by rw [List.length_map, sizeLine_eq]; omega
  have hn : H p = none := I.hok.fresh hp
  have vr : ∀ M : List (Addr × K), Vals (M.map fun q => V.ref q.1) (M.map fun q => Value.ref q.1) := fun M => by
    induction M with
    | nil => exact .nil
    | cons q M ih => exact .cons rfl ih
  have hv : Vals (L'.map fun q => V.ref q.1) out.toList := by rw [hout]; exact vr L'
  have J : Inv X pins σ (upd H p (.lst (L'.map fun q => V.ref q.1))) { s with heap := s'.heap, gens := s'.gens, drawn := s'.drawn, toks := s'.toks } :=
    I.call (ch := []) (Un.laid k hp hn) (I.hok.laid k hp ⟨len, out.toList, c, hv, hg⟩) (by rw [g]; exact I.bare) (fun _ z => nomatch z)
  have e : s' = { s with heap := s'.heap, gens := s'.gens, drawn := s'.drawn, toks := s'.toks } := by
    cases s'
    cases s
    cases o
    rfl
  rw [e]
  exact ⟨.ref p, _, J, rfl, (q L' pm pw R.few R.nd).go p hn⟩
end
end SG

/-! set(tuple), and the length of a set, as rules of calls. -/
namespace SG
open PySem PySem.Spec PyProof.Rows L2 Cl
section
variable {P : Program} {w : World} {K : Type} [DecidableEq K] {knd : SKind P w K} {A : Around} {E : Value → Shared → Prop} {s : Shared} {a : Addr} {L : List (Addr × K)}
  {es : Array (Int × Value)} {ep : Nat} {t : SetTable} {Q : Value → Shared → Prop}
theorem call_lenG (R : SetG knd s.heap a L es ep t) (q : Q (.int L.length (s.toks + 1)) { s with toks := s.toks + 1 + 1 }) :
    wpAny (model P w) A (call (.builtin "len") [.ref a]) Q E s := by
  obtain ⟨o, ho, hx, hd⟩ := R.ob
  have ty : s.TypeIs (.ref a) "set" := ⟨o, ho, hx.1⟩
  have hf := R.few
  refine call_len_slot (n := (L.length : Int)) ty PySem.F.slot_set_len (fun Q' q' => ?_) (by omega) (by omega) q
  refine wpAny_call (codeAny_call_builtin PySem.F.slot_set_len.plain PySem.entry_set_len (PySem.F.slot_set_len.check _ _ _ _ _ _ _ _ ty (PySem.F.args_set_len_1 _) ?_))
  unfold Builtin.«frozenset.__len__»
  refine wpAny_bind (m := Builtin.Frozenset.slot0 _ _) ?_
  unfold Builtin.Frozenset.slot0
  refine wpAny_bind (m := slotArgs _ _ _) (wpAny_pure (wpAny_pure ?_))
  refine wpAny_bind (m := Builtin.Frozenset.sizeOf _) ?_
  unfold Builtin.Frozenset.sizeOf setEntries
  refine wpAny_bind (wpAny_bind (wpAny_state R (wpAny_pure (wpAny_pure ?_))))
  rw [R.size]
  exact wpAny_bind (m := mkInt _) (wpAny_mkInt (wpAny_pure q'))
end
section
variable {X : Cx} {K : Type} [DecidableEq K] (knd : SKind X.prog X.w K) (el : Hp → Addr → K → Prop)
def rSetTG : List V → Hp → VK → Prop := fun xs H Q => ∃ (l : Addr) (ks : List (Addr × K)), xs = [.ref l] ∧ SqT X.K H l (ks.map fun p => V.ref p.1) ∧
  (∀ p ∈ ks, el H p.1 p.2) ∧ ks.length < 2048 ∧ ∀ a H' L, Cl.Same H H' → H a = none → H' a = some (SetGO knd a L) → (L.map (·.2)).Nodup → (∀ p ∈ L, p ∈ ks) → (∀ p ∈ ks, p.2 ∈ L.map (·.2)) → Q (.ref a) H'
def rLenG : List V → Hp → VK → Prop := fun xs H Q => ∃ (a : Addr) (L : List (Addr × K)), xs = [.ref a] ∧ H a = some (SetGO knd a L) ∧ (∀ p ∈ L, el H p.1 p.2) ∧ Q (.int L.length) H
variable {knd el}
theorem cr_setTG (hc : X.calm = true) (hu : X.A.units + 64 < cLine) (hr : knd.room ≤ 50)
    (hel : ∀ {pins σ H s b k}, Inv X pins σ H s → el H b k → knd.is s.heap k b) : CallR X (.type "set") (rSetTG knd el) := by
  intro pins s σ H xs us Q I r ⟨l, ks, e, hl, hk, hf, q⟩
  subst e
  rw [Vals.ref1 r]
  obtain ⟨its, rv, hil, hz⟩ := I.tuple hl
  have ei : its = ks.map fun p => Value.ref p.1 := by
    clear hf hk q hil hz hl
    induction ks generalizing its with
    | nil => cases rv; rfl
    | cons p ks ih =>
      rw [List.map_cons] at rv
      cases rv with
      | cons r0 rr =>
        rw [List.map_cons, ih _ rr]
        congr 1
  refine call_setT (knd := knd) (items := its.toArray) ks (I.ok.hd hc) hil (by simpa using ei) (fun p hp => hel I (hk p hp)) hf (by omega) fun h' tk L es ep t RS GT kp ht => ?_
  have hn : H s.heap.objs.size = none := I.hok.fresh (Nat.le_refl _)
  have J : Inv X pins σ (upd H s.heap.objs.size (SetGO knd s.heap.objs.size L)) { s with heap := h', gens := s.gens, drawn := s.drawn, toks := tk } :=
    I.call (ch := []) (Un.laid kp (Nat.le_refl _) hn) (I.hok.laid kp (Nat.le_refl _) (setGO_new RS.alone)) I.bare (fun _ z => nomatch z)
  refine ⟨.ref s.heap.objs.size, _, J, rfl, q _ _ L (Cl.same_new hn) hn upd_same RS.nd (fun p hp => ?_) fun p hp => ?_⟩
  · exact List.mem_of_mem_take (GT.sub p hp)
  · exact GT.all p (by rw [List.take_length]; exact hp)
theorem cr_lenG (hel : ∀ {pins σ H s b k}, Inv X pins σ H s → el H b k → knd.is s.heap k b) : CallR X (.builtin "len") (rLenG knd el) := by
  intro pins s σ H xs us Q I r ⟨a, L, e, ha, hk, q⟩
  subst e
  rw [Vals.ref1 r]
  obtain ⟨es, ep, t, R⟩ := S0G.full (I.hok a _ ha).1 fun p hp => hel I (hk p hp)
  exact call_lenG R ⟨.int L.length, H, I.tok _, ⟨_, rfl⟩, q⟩
end
/-! ### flat tuples -/
section
variable {X : Cx}
def elF (K : PySem.W.Frag) (H : Hp) (b : Addr) (k : List Int) : Prop := SqT K H b (k.map V.int)
theorem elF_is {pins : List (Addr × Obj)} {σ : L2.St} {H : Hp} {s : Shared} {b : Addr} {k : List Int} (I : Inv X pins σ H s) (h : elF X.K H b k) : (flatK X.prog X.w).is s.heap k b := I.isT h
def encF (k : List Int) : PyData := .tuple (k.map .int)
theorem reads_ints {h : Heap} : ∀ {k : List Int} {us : List Value}, IntsAre us k → ReadsAll h us (k.map .int) []
  | _, _, .nil => .nil
  | _, _, .cons n t r => .cons (.int _ _) (reads_ints r)
theorem readF {P : Program} {w : World} {h : Heap} {k : List Int} {b : Addr} (hk : (flatK P w).is h k b) : Reads h (.ref b) (encF k) [] := by
  obtain ⟨o, its, n, h1, h2, h3, h4⟩ := hk
  exact .tuple h1 h2 h3 (reads_ints (ints_of_items h4))
theorem depth_ints : ∀ k : List Int, PyData.depthAll (k.map .int) = 0
  | [] => rfl
  | n :: k => by
    show max 0 (PyData.depthAll (k.map .int)) = 0
    rw [depth_ints k]
    rfl
theorem depthF (k : List Int) : (encF k).depth = 1 := by
  show PyData.depthAll (k.map .int) + 1 = 1
  rw [depth_ints]
end
end SG

/-! The kind of tuples of flat tuples of whole numbers. -/
namespace SG
open PySem PySem.Spec PyProof.Rows L2 Cl
section
variable {P : Program} {w : World}
inductive EachT (P : Program) (w : World) (h : Heap) : List (List Int) → List Value → Prop
  | nil : EachT P w h [] []
  | cons {k ks b us} : L2.IsT P w h k b → EachT P w h ks us → EachT P w h (k :: ks) (.ref b :: us)
def IsTT (P : Program) (w : World) (h : Heap) (ks : List (List Int)) (a : Addr) : Prop :=
  ∃ o its n, h.get? a = some o ∧ o.cls = .type "tuple" ∧ o.data = .seq its n ∧ EachT P w h ks its.toList
theorem eachT_keep {h h' : Heap} (f : ∀ c o, h.get? c = some o → o.cls = .type "tuple" → h'.get? c = some o) : ∀ {ks us}, EachT P w h ks us → EachT P w h' ks us
  | _, _, .nil => .nil
  | _, _, .cons a r => .cons ((flatK P w).keep a f) (eachT_keep f r)
theorem eachT_mem {h : Heap} : ∀ {ks us}, EachT P w h ks us → ∀ u ∈ us, ∃ b k, u = .ref b ∧ L2.IsT P w h k b
  | _, _, .cons a r, u, hu => by
    rcases List.mem_cons.mp hu with z | z
    · exact ⟨_, _, z, a⟩
    · exact eachT_mem r u z
def encN (ks : List (List Int)) : PyData := .tuple (ks.map encF)
theorem readsT {h : Heap} : ∀ {ks us}, EachT P w h ks us → ReadsAll h us (ks.map encF) []
  | _, _, .nil => .nil
  | _, _, .cons a r => .cons (readF (P := P) (w := w) a) (readsT r)
theorem readN {h : Heap} {ks : List (List Int)} {a : Addr} (hk : IsTT P w h ks a) : Reads h (.ref a) (encN ks) [] := by
  obtain ⟨o, its, n, h1, h2, h3, h4⟩ := hk
  exact .tuple h1 h2 h3 (readsT h4)
theorem depth_flats : ∀ ks : List (List Int), PyData.depthAll (ks.map encF) ≤ 1
  | [] => Nat.zero_le _
  | k :: ks => by
    show max (encF k).depth (PyData.depthAll (ks.map encF)) ≤ 1
    have := depth_flats ks
    have := depthF k
    omega
theorem depthN (ks : List (List Int)) : (encN ks).depth ≤ 2 := by
  show PyData.depthAll (ks.map encF) + 1 ≤ 2
  have := depth_flats ks
  omega
theorem tyT {s : Shared} {ks : List (List Int)} {a : Addr} (hk : IsTT P w s.heap ks a) : s.TypeIs (.ref a) "tuple" := by
  obtain ⟨o, its, n, h1, h2, _⟩ := hk
  exact ⟨o, h1, h2⟩
def hashN (P : Program) (w : World) (ks : List (List Int)) : Int := reduceHash (Builtin.Tuple.tupleHashOf (ks.map (thash P w)))
theorem hash_loop {A : Around} {E : Value → Shared → Prop} (hu : A.units < cLine) : ∀ (ks : List (List Int)) (us : List Value) (b : Array Int) (s : Shared) (Q : Array Int → Shared → Prop), EachT P w s.heap ks us →
    (∀ tk b', b'.toList = b.toList ++ ks.map (thash P w) → Q b' { s with toks := tk }) →
    wpAny (model P w) A (forIn us b fun x r => do let h ← pyHash x; pure (ForInStep.yield (r.push h))) Q E s
  | _, _, b, s, Q, .nil, q => by
    rw [List.forIn_nil]
    exact wpAny_pure (q s.toks b (by simp))
  | _, _, b, s, Q, .cons (k := k) (ks := ks) (us := us) a r, q => by
    rw [List.forIn_cons]
    refine wpAny_bind (wpAny_bind (wpAny_pyHash_tuple hu a (wpAny_pure ?_)))
    dsimp only
    refine hash_loop hu ks us _ { s with toks := s.toks + (k.length + 1) } Q r fun tk b' e => q tk b' ?_
    rw [e, Array.toList_push, List.append_assoc]
    rfl
theorem pyHashN {A : Around} {E : Value → Shared → Prop} {s : Shared} {ks : List (List Int)} {a : Addr} {Q : Int → Shared → Prop} (hu : A.units + 2 < cLine) (hk : IsTT P w s.heap ks a)
    (q : ∀ tk, Q (hashN P w ks) { s with toks := tk }) : wpAny (model P w) A (pyHash (.ref a)) Q E s := by
  have ty := tyT hk
  obtain ⟨o, its, n, h1, h2, h3, h4⟩ := hk
  show wpAny (model P w) A (pyHashByItsType (.ref a)) Q E s
  refine PySem.W.pyHash_slot ty PySem.F.slot_tuple_hash PySem.F.entry_tuple_hash (PySem.F.args_tuple_hash_1 _) rfl (.inr (by omega)) ?_
  unfold Builtin.«tuple.__hash__»
  refine wpAny_bind (m := slotArgs _ _ _) (wpAny_pure ?_)
  dsimp only
  refine wpAny_bind (m := Builtin.Tuple.tupleItemsOf _) ?_
  unfold Builtin.Tuple.tupleItemsOf
  refine wpAny_bind (wpAny_seqItems h1 h3 ?_)
  dsimp only
  refine wpAny_pure ?_
  rw [← Array.forIn_toList]
  refine wpAny_bind (hash_loop (show A.in1.units < cLine by show A.units + 1 < cLine; omega) ks its.toList #[] s _ h4 fun tk b' e => ?_)
  refine wpAny_bind (m := mkInt _) (wpAny_mkInt (wpAny_pure ⟨_, _, rfl, ?_⟩))
  rw [e]
  exact q _
theorem eqv_ints : ∀ k l : List Int, PyData.eqvAll (k.map .int) (l.map .int) = decide (k = l)
  | [], [] => rfl
  | [], _ :: _ => rfl
  | _ :: _, [] => rfl
  | n :: k, m :: l => by
    show (n == m && PyData.eqvAll (k.map .int) (l.map .int)) = _
    rw [eqv_ints k l]
    by_cases h1 : n = m <;> by_cases h2 : k = l <;> simp [h1, h2]
theorem eqv_flats : ∀ k l : List (List Int), PyData.eqvAll (k.map encF) (l.map encF) = decide (k = l)
  | [], [] => rfl
  | [], _ :: _ => rfl
  | _ :: _, [] => rfl
  | n :: k, m :: l => by
    show (PyData.eqvAll (n.map .int) (m.map .int) && PyData.eqvAll (k.map encF) (l.map encF)) = _
    rw [eqv_flats k l, eqv_ints]
    by_cases h1 : n = m <;> by_cases h2 : k = l <;> simp [h1, h2]
theorem lay_ints : ∀ k : List Int, PyData.canLayAll0 (k.map .int) = true
  | [] => rfl
  | n :: k => lay_ints k
theorem lay_flats : ∀ k : List (List Int), PyData.canLayAll0 (k.map encF) = true
  | [] => rfl
  | n :: k => by
    show (PyData.canLayAll0 (n.map .int) && PyData.canLayAll0 (k.map encF)) = true
    rw [lay_ints, lay_flats k]
    rfl
theorem isTT_inj {h : Heap} {a : Addr} {x y : List (List Int)} (hx : IsTT P w h x a) (hy : IsTT P w h y a) : x = y := by
  obtain ⟨o, its, n, h1, h2, h3, h4⟩ := hx
  obtain ⟨o', its', n', g1, g2, g3, g4⟩ := hy
  rw [h1] at g1
  injection g1 with g1
  subst g1
  rw [h3] at g3
  injection g3 with g3 _
  subst g3
  generalize its.toList = us at h4 g4
  clear h1 h2 h3 g2
  induction h4 generalizing y with
  | nil => cases g4; rfl
  | cons q r ih =>
    cases g4 with
    | cons q' r' =>
      rw [ih r', (tupleKind (intKind P w)).inj q q']
theorem eqBN {A : Around} {E : Value → Shared → Prop} {s : Shared} {x y : List (List Int)} {a b : Addr} {Q : Bool → Shared → Prop} (hu : A.units + 2 < cLine) (hx : IsTT P w s.heap x a) (hy : IsTT P w s.heap y b)
    (q : ∀ tk, Q (decide (x = y)) { s with toks := tk }) : wpAny (model P w) A (eqBool (.ref a) (.ref b)) Q E s := by
  unfold eqBool
  refine wpAny_holding ?_
  by_cases e : a = b
  · subst e
    rw [if_pos (by simp)]
    have := isTT_inj hx hy
    subst this
    refine wpAny_bind (wpAny_rule (wpAny_pure ?_))
    have := q s.toks
    rw [decide_eq_true rfl] at this
    exact this
  · rw [if_neg (by simpa using e)]
    dsimp only
    refine wpAny_bind (SeqAt.compareEq_reads (readN hx) (readN hy) (lay_flats x) (lay_flats y) (by have := depthN x; have := depthN y; omega) ?_)
    have e2 : (encN x).eqv (encN y) = decide (x = y) := eqv_flats x y
    rw [e2]
    exact wpAny_pure (q s.toks)
theorem loop_all {A : Around} {E : Value → Shared → Prop} {s : Shared} {body : Value → Option Bool × Unit → Sem (ForInStep (Option Bool × Unit))} {Q : Option Bool × Unit → Shared → Prop} :
    ∀ (us : List Value), (∀ x ∈ us, ∀ R : ForInStep (Option Bool × Unit) → Shared → Prop, R (.yield (none, ())) s → wpAny (model P w) A (body x (none, ())) R E s) → Q (none, ()) s →
    wpAny (model P w) A (forIn us (none, ()) body) Q E s
  | [], _, q => by
    rw [List.forIn_nil]
    exact wpAny_pure q
  | u :: us, h, q => by
    rw [List.forIn_cons]
    refine wpAny_bind (h u List.mem_cons_self _ ?_)
    exact loop_all us (fun x hx => h x (List.mem_cons_of_mem _ hx)) q
theorem byFlat {A : Around} {E : Value → Shared → Prop} {s : Shared} {k : List Int} {a : Addr} {Q : Bool → Shared → Prop} (f : Nat) (hk : L2.IsT P w s.heap k a) (q : Q true s) : wpAny (model P w) A (hashByValue (f + 1) (.ref a)) Q E s := by
  obtain ⟨o, its, n, h1, h2, h3, h4⟩ := hk
  have ty : s.TypeIs (.ref a) "tuple" := ⟨o, h1, h2⟩
  rw [hashByValue.eq_def]
  dsimp only
  refine wpAny_bind (wpAny_specialOf ty PySem.F.slot_tuple_hash.lookup ?_)
  refine wpAny_bind (wpAny_seqItems h1 h3 ?_)
  dsimp only [Option.getD]
  rw [← Array.forIn_toList]
  have all := items_int h4
  refine wpAny_bind (loop_all its.toList (fun x hx R r => ?_) ?_)
  · obtain ⟨i, tk, rfl⟩ := all x hx
    rw [hashByValue.eq_def]
    exact wpAny_bind (wpAny_pure (by rw [if_neg (by decide)]; exact wpAny_pure r))
  · exact wpAny_pure q
theorem byN {A : Around} {E : Value → Shared → Prop} {s : Shared} {k : List (List Int)} {a : Addr} {Q : Bool → Shared → Prop} (hk : IsTT P w s.heap k a) (q : Q true s) : wpAny (model P w) A (hashByValue 8 (.ref a)) Q E s := by
  have ty := tyT hk
  obtain ⟨o, its, n, h1, h2, h3, h4⟩ := hk
  rw [hashByValue.eq_def]
  dsimp only
  refine wpAny_bind (wpAny_specialOf ty PySem.F.slot_tuple_hash.lookup ?_)
  refine wpAny_bind (wpAny_seqItems h1 h3 ?_)
  dsimp only [Option.getD]
  rw [← Array.forIn_toList]
  refine wpAny_bind (loop_all its.toList (fun x hx R r => ?_) ?_)
  · obtain ⟨b, k', rfl, hb⟩ := eachT_mem h4 x hx
    exact wpAny_bind (byFlat 6 hb (by rw [if_neg (by decide)]; exact wpAny_pure r))
  · exact wpAny_pure q
theorem statFlat {A : Around} {E : Value → Shared → Prop} {s : Shared} {k : List Int} {a : Addr} {Q : Bool → Shared → Prop} (f : Nat) (hk : L2.IsT P w s.heap k a) (q : Q false s) : wpAny (model P w) A (ofAClassStatement (f + 1) (.ref a)) Q E s := by
  obtain ⟨o, its, n, h1, h2, h3, h4⟩ := hk
  have ty : s.TypeIs (.ref a) "tuple" := ⟨o, h1, h2⟩
  rw [ofAClassStatement.eq_def]
  dsimp only
  refine wpAny_bind (wpAny_typeOf ty ?_)
  dsimp only
  rw [if_pos (by decide)]
  refine wpAny_bind (wpAny_pure ?_)
  rw [if_neg (by decide)]
  refine wpAny_bind (wpAny_seqItems h1 h3 ?_)
  dsimp only
  rw [← Array.forIn_toList]
  have all := items_int h4
  refine wpAny_bind (loop_all its.toList (fun x hx R r => ?_) ?_)
  · obtain ⟨i, tk, rfl⟩ := all x hx
    rw [ofAClassStatement.eq_def]
    exact wpAny_bind (wpAny_pure (by rw [if_neg (by decide)]; exact wpAny_pure r))
  · exact wpAny_pure q
theorem statN {A : Around} {E : Value → Shared → Prop} {s : Shared} {k : List (List Int)} {a : Addr} {Q : Bool → Shared → Prop} (hk : IsTT P w s.heap k a) (q : Q false s) : wpAny (model P w) A (ofAClassStatement 8 (.ref a)) Q E s := by
  have ty := tyT hk
  obtain ⟨o, its, n, h1, h2, h3, h4⟩ := hk
  rw [ofAClassStatement.eq_def]
  dsimp only
  refine wpAny_bind (wpAny_typeOf ty ?_)
  dsimp only
  rw [if_pos (by decide)]
  refine wpAny_bind (wpAny_pure ?_)
  rw [if_neg (by decide)]
  refine wpAny_bind (wpAny_seqItems h1 h3 ?_)
  dsimp only
  rw [← Array.forIn_toList]
  refine wpAny_bind (loop_all its.toList (fun x hx R r => ?_) ?_)
  · obtain ⟨b, k', rfl, hb⟩ := eachT_mem h4 x hx
    exact wpAny_bind (statFlat 6 hb (by rw [if_neg (by decide)]; exact wpAny_pure r))
  · exact wpAny_pure q
theorem quietFlat {A : Around} {E : Value → Shared → Prop} {s : Shared} {k : List Int} {a : Addr} {Q : Bool → Shared → Prop} (f : Nat) (hk : L2.IsT P w s.heap k a) (q : Q true s) : wpAny (model P w) A (eqIsQuiet (f + 1) (.ref a)) Q E s := by
  obtain ⟨o, its, n, h1, h2, h3, h4⟩ := hk
  have ty : s.TypeIs (.ref a) "tuple" := ⟨o, h1, h2⟩
  rw [eqIsQuiet.eq_def]
  dsimp only
  refine wpAny_bind (wpAny_specialOf ty PySem.F.slot_tuple_eq.lookup ?_)
  refine wpAny_bind (wpAny_isInstance ty (b := true) rfl ?_)
  rw [if_neg (by decide)]
  refine wpAny_bind (wpAny_seqItems h1 h3 ?_)
  dsimp only [Option.getD]
  rw [← Array.forIn_toList]
  have all := items_int h4
  refine wpAny_bind (loop_all its.toList (fun x hx R r => ?_) ?_)
  · obtain ⟨i, tk, rfl⟩ := all x hx
    rw [eqIsQuiet.eq_def]
    exact wpAny_bind (wpAny_pure (by rw [if_neg (by decide)]; exact wpAny_pure r))
  · exact wpAny_pure q
theorem quietN {A : Around} {E : Value → Shared → Prop} {s : Shared} {k : List (List Int)} {a : Addr} {Q : Bool → Shared → Prop} (hk : IsTT P w s.heap k a) (q : Q true s) : wpAny (model P w) A (eqIsQuiet 8 (.ref a)) Q E s := by
  have ty := tyT hk
  obtain ⟨o, its, n, h1, h2, h3, h4⟩ := hk
  rw [eqIsQuiet.eq_def]
  dsimp only
  refine wpAny_bind (wpAny_specialOf ty PySem.F.slot_tuple_eq.lookup ?_)
  refine wpAny_bind (wpAny_isInstance ty (b := true) rfl ?_)
  rw [if_neg (by decide)]
  refine wpAny_bind (wpAny_seqItems h1 h3 ?_)
  dsimp only [Option.getD]
  rw [← Array.forIn_toList]
  refine wpAny_bind (loop_all its.toList (fun x hx R r => ?_) ?_)
  · obtain ⟨b, k', rfl, hb⟩ := eachT_mem h4 x hx
    exact wpAny_bind (quietFlat 6 hb (by rw [if_neg (by decide)]; exact wpAny_pure r))
  · exact wpAny_pure q
theorem seenN {A : Around} {E : Value → Shared → Prop} {s : Shared} {k : List (List Int)} {b : Addr} {Q : Bool → Shared → Prop} (hk : IsTT P w s.heap k b) {ys : List Value}
    (hy : ∀ y ∈ ys, ∃ k' c, y = Value.ref c ∧ IsTT P w s.heap k' c) (q : Q false s) : wpAny (model P w) A (searchCouldBeSeen (.ref b) ys) Q E s := by
  unfold searchCouldBeSeen
  refine wpAny_bind (loop_all ys (fun y hy2 R r => ?_) ?_)
  · obtain ⟨k', c, rfl, hc⟩ := hy y hy2
    dsimp only
    split
    · exact wpAny_pure r
    · refine wpAny_bind (quietN hk ?_)
      rw [if_neg (by decide)]
      refine wpAny_bind (quietN hc ?_)
      rw [if_neg (by decide)]
      refine wpAny_bind (statN hk ?_)
      rw [if_neg (by decide)]
      refine wpAny_bind (statN hc ?_)
      rw [if_neg (by decide)]
      exact wpAny_pure r
  · exact wpAny_pure q
def nestK (P : Program) (w : World) : SKind P w (List (List Int)) where
  is := fun h k a => IsTT P w h k a
  hash := hashN P w
  room := 2
  keep := fun {h h' k a} hk f => by
    obtain ⟨o, its, n, h1, h2, h3, h4⟩ := hk
    exact ⟨o, its, n, f a o h1 h2, h2, h3, eachT_keep f h4⟩
  pyHash := fun {A E s k a Q} hu hk q => pyHashN hu hk q
  eqB := fun {A E s x y a b Q} hu hx hy q => eqBN hu hx hy q
  byVal := fun {A E s k a Q} hk q => byN hk q
  seen := fun {A E s k b Q} hk ys hy q => seenN hk hy q
end
section
variable {X : Cx}
/-- a tuple of flat tuples, in the words of a heap: `bs` are where they lie -/
def elN (K : PySem.W.Frag) (H : Hp) (b : Addr) (ks : List (List Int)) : Prop := ∃ bs : List Addr, SqT K H b (bs.map V.ref) ∧ bs.length = ks.length ∧ ∀ (i : Nat) (c : Addr) (k : List Int), bs[i]? = some c → ks[i]? = some k → SqT K H c (k.map V.int)
theorem elN_each {pins : List (Addr × Obj)} {σ : L2.St} {H : Hp} {s : Shared} (I : Inv X pins σ H s) : ∀ (bs : List Addr) (ks : List (List Int)) (us : List Value), Vals (bs.map V.ref) us → bs.length = ks.length →
    (∀ (i : Nat) (c : Addr) (k : List Int), bs[i]? = some c → ks[i]? = some k → SqT X.K H c (k.map V.int)) → EachT X.prog X.w s.heap ks us
  | [], [], _, .nil, _, _ => .nil
  | b :: bs, k :: ks, _, .cons r t, e, h => by
    cases r
    exact .cons (I.isT (h 0 b k rfl rfl)) (elN_each I bs ks _ t (by simpa using e) fun i c k' h1 h2 => h (i + 1) c k' h1 h2)
theorem elN_is {pins : List (Addr × Obj)} {σ : L2.St} {H : Hp} {s : Shared} {b : Addr} {ks : List (List Int)} (I : Inv X pins σ H s) (h : elN X.K H b ks) : (nestK X.prog X.w).is s.heap ks b := by
  obtain ⟨bs, h1, h2, h3⟩ := h
  obtain ⟨its, rv, ⟨o, g1, g2, n, g3⟩, _⟩ := I.tuple h1
  exact ⟨o, its.toArray, n, g1, g2, g3, by simpa using elN_each I bs ks its rv h2 h3⟩
end
end SG

set_option maxHeartbeats 0
namespace Cl
open PySem PySem.Spec PyProof.Rows L2
/-! ### dicts whose keys are pairs of numbers -/
section
variable {X : Cx} {pins : List (Addr × Obj)} {σ : L2.St} {H : Hp} {s : Shared}
/-- setdefault of a dict with tuple keys -/
theorem setd_pairs {a b : Addr} {kvs : List (List Key × V)} {k : List Key} {d : V} {r : Value} {A : Around} {E : Value → Shared → Prop} {Q : Value → Shared → Prop} (hu : A.units + 1 < cLine) (I : Inv X pins σ H s)
    (e : H a = some (.dT kvs)) (eb : H b = some (.tup (k.map kV))) (rd : RelV d r) (l : kvs.length < sizeLine)
    (q1 : ∀ v, valV kvs k = some v → ∀ (w' : Value) (s' : Shared), Inv X pins σ H s' → RelV v w' → Q w' s')
    (q2 : valV kvs k = none → ∀ (s' : Shared), Inv X pins σ (upd H a (.dT (putK kvs k d))) s' → Q r s') :
    wpAny (model X.prog X.w) A (call (.builtin "dict.setdefault") [.ref a, .ref b, r]) Q E s := by
  obtain ⟨hz0, lo, xs, rel, dd⟩ := dt_of I.hok e
  have hxs : xs.length ≤ sizeLine := (Paired.length rel) ▸ hz0
  have rv := rel.val k
  refine call_setdefault_heap (knd := tupleKind (mixKind X.prog X.w)) (k := k) (tupleKind_room_in1 hu) (key_of I.hok eb) lo dd (fun p hp => ?_) (fun hn h' d2 sb => ?_) hxs
  · rw [hp] at rv
    cases ev : valV kvs k with
    | none => rw [ev] at rv; exact (show False from rv).elim
    | some v0 => rw [ev] at rv; exact q1 v0 ev _ _ (I.tok _) rv
  · rw [hn] at rv
    cases ev : valV kvs k with
    | some v0 => rw [ev] at rv; exact (show False from rv).elim
    | none =>
      have ln := length_putK kvs k d
      obtain ⟨o, es, ep, ho, g2, g3, g4, _, g5⟩ := d2
      refine q2 ev _ (d_write I (by rw [e]; exact True.intro) sb ⟨o, ho⟩ ⟨by omega, lo, _, (rel.put k eb rd).keeps fun c ys ec => ?_, o, es, ep, ho, g2, g3, g4, g5⟩)
      rw [upd_ne (ne_of ec e fun z => nomatch z)]
      exact ec
end
/-- d.setdefault(t, x), t a tuple -/
def tSetdT (td ty tx : TE) : TE := fun σ H Q => td σ H fun x H1 => ∃ a, x = .ref a ∧ (∃ kvs, H1 a = some (.dT kvs)) ∧ ty σ H1 fun y H2 => tx σ H2 fun z H3 => ∃ (kvs : List (List Key × V)) (k : List Key) (b : Addr),
  H3 a = some (.dT kvs) ∧ y = .ref b ∧ H3 b = some (.tup (k.map kV)) ∧ kvs.length < sizeLine ∧ (∀ v, valV kvs k = some v → Q v H3) ∧ (valV kvs k = none → Q z (upd H3 a (.dT (putK kvs k z))))
section
variable {X : Cx} {o e f : Expr} {td ty tx : TE} {apos cpos : Pos}
theorem pe_setdT (hu : X.A.units + 64 < cLine) (ho : PE X o td) (he : PE X e ty) (hf : PE X f tx) (m : M2 X o "setdefault" apos e f cpos) : PE X (.Call (.Attribute o "setdefault" apos) [e, f] [] cpos) (tSetdT td ty tx) := by
  constructor
  intro pins s σ H Q I hq
  refine wpAny_Call_method m.base m.few m.line PySem.F.plainAttrs_dict PySem.F.slot_dict_setdefault PySem.F.type_dict_setdefault (thn (ho.run pins s σ H _ I hq) fun u s1 hs1 => ?_)
  obtain ⟨x, H1, I1, rx, a, ex, ⟨kv0, d0⟩, q1⟩ := hs1
  subst ex
  cases rx
  obtain ⟨t1, t2, _⟩ := isD_at I1 (.inr ⟨kv0, .inl d0⟩)
  refine ⟨t1, t2, ?_⟩
  rw [m.trees]
  refine Calls.callWith_builtin rfl (Calls.evalArgs_plain (Calls.spliced_cons (thn (he.run pins s1 σ H1 _ I1 q1) fun iv s2 hs2 => ?_)))
  obtain ⟨y, H2, I2, ry, q2⟩ := hs2
  refine Calls.spliced_cons (thn (hf.run pins s2 σ H2 _ I2 q2) fun fv s3 hs3 => Calls.spliced_nil ?_)
  obtain ⟨z, H3, I3, rz, kvs, k, b, ea, ey, eb, hl, q3, q4⟩ := hs3
  subst ey
  cases ry
  exact setd_pairs (by omega) I3 ea eb rz hl (fun v hv w' s4 I4 rw' => ⟨v, _, I4, rw', q3 v hv⟩) fun hn s4 I4 => ⟨z, _, I4, rz, q4 hn⟩
end
/-! ### sorted(d), d a dict whose keys are pairs of numbers, any number of them -/
def pkey (p : Int × Int) : List Key := [Sum.inl p.1, Sum.inl p.2]
/-- the pair that stands at an address -/
def ptAt (H : Hp) (b : Addr) : Int × Int := match H b with
  | some (.tup [.int i, .int j]) => (i, j)
  | _ => (0, 0)
def ptV (H : Hp) : Value → Int × Int
  | .ref b => ptAt H b
  | _ => (0, 0)
theorem ptAt_eq {H : Hp} {b : Addr} {p : Int × Int} (h : H b = some (.tup ((pkey p).map kV))) : ptAt H b = p := by
  unfold ptAt
  rw [h]
  rfl
def adV : Value → Addr
  | .ref b => b
  | _ => sysModules
/-- x behind y nowhere -/
def leP (p q : Int × Int) : Prop := SrtO.lexB q p = false
def rSortPt : List V → Hp → VK → Prop := fun vs H Q => ∃ (d : Addr) (kvs : List (List Key × V)) (ps : List (Int × Int)), vs = [.ref d] ∧ H d = some (.dT kvs) ∧ kvs.map (·.1) = ps.map pkey ∧
  ∀ ys : List (Addr × (Int × Int)), (ys.map (·.2)).Perm ps → (ys.map (·.2)).Pairwise leP → (∀ y ∈ ys, H y.1 = some (.tup [.int y.2.1, .int y.2.2])) → New H (.lst (ys.map fun y => V.ref y.1)) Q
section
variable {X : Cx}
theorem paired_keys {H : Hp} : ∀ {kvs : List (List Key × V)} {ks : List (List Key × Addr × Value)} {ps : List (Int × Int)}, KT H kvs ks → kvs.map (·.1) = ps.map pkey → ks.map (fun x => ptAt H x.2.1) = ps ∧ ∀ x ∈ ks, ∃ p : Int × Int, H x.2.1 = some (.tup [.int p.1, .int p.2])
  | [], _, [], .nil, _ => ⟨rfl, fun _ h => nomatch h⟩
  | [], _, _ :: _, .nil, e => nomatch e
  | _ :: _, _ :: _, [], .cons _ _, e => nomatch e
  | kv :: kvs, k :: ks, p :: ps, .cons h t, e => by
    rw [List.map_cons, List.map_cons] at e
    obtain ⟨e1, e2⟩ := List.cons.inj e
    obtain ⟨i1, i2⟩ := paired_keys t e2
    have h2 : H k.2.1 = some (.tup ((pkey p).map kV)) := by rw [← e1]; exact h.2.1
    refine ⟨by rw [List.map_cons, i1, ptAt_eq h2], fun x hx => ?_⟩
    rcases List.mem_cons.mp hx with rfl | hx
    · exact ⟨p, h2⟩
    · exact i2 x hx
theorem cr_sortPt (hc : X.calm = true) : CallR X (.builtin "sorted") rSortPt := by
  intro pins s σ H vs us Q I r h
  obtain ⟨d, kvs, ps, rfl, hd, hk, q⟩ := h
  obtain ⟨u, rfl, rx⟩ := vals1 r
  cases rx
  obtain ⟨hz0, lo, ks, pr, o, es, ep, ho, hx, hdt, he, hn⟩ := (I.hok d _ hd : ObjOk X.prog X.w H s.heap d (.dT kvs))
  obtain ⟨c1, c2⟩ := paired_keys pr hk
  have l1 : es.size = ks.length := size_of_entries he
  have l2 : kvs.length = ks.length := Paired.length pr
  refine Calls.call_function_entry kind_sorted plain_sorted entry_sorted (args_sorted1 _) ?_
  unfold Builtin.«sorted»
  refine wpAny_bind (m := checkCount "sorted" 1 1 _) (wpAny_pure (wpAny_bind (PySem.W.kdu_collect (A := X.A.in1) (kdl_raw lo hx hdt) (I.ok.hd hc) ho (by omega) fun h' tk acc hkp it => ?_)))
  have ea : acc.toList = ks.map fun x => Value.ref x.2.1 := by
    apply List.ext_getElem?
    intro j
    have lt1 : acc.toList.length = ks.length := by rw [Array.length_toList, it.1, l1]
    by_cases hj : j < ks.length
    · obtain ⟨en, hen, hv⟩ := it.2 j _ (Array.getElem?_eq_getElem (by rw [it.1, l1]; exact hj))
      have qe := entry_at he j
      rw [hen, List.getElem?_eq_getElem hj] at qe
      rw [Array.getElem?_toList, Array.getElem?_eq_getElem (by rw [it.1, l1]; exact hj), List.getElem?_map, List.getElem?_eq_getElem hj, hv, Option.some.inj qe]
      rfl
    · rw [List.getElem?_eq_none (by omega), List.getElem?_eq_none (by rw [List.length_map]; omega)]
  have I1 : Inv X pins σ H { s with heap := h', toks := tk } := I.kept hkp
  have la : acc.toList.length ≤ sizeLine := by rw [ea, List.length_map]; omega
  refine wpAny_bind (wpAny_newList ?_ la)
  have hoL : (h'.push (seqObj "list" acc.toList.toArray 0)).get? h'.objs.size = some (seqObj "list" acc.toList.toArray 0) := Heap.get?_push_size _ rfl
  have mem : ∀ v ∈ acc.toList, ∃ (b : Addr) (p : Int × Int), v = .ref b ∧ H b = some (.tup [.int p.1, .int p.2]) := fun v hv => by
    rw [ea] at hv
    obtain ⟨x, hx1, rfl⟩ := List.mem_map.mp hv
    obtain ⟨p, hp⟩ := c2 x hx1
    exact ⟨_, p, rfl, hp⟩
  have prs : ∀ v ∈ acc.toList, Srt.IsPair (h'.push (seqObj "list" acc.toList.toArray 0)) v (ptV H v).1 (ptV H v).2 := fun v hv => by
    obtain ⟨b, p, rfl, hb⟩ := mem v hv
    have e2 : ptV H (.ref b) = p := ptAt_eq hb
    rw [e2]
    obtain ⟨_, its2, r2, ob, hob, hcl, n, hdd⟩ := I1.hok _ _ hb
    obtain ⟨u1, u2, rfl, ri, rj⟩ := vals2 r2
    obtain ⟨t1, rfl⟩ := ri
    obtain ⟨t2, rfl⟩ := rj
    exact ⟨b, ob, t1, t2, n, rfl, Heap.get?_push_of_some _ hob, hcl, hdd⟩
  refine wpAny_bind (wpAny_holding (wpAny_call_entry slot_list_sort ⟨_, hoL, rfl⟩ entry_list_sort (SrtO.list_sort_ord (s := { s with heap := h'.push (seqObj "list" acc.toList.toArray 0), toks := tk }) (ltv := fun v u => SrtO.lexB (ptV H v) (ptV H u)) (SrtO.swo_lex (ptV H)) hoL la (fun h2 => SrtO.pairs_sortableO (by omega) prs fun ob hob => ?_) fun out hs hb => ⟨_, rfl, ?_⟩) (args_list_sort _)))
  · rw [hoL] at hob
    cases hob
    exact fun z => absurd (Value.type.inj z) (by decide)
  obtain ⟨e', he'⟩ := sortedHeap_at (vs := acc.toList) (out := out.toArray) hoL
  have om : ∀ v ∈ out, ∃ (b : Addr) (p : Int × Int), v = .ref b ∧ H b = some (.tup [.int p.1, .int p.2]) := fun v hv => mem v (hb.perm.mem_iff.mp hv)
  have eo : out.map (fun v => V.ref (adV v)) = (out.map fun v => (adV v, ptV H v)).map fun y => V.ref y.1 := by rw [List.map_map]; rfl
  have rv : Vals ((out.map fun v => (adV v, ptV H v)).map fun y => V.ref y.1) out := by
    rw [← eo]
    clear hs hb he' eo
    induction out with
    | nil => exact .nil
    | cons v r ih =>
      obtain ⟨b, p, rfl, _⟩ := om v (List.mem_cons_self ..)
      exact .cons rfl (ih fun w hw => om w (List.mem_cons_of_mem _ hw))
  have q2 := q (out.map fun v => (adV v, ptV H v)) ?perm ?srt fun y hy => ?tup
  case perm =>
    rw [List.map_map, ← c1]
    have e3 : ks.map (fun x => ptAt H x.2.1) = acc.toList.map (ptV H) := by rw [ea, List.map_map]; rfl
    rw [e3]
    exact hb.perm.map (ptV H)
  case srt =>
    rw [List.map_map]
    exact List.pairwise_map.mpr hs
  case tup =>
    obtain ⟨v, hv, rfl⟩ := List.mem_map.mp hy
    obtain ⟨b, p, rfl, hb2⟩ := om v hv
    have e2 : ptV H (.ref b) = p := ptAt_eq hb2
    show H b = some (.tup [.int (ptV H (.ref b)).1, .int (ptV H (.ref b)).2])
    rw [e2]
    exact hb2
  have hl : ((out.map fun v => (adV v, ptV H v)).map fun y => V.ref y.1).length ≤ sizeLine := by
    rw [List.length_map, List.length_map, hb.len]
    exact la
  refine wpAny_pure ⟨_, rfl, .ref h'.objs.size, upd H h'.objs.size (.lst ((out.map fun v => (adV v, ptV H v)).map fun y => V.ref y.1)), I1.laid (t' := tk) (fun b u e => ?_) (Nat.le_refl _) ⟨hl, out, e', rv, he'⟩, rfl, q2.go _ (I1.hok.fresh (Nat.le_refl _))⟩
  have hlt : b < h'.objs.size := Heap.lt_size e
  rw [sortedHeap_old (Nat.ne_of_lt hlt) (by rw [size_push']; exact Nat.lt_succ_of_lt hlt)]
  exact Heap.get?_push_of_some _ e
end
end Cl

set_option maxHeartbeats 0
namespace Cl
open PySem PySem.Spec PyProof.Rows L2
/-! ### sorted lists of tuples of numbers and texts, any number of them -/
def vItem : V → Int ⊕ List Nat
  | .int i => .inl i
  | .str x => .inr x.cps.toList
  | _ => .inl 0
def fits (sh : Nat → Bool) : Nat → List V → Prop
  | _, [] => True
  | i, .int _ :: r => sh i = false ∧ fits sh (i + 1) r
  | i, .str _ :: r => sh i = true ∧ fits sh (i + 1) r
  | _, _ :: _ => False
theorem items_fit {sh : Nat → Bool} : ∀ {vs : List V} {us : List Value} {i : Nat}, Vals vs us → fits sh i vs → tupItems sh i us = some (vs.map vItem)
  | _, _, _, .nil, _ => rfl
  | v :: vs, u :: us, i, .cons r t, h => by
    cases v with
    | int k =>
      obtain ⟨tk, rfl⟩ := r
      obtain ⟨h1, h2⟩ := h
      show (if sh i = true then none else (tupItems sh (i + 1) us).map (Sum.inl k :: ·)) = _
      rw [if_neg (by rw [h1]; exact Bool.false_ne_true), items_fit t h2]
      rfl
    | str x =>
      obtain ⟨tk, rfl⟩ := r
      obtain ⟨h1, h2⟩ := h
      show (if sh i = true then (tupItems sh (i + 1) us).map (Sum.inr x.cps.toList :: ·) else none) = _
      rw [if_pos h1, items_fit t h2]
      rfl
    | _ => exact h.elim
theorem fit_first {sh : Nat → Bool} {v : V} {vs : List V} {u : Value} (r : RelV v u) (h : fits sh 0 (v :: vs)) : (sh 0 = false → ∃ k t, u = .int k t) ∧ (sh 0 = true → ∃ x t, u = .str x t) := by
  cases v with
  | int k =>
    obtain ⟨tk, rfl⟩ := r
    exact ⟨fun _ => ⟨_, _, rfl⟩, fun z => absurd (h.1.symm.trans z) (by decide)⟩
  | str x =>
    obtain ⟨tk, rfl⟩ := r
    exact ⟨fun z => absurd (h.1.symm.trans z) (by decide), fun _ => ⟨_, _, rfl⟩⟩
  | _ => exact h.elim
theorem tups_all {h : Heap} {sh : Nat → Bool} : ∀ {vs : List Value}, (∀ v ∈ vs, ∃ f, TupOf h sh v f) → ∃ fs, TupsOf h sh vs fs ∧ fs.length = vs.length
  | [], _ => ⟨[], .nil, rfl⟩
  | v :: vs, a => by
    obtain ⟨f, hf⟩ := a v (List.mem_cons_self ..)
    obtain ⟨fs, h1, h2⟩ := tups_all fun w hw => a w (List.mem_cons_of_mem _ hw)
    exact ⟨f :: fs, .cons hf h1, by rw [List.length_cons, List.length_cons, h2]⟩
abbrev ltT (a b : List (Int ⊕ List Nat)) : Bool := lexLt itemOrd a b
theorem swoT {α : Type} (k : α → List (Int ⊕ List Nat)) : SrtO.Swo fun x y => ltT (k x) (k y) := by
  refine ⟨fun x y h => ?_, fun x y z h1 h2 => ?_⟩
  · cases e : ltT (k y) (k x) with
    | false => rfl
    | true => exact ((lex_irrefl (O := itemOrd) (k x)).symm.trans (lex_trans (O := itemOrd) _ _ _ h e)).symm
  · cases e : ltT (k z) (k x) with
    | false => rfl
    | true =>
      rcases lex_negTrans (O := itemOrd) (k z) (k y) (k x) e with w | w
      · exact (h2.symm.trans w).symm
      · exact (h1.symm.trans w).symm
def rSortTup (K : PySem.W.Frag) (sh : Nat → Bool) : List V → Hp → VK → Prop := fun vs H Q => ∃ (a : Addr) (xs : List V) (ct : V → List V), vs = [.ref a] ∧ SqL K H a xs ∧
  (∀ x ∈ xs, ∃ t, x = .ref t ∧ SqT K H t (ct x) ∧ fits sh 0 (ct x) ∧ ct x ≠ []) ∧
  ∀ ys : List V, ys.Perm xs → ys.Pairwise (fun x y => ltT ((ct y).map vItem) ((ct x).map vItem) = false) → New H (.lst ys) Q
section
variable {X : Cx}
theorem cr_sortTup (sh : Nat → Bool) : CallR X (.builtin "sorted") (rSortTup X.K sh) := by
  intro pins s σ H vs us Q I r h
  obtain ⟨a, xs, ct, rfl, hs, hx, q⟩ := h
  obtain ⟨u, rfl, ru⟩ := vals1 r
  cases ru
  obtain ⟨its, rv, hl, hz⟩ := I.list hs
  obtain ⟨e1, e2⟩ := refs_back rv fun x m => (hx x m).elim fun t w => ⟨t, w.1⟩
  have at_ : ∀ v ∈ its, ∃ (t : Addr) (ob : Obj) (zs : List Value) (n : Nat), v = .ref t ∧ s.heap.get? t = some ob ∧ ob.cls = .type "tuple" ∧ ob.data = .seq zs.toArray n ∧ Vals (ct (backV v)) zs ∧ fits sh 0 (ct (backV v)) ∧ ct (backV v) ≠ [] := fun v hv => by
    obtain ⟨t, rfl⟩ := e2 v hv
    have hm : V.ref t ∈ xs := by rw [e1]; exact List.mem_map.mpr ⟨_, hv, rfl⟩
    obtain ⟨t', e, ht, hf, hne⟩ := hx _ hm
    cases e
    obtain ⟨zs, rz, ⟨ob, hob, hcl, n, hdd⟩, _⟩ := I.tuple ht
    exact ⟨t, ob, zs, n, rfl, hob, hcl, hdd, rz, hf, hne⟩
  refine SrtO.sorted_ord (ltv := fun v u => ltT ((ct (backV v)).map vItem) ((ct (backV u)).map vItem)) (swoT _) hl.isList (by rw [← rv.length]; exact hz) (fun h2 h1 a1 ha1 kk h' keep => ⟨tuples' true, fun R E hq => ?_, fun p p' m m' => ?_⟩) fun out hs1 hb1 => ?_
  · obtain ⟨fs, t1, t2⟩ := tups_all (h := h') (sh := sh) (vs := its) fun v hv => by
      obtain ⟨t, ob, zs, n, rfl, hob, hcl, hdd, rz, hf, hne⟩ := at_ v hv
      obtain ⟨k1, k2⟩ := kk t ob hob
      cases hc : ct (backV (.ref t)) with
      | nil => exact absurd hc hne
      | cons v0 vr =>
        rw [hc] at rz hf
        cases rz with
        | cons r0 rr =>
          obtain ⟨f1, f2⟩ := fit_first r0 hf
          exact ⟨_, t, ob, _, n, rfl, keep t ob k1 k2, hcl, hdd, rfl, f1, f2⟩
    exact tup_kind (by omega) t1 hq
  · have key : ∀ v ∈ its, (tupKind h' sh).keyOf v = some ((ct (backV v)).map vItem) := fun v hv => by
      obtain ⟨t, ob, zs, n, rfl, hob, hcl, hdd, rz, hf, hne⟩ := at_ v hv
      obtain ⟨k1, k2⟩ := kk t ob hob
      show tupKey h' sh (.ref t) = _
      simp only [tupKey, keep t ob k1 k2, hdd]
      exact items_fit rz hf
    exact tup_ltAt (s := { s with heap := h' }) true _ _ p.1 p'.1 _ _ (key _ m) (key _ m') ⟨rfl, rfl⟩
  · have h3 : ∀ u ∈ out, ∃ b, u = Value.ref b := fun u hu => e2 u (hb1.perm.mem_iff.mp hu)
    have pm : (out.map backV).Perm xs := by rw [e1]; exact hb1.perm.map backV
    obtain ⟨n, hn⟩ := sortedAll_at s.heap its out.toArray
    have q2 := q (out.map backV) pm (List.pairwise_map.mpr hs1)
    exact ⟨.ref (s.heap.objs.size + 1), _, I.laid (t' := s.toks) (o := .lst (out.map backV)) (fun b o e => sortedAll_old e) (Nat.le_succ _) ⟨by rw [pm.length_eq]; exact hz, out, n, vals_back h3, hn⟩, rfl, q2.go _ (I.hok.fresh (Nat.le_succ _))⟩
end
end Cl

/-! tuple(x) of anything that can be collected; tuple(d), d a dict whose keys are tuples. -/
namespace Cl
open PySem PySem.Spec PyProof.Rows L2
theorem call_tuple_any {P : Program} {w : World} {A : Around} {E : Value → Shared → Prop} {s : Shared} {v : Value} {T : String} {Q : Value → Shared → Prop} (ty : s.TypeIs v T) (hT : T ≠ "tuple")
    (hc : ∀ E', wpAny (model P w) A.in1.in1 (collect v) (fun vs s1 => vs.length ≤ sizeLine ∧ Q (.ref s1.heap.objs.size) { s1 with heap := s1.heap.push { cls := .type "tuple", data := .seq vs.toArray } }) E' s) :
    wpAny (model P w) A (call (.type "tuple") [v]) Q E s := by
  refine callType_newIn (S := fun A R s => wpAny (model P w) A.in1 (Builtin.«tuple.__new__» { pos := [.type "tuple", v] }) (fun fin s' => match fin with
      | .done f => R (.ok f) s'
      | .again c' => c'.quiet = true ∧ codeAny (model P w) A c' R s') (fun e s' => R (.error e) s') s) PySem.F.called_tuple rfl (PySem.F.typeCall_tuple_1 _) (PySem.F.newCall_tuple_1 _) (fun obj => PySem.F.args_object_init_2 _ _) PySem.F.entry_tuple_new (fun A R s h => h) ?_
  show wpAny (model P w) A.in1.in1 (Builtin.«tuple.__new__» { pos := [.type "tuple", v] }) _ _ s
  unfold Builtin.«tuple.__new__»
  dsimp only
  refine wpAny_bind (m := isType _) (wpAny_pure ?_)
  rw [if_neg (by decide)]
  refine wpAny_bind (m := isSubtype _ _) (wpAny_pure ?_)
  rw [if_neg (by decide)]
  rw [if_neg (by decide), madeHere_tuple]
  refine wpAny_bind (wpAny_pure ?_)
  rw [PySem.F.called_tuple.init.lookup]
  refine wpAny_bind (wpAny_pure ?_)
  rw [if_pos (by decide)]
  refine wpAny_bind (m := noKeywords _ _) (wpAny_pure ?_)
  refine wpAny_bind (m := checkCount _ _ _ _) (wpAny_pure ?_)
  rw [if_pos (by decide)]
  refine wpAny_bind (m := Builtin.Tuple.tupleIsExact _) (wpAny_bind (wpAny_typeOf ty (wpAny_pure ?_)))
  rw [if_neg (by intro z; exact hT (Value.type.inj (eq_of_beq z)))]
  refine wpAny_bind (wpAny_mono (hc fun _ _ => False) (fun vs s1 h => ?_) (fun _ _ z => z.elim))
  obtain ⟨hl, q⟩ := h
  refine wpAny_bind (wpAny_pure ?_)
  refine wpAny_bind (m := newTuple vs) (wpAny_newTuple ?_ hl)
  exact wpAny_pure ⟨⟨_, Heap.get?_push_size _ rfl, rfl⟩, q⟩
/-- tuple(d), the keys of d tuples -/
def rTupDT : List V → Hp → VK → Prop := fun vs H Q => ∃ (d : Addr) (kvs : List (List Key × V)), vs = [.ref d] ∧ H d = some (.dT kvs) ∧
  ∀ bs : List Addr, IsKeys H kvs bs → New H (.tup (bs.map V.ref)) Q
section
variable {X : Cx}
theorem kt_keys {H : Hp} : ∀ {kvs : List (List Key × V)} {ks : List (List Key × Addr × Value)}, KT H kvs ks → IsKeys H kvs (ks.map fun x => x.2.1)
  | [], [], .nil => .nil
  | _ :: _, _ :: _, .cons h t => .cons h.2.1 (kt_keys t)
theorem cr_tupDT (hc : X.calm = true) : CallR X (.type "tuple") rTupDT := by
  intro pins s σ H vs us Q I r h
  obtain ⟨d, kvs, rfl, hd, q⟩ := h
  obtain ⟨u, rfl, rx⟩ := vals1 r
  cases rx
  obtain ⟨hz0, lo, ks, pr, o, es, ep, ho, hx, hdt, he, hn⟩ := (I.hok d _ hd : ObjOk X.prog X.w H s.heap d (.dT kvs))
  have l1 : es.size = ks.length := size_of_entries he
  have l2 : kvs.length = ks.length := Paired.length pr
  refine call_tuple_any (T := "dict") ⟨o, ho, hx.1⟩ (by decide) fun E' => ?_
  refine PySem.W.kdu_collect (A := X.A.in1.in1) (kdl_raw lo hx hdt) (I.ok.hd hc) ho (by omega) fun h' tk acc hkp it => ?_
  have ea : acc.toList = ks.map fun x => Value.ref x.2.1 := by
    apply List.ext_getElem?
    intro j
    have lt1 : acc.toList.length = ks.length := by rw [Array.length_toList, it.1, l1]
    by_cases hj : j < ks.length
    · obtain ⟨en, hen, hv⟩ := it.2 j _ (Array.getElem?_eq_getElem (by rw [it.1, l1]; exact hj))
      have qe := entry_at he j
      rw [hen, List.getElem?_eq_getElem hj] at qe
      rw [Array.getElem?_toList, Array.getElem?_eq_getElem (by rw [it.1, l1]; exact hj), List.getElem?_map, List.getElem?_eq_getElem hj, hv, Option.some.inj qe]
      rfl
    · rw [List.getElem?_eq_none (by omega), List.getElem?_eq_none (by rw [List.length_map]; omega)]
  have I1 : Inv X pins σ H { s with heap := h', toks := tk } := I.kept hkp
  have la : acc.toList.length ≤ sizeLine := by rw [ea, List.length_map]; omega
  refine ⟨la, ?_⟩
  have vr : ∀ M : List (List Key × Addr × Value), Vals ((M.map fun x => x.2.1).map V.ref) (M.map fun x => Value.ref x.2.1) := fun M => by
    induction M with
    | nil => exact .nil
    | cons q M ih => exact .cons rfl ih
  have hg : (h'.push { cls := .type "tuple", data := .seq acc.toList.toArray }).get? h'.objs.size = some { cls := .type "tuple", data := .seq acc.toList.toArray } := Heap.get?_push_size _ rfl
  have hfr := I1.hok.fresh (a := h'.objs.size) (Nat.le_refl _)
  refine ⟨.ref h'.objs.size, _, I1.laid (t' := tk) (o := .tup ((ks.map fun x => x.2.1).map V.ref)) (fun b o e => Heap.get?_push_of_some _ e) (Nat.le_refl _) ?_, rfl, (q _ (kt_keys pr)).go _ hfr⟩
  refine ⟨by rw [List.length_map, List.length_map]; omega, acc.toList, by rw [ea]; exact vr ks, _, hg, rfl, 0, ?_⟩
  simp
end
end Cl

set_option maxHeartbeats 1000000
namespace Cl
open PySem PySem.Spec PyProof.Rows L2
/-! ### zip, its first pair still held: the turns of tuple(zip(x, y)) -/
abbrev ZipW (h : Heap) (z ti to : Addr) (f0 f1 : Value) : Prop := h.get? z = some { cls := .type "zip", data := .fields #[f0, f1, .bool false, .ref ti, .ref to] }
section
variable {pr : Program} {ww : World} {Ar : Around} {Er : Value → Shared → Prop} {sh : Shared}
theorem wpAny_held {zz ti to T : Addr} {f1 : Value} {oT : Obj} {Q : Bool → Shared → Prop} (z0 : ZipW sh.heap zz ti to (rawInt T) f1) (hT : sh.heap.get? T = some oT)
    (go : ∀ hh g1, ZipW hh zz ti to (rawInt T) g1 → Heap.SameBut zz sh.heap hh → Q false { sh with heap := hh }) :
    wpAny (model pr ww) Ar (Builtin.SmallTypes.ownedTupleIsFree (.ref zz)) Q Er sh := by
  delta Builtin.SmallTypes.ownedTupleIsFree
  refine wpAny_bind (wpAny_field z0 rfl (x := rawInt T) rfl ?_)
  show wpAny _ _ (loadIfAlive (Int.toNat (T : Int)) >>= _) _ _ _
  rw [Int.toNat_natCast]
  refine wpAny_bind (PySem.W.kdx_alive hT ?_)
  rw [if_neg (by simp)]
  refine wpAny_bind (wpAny_field z0 rfl (x := f1) rfl ?_)
  dsimp only
  split
  · refine wpAny_bind (wpAny_setField_rec z0 (by simp) fun g1 z1 s1 => wpAny_pure ?_)
    exact go g1 _ z1 s1
  · exact wpAny_pure (go sh.heap f1 z0 ⟨rfl, fun _ _ => rfl⟩)
theorem zipO_item {ka kb : SqK} {zz ti to ia ib la lb T : Addr} {f1 : Value} {oT : Obj} {na nb : Nat} {us vs : Array Value} {u v : Value} {R : Value → Shared → Prop} (D : ZipApart zz ti to ia ib la lb)
    (z0 : ZipW sh.heap zz ti to (rawInt T) f1) (hT : sh.heap.get? T = some oT) (t0 : IsPair sh.heap ti (.ref ia) (.ref ib)) (a0 : ka.it sh.heap ia la na) (b0 : kb.it sh.heap ib lb nb) (la0 : ka.sq sh.heap la us) (lb0 : kb.sq sh.heap lb vs) (eu : us[na]? = some u) (ev : vs[nb]? = some v)
    (go : ∀ hh g1, ZipW hh zz ti to (rawInt T) g1 → ka.it hh ia la (na + 1) → kb.it hh ib lb (nb + 1) → IsPair hh sh.heap.objs.size u v → hh.objs.size = sh.heap.objs.size + 1 → (∀ c o, c ≠ zz → c ≠ ia → c ≠ ib → sh.heap.get? c = some o → hh.get? c = some o) → R (.ref sh.heap.objs.size) { sh with heap := hh }) :
    wpAny (model pr ww) Ar (Builtin.«zip.__next__» ⟨[.ref zz], []⟩) (fun fin s' => ∃ y, fin = .done (.ret y) ∧ R y s') Er sh := by
  show wpAny _ _ (field (.ref zz) 2 >>= _) _ _ _
  refine wpAny_bind (wpAny_field z0 rfl (x := .bool false) rfl ?_)
  show wpAny _ _ (field (.ref zz) 3 >>= _) _ _ _
  refine wpAny_bind (wpAny_field z0 rfl (x := .ref ti) rfl ?_)
  refine wpAny_bind (wpAny_seqItems t0 rfl ?_)
  show wpAny _ _ (Builtin.SmallTypes.ownedTupleIsFree (.ref zz) >>= _) _ _ _
  refine wpAny_bind (wpAny_held z0 hT fun g1 w1 z1 s1 => ?_)
  rw [if_neg (by decide)]
  refine wpAny_bind ?_
  rw [← Array.forIn_toList]
  show wpAny _ _ (forIn [Value.ref ia, Value.ref ib] (none, (#[] : Array Value)) _) _ _ _
  simp only [List.forIn_cons, List.forIn_nil]
  refine wpAny_bind (wpAny_bind (wpAny_holding ?_))
  show wpAny _ _ (Builtin.SmallTypes.nextOf (.ref ia) >>= _) _ _ _
  refine wpAny_bind (SqK.nx_item (SqK.it_at a0 fun o e => s1.extBut _ _ D.i1z e) (SqK.sq_at la0 fun o e => s1.extBut _ _ D.l1z e) eu fun g2 a2 s2 => wpAny_pure ?_)
  refine wpAny_pure ?_
  refine wpAny_bind (wpAny_bind (wpAny_holding ?_))
  show wpAny _ _ (Builtin.SmallTypes.nextOf (.ref ib) >>= _) _ _ _
  refine wpAny_bind (SqK.nx_item (SqK.it_at b0 fun o e => s2.extBut _ _ D.i12.symm (s1.extBut _ _ D.i2z e)) (SqK.sq_at lb0 fun o e => s2.extBut _ _ D.l2i1 (s1.extBut _ _ D.l2z e)) ev fun g4 b4 s4 => wpAny_pure ?_)
  refine wpAny_pure (wpAny_pure ?_)
  dsimp only
  refine wpAny_bind (wpAny_newTuple ?_ (by show 2 ≤ sizeLine; decide))
  have n5 : g4.objs.size = sh.heap.objs.size := by rw [s4.1, s2.1, s1.1]
  have up : ∀ c o, g4.get? c = some o → (g4.push { cls := .type "tuple", data := .seq #[u, v] }).get? c = some o := fun c o e => Heap.get?_push_of_some _ e
  have z5 : ZipW g4 zz ti to (rawInt T) w1 := s4.extBut _ _ D.i2z.symm (s2.extBut _ _ D.i1z.symm z1)
  refine wpAny_pure ⟨_, rfl, ?_⟩
  have p8 : IsPair (g4.push { cls := .type "tuple", data := .seq #[u, v] }) g4.objs.size u v := Heap.get?_push_size _ rfl
  have n8 : (g4.push { cls := .type "tuple", data := .seq #[u, v] }).objs.size = g4.objs.size + 1 := Heap.size_push ..
  show R (.ref g4.objs.size) _
  rw [n5] at p8 n8 ⊢
  exact go _ w1 (up _ _ z5) (SqK.it_at (SqK.it_at a2 fun o e => s4.extBut _ _ D.i12 e) fun o e => up _ o e) (SqK.it_at b4 fun o e => up _ o e) p8 n8 fun c o c1 c3 c4 e => up c o (s4.extBut _ _ c4 (s2.extBut _ _ c3 (s1.extBut _ _ c1 e)))
theorem zipO_end {ka kb : SqK} {zz ti to ia ib la lb T : Addr} {f1 : Value} {oT : Obj} {na nb : Nat} {us vs : Array Value} {R : Fin → Shared → Prop} (hd : Ar.handled = none) (D : ZipApart zz ti to ia ib la lb)
    (z0 : ZipW sh.heap zz ti to (rawInt T) f1) (hT : sh.heap.get? T = some oT) (t0 : IsPair sh.heap ti (.ref ia) (.ref ib)) (a0 : ka.it sh.heap ia la na) (b0 : kb.it sh.heap ib lb nb) (la0 : ka.sq sh.heap la us) (lb0 : kb.sq sh.heap lb vs) (out : us[na]? = none ∨ vs[nb]? = none)
    (er : ∀ hh b, (∀ c o, c ≠ zz → c ≠ ia → c ≠ ib → sh.heap.get? c = some o → hh.get? c = some o) → (∃ o, hh.get? b = some o ∧ o.cls = .type "StopIteration") → Er (.ref b) { sh with heap := hh }) :
    wpAny (model pr ww) Ar (Builtin.«zip.__next__» ⟨[.ref zz], []⟩) R Er sh := by
  show wpAny _ _ (field (.ref zz) 2 >>= _) _ _ _
  refine wpAny_bind (wpAny_field z0 rfl (x := .bool false) rfl ?_)
  show wpAny _ _ (field (.ref zz) 3 >>= _) _ _ _
  refine wpAny_bind (wpAny_field z0 rfl (x := .ref ti) rfl ?_)
  refine wpAny_bind (wpAny_seqItems t0 rfl ?_)
  show wpAny _ _ (Builtin.SmallTypes.ownedTupleIsFree (.ref zz) >>= _) _ _ _
  refine wpAny_bind (wpAny_held z0 hT fun g1 w1 z1 s1 => ?_)
  rw [if_neg (by decide)]
  refine wpAny_bind ?_
  rw [← Array.forIn_toList]
  show wpAny _ _ (forIn [Value.ref ia, Value.ref ib] (none, (#[] : Array Value)) _) _ _ _
  simp only [List.forIn_cons, List.forIn_nil]
  refine wpAny_bind (wpAny_bind (wpAny_holding ?_))
  show wpAny _ _ (Builtin.SmallTypes.nextOf (.ref ia) >>= _) _ _ _
  have A1 := SqK.it_at a0 fun o e => s1.extBut _ _ D.i1z e
  have L1 := SqK.sq_at la0 fun o e => s1.extBut _ _ D.l1z e
  cases hu : us[na]? with
  | none =>
    refine wpAny_bind (SqK.nx_end hd A1 L1 hu fun g2 b s2 hb => ?_)
    exact er g2 b (fun c o c1 c3 _ w => s2 _ _ c3 (s1.extBut _ _ c1 w)) hb
  | some u =>
    have hv : vs[nb]? = none := by
      rcases out with w | w
      · rw [hu] at w; cases w
      · exact w
    refine wpAny_bind (SqK.nx_item A1 L1 hu fun g2 a2 s2 => wpAny_pure ?_)
    refine wpAny_pure ?_
    refine wpAny_bind (wpAny_bind (wpAny_holding ?_))
    show wpAny _ _ (Builtin.SmallTypes.nextOf (.ref ib) >>= _) _ _ _
    refine wpAny_bind (SqK.nx_end hd (SqK.it_at b0 fun o e => s2.extBut _ _ D.i12.symm (s1.extBut _ _ D.i2z e)) (SqK.sq_at lb0 fun o e => s2.extBut _ _ D.l2i1 (s1.extBut _ _ D.l2z e)) hv fun g4 b s4 hb => ?_)
    exact er g4 b (fun c o c1 c3 c4 w => s4 _ _ c4 (s2.extBut _ _ c3 (s1.extBut _ _ c1 w))) hb
theorem zipO_next {ka kb : SqK} {zz ti to ia ib la lb T : Addr} {f1 : Value} {oT : Obj} {na nb : Nat} {us vs : Array Value} {u v : Value} {R : Option Value → Shared → Prop} (D : ZipApart zz ti to ia ib la lb)
    (z0 : ZipW sh.heap zz ti to (rawInt T) f1) (hT : sh.heap.get? T = some oT) (t0 : IsPair sh.heap ti (.ref ia) (.ref ib)) (a0 : ka.it sh.heap ia la na) (b0 : kb.it sh.heap ib lb nb) (la0 : ka.sq sh.heap la us) (lb0 : kb.sq sh.heap lb vs) (eu : us[na]? = some u) (ev : vs[nb]? = some v)
    (go : ∀ hh g1, ZipW hh zz ti to (rawInt T) g1 → ka.it hh ia la (na + 1) → kb.it hh ib lb (nb + 1) → IsPair hh sh.heap.objs.size u v → hh.objs.size = sh.heap.objs.size + 1 → (∀ c o, c ≠ zz → c ≠ ia → c ≠ ib → sh.heap.get? c = some o → hh.get? c = some o) → R (some (.ref sh.heap.objs.size)) { sh with heap := hh }) :
    wpAny (model pr ww) Ar (pyNext (.ref zz)) R Er sh := by
  have ty : sh.TypeIs (.ref zz) "zip" := ⟨_, z0, rfl⟩
  delta pyNext
  refine wpAny_bind (wpAny_attempt (wpAny_callSpecial?_slot (name := Str.ofString "__next__") ty PySem.F.slot_zip_next (wpAny_call_entry PySem.F.slot_zip_next ty PySem.F.entry_zip_next ?_ (PySem.F.args_zip_next_1 _))))
  exact zipO_item D z0 hT t0 a0 b0 la0 lb0 eu ev fun hh g1 c1 c2 c3 c4 c5 c6 => wpAny_pure (go hh g1 c1 c2 c3 c4 c5 c6)
theorem zipO_stop {ka kb : SqK} {zz ti to ia ib la lb T : Addr} {f1 : Value} {oT : Obj} {na nb : Nat} {us vs : Array Value} {R : Option Value → Shared → Prop} (hd : Ar.handled = none) (D : ZipApart zz ti to ia ib la lb)
    (z0 : ZipW sh.heap zz ti to (rawInt T) f1) (hT : sh.heap.get? T = some oT) (t0 : IsPair sh.heap ti (.ref ia) (.ref ib)) (a0 : ka.it sh.heap ia la na) (b0 : kb.it sh.heap ib lb nb) (la0 : ka.sq sh.heap la us) (lb0 : kb.sq sh.heap lb vs) (out : us[na]? = none ∨ vs[nb]? = none)
    (go : ∀ hh, (∀ c o, c ≠ zz → c ≠ ia → c ≠ ib → sh.heap.get? c = some o → hh.get? c = some o) → R none { sh with heap := hh }) :
    wpAny (model pr ww) Ar (pyNext (.ref zz)) R Er sh := by
  have ty : sh.TypeIs (.ref zz) "zip" := ⟨_, z0, rfl⟩
  delta pyNext
  refine wpAny_bind (wpAny_attempt (wpAny_callSpecial?_slot (name := Str.ofString "__next__") ty PySem.F.slot_zip_next (wpAny_call_entry PySem.F.slot_zip_next ty PySem.F.entry_zip_next (zipO_end hd D z0 hT t0 a0 b0 la0 lb0 out fun hh b hk hb => ?_) (PySem.F.args_zip_next_1 _))))
  obtain ⟨o, e, c⟩ := hb
  exact wpAny_bind (wpAny_isInstance (T := "StopIteration") (b := true) ⟨o, e, c⟩ isSubtype_stop (wpAny_pure (go _ hk)))
end
end Cl

set_option maxHeartbeats 1000000
namespace Cl
open PySem PySem.Spec PyProof.Rows L2
/-! ### what a zip of two tuples gives, collected -/
structure ZF (h0 : Heap) (M S : Addr) (us vs : Array Value) (Ts : List Addr) (h : Heap) : Prop where
  s : ∃ c, h.get? S = some { cls := .type "list", data := .seq (Ts.map Value.ref).toArray c }
  ps : ∀ (j : Nat) (T : Addr), Ts[j]? = some T → M ≤ T ∧ ∃ u v, us[j]? = some u ∧ vs[j]? = some v ∧ IsPair h T u v
  old : ∀ c o, h0.get? c = some o → h.get? c = some o
  ord : Ts.Pairwise (fun a b : Nat => a < b)
structure ZL (h0 : Heap) (M zz ti to ia ib la lb S : Addr) (us vs : Array Value) (Ts : List Addr) (h : Heap) : Prop extends ZF h0 M S us vs Ts h where
  z : (Ts = [] ∧ IsZip h zz ti to .none) ∨ ∃ T r f1, Ts = T :: r ∧ ZipW h zz ti to (rawInt T) f1
  t : IsPair h ti (.ref ia) (.ref ib)
  o : ∃ p q, IsPair h to p q
  a : SqK.t.it h ia la Ts.length
  b : SqK.t.it h ib lb Ts.length
  sz : M ≤ h.objs.size
section
variable {pr : Program} {ww : World} {Ar : Around} {Er : Value → Shared → Prop}
theorem hint_zip {sh : Shared} {z : Addr} {Q : Bool → Shared → Prop} (ty : sh.TypeIs (.ref z) "zip") (q : Q true sh) : wpAny (model pr ww) Ar (Builtin.List.listLengthHint (.ref z)) Q Er sh := by
  unfold Builtin.List.listLengthHint
  refine wpAny_bind (wpAny_specialOf ty (r := none) rfl ?_)
  dsimp only
  rw [if_neg (by decide), if_neg (by decide)]
  refine wpAny_bind (wpAny_specialOf ty (r := none) rfl ?_)
  exact wpAny_pure q
section
variable {h0 : Heap} {M zz ti to ia ib la lb S : Addr} {us vs : Array Value} (D : ZipApart zz ti to ia ib la lb) (hd : Ar.handled = none)
  (S1 : S ≠ zz) (S2 : S ≠ to) (S3 : S ≠ ia) (S4 : S ≠ ib) (S5 : S ≠ ti) (l1 : zz < M) (l2 : to < M) (l3 : ia < M) (l4 : ib < M) (l5 : S < M)
  (n1 : h0.get? zz = none) (n2 : h0.get? to = none) (n3 : h0.get? ia = none) (n4 : h0.get? ib = none) (n5 : h0.get? S = none)
  (la0 : h0.IsTuple la us) (lb0 : h0.IsTuple lb vs) (hsz : us.size ≤ sizeLine)
include D hd S1 S2 S3 S4 S5 l1 l2 l3 l4 l5 n1 n2 n3 n4 n5 la0 lb0 hsz
theorem zl_push {Ts : List Addr} {h hh : Heap} {u v : Value} {T : Addr} (Z : ZL h0 M zz ti to ia ib la lb S us vs Ts h) (eT : T = h.objs.size) (eu : us[Ts.length]? = some u) (ev : vs[Ts.length]? = some v)
    (z1 : (∃ f1, Ts ≠ [] ∧ ∃ T0 r, Ts = T0 :: r ∧ ZipW hh zz ti to (rawInt T0) f1) ∨ (Ts = [] ∧ ∃ f1, ZipW hh zz ti to (rawInt T) f1))
    (o1 : ∃ p q, IsPair hh to p q) (a1 : SqK.t.it hh ia la (Ts.length + 1)) (b1 : SqK.t.it hh ib lb (Ts.length + 1)) (pT : IsPair hh T u v) (sz1 : hh.objs.size = h.objs.size + 1)
    (kp : ∀ c o, c ≠ zz → c ≠ to → c ≠ ia → c ≠ ib → h.get? c = some o → hh.get? c = some o) :
    ∃ c, hh.get? S = some { cls := .type "list", data := .seq (Ts.map Value.ref).toArray c } ∧
      ZL h0 M zz ti to ia ib la lb S us vs (Ts ++ [T]) (hh.update S (Obj.mapSeq fun x => x.push (.ref T))) := by
  obtain ⟨c, hS⟩ := Z.s
  have hS1 := kp S _ S1 S2 S3 S4 hS
  have up : ∀ b o, b ≠ S → hh.get? b = some o → (hh.update S (Obj.mapSeq fun x => x.push (.ref T))).get? b = some o := fun b o hb e => by
    rw [Heap.get?_update_ne _ _ _ _ hb]; exact e
  have szU : (hh.update S (Obj.mapSeq fun x => x.push (.ref T))).objs.size = hh.objs.size := Heap.size_update ..
  have msz := Z.sz
  have tM : @LE.le Nat _ M T := by rw [eT]; exact msz
  have l5' : @LT.lt Nat _ S M := l5
  have neT : T ≠ S := fun z => by have z : @Eq Nat T S := z; omega
  refine ⟨c, hS1, ⟨⟨?_, fun j U hj => ?_, fun b o e => ?_, ?_⟩, ?_, up _ _ S5.symm (kp _ _ D.TIz D.TITO D.TIi1 D.TIi2 Z.t), ?_, ?_, ?_, ?_⟩⟩
  · refine ⟨c + 1, (Heap.get?_update_self (Obj.mapSeq fun x => x.push (.ref T)) hS1 (by rfl)).trans ?_⟩
    simp [Obj.mapSeq]
  · by_cases q : j < Ts.length
    · rw [List.getElem?_append_left q] at hj
      obtain ⟨g1, u', v', g2, g3, g4⟩ := Z.ps j U hj
      have g1' : @LE.le Nat _ M U := g1
      have e1 : @LT.lt Nat _ zz M := l1
      have e2 : @LT.lt Nat _ to M := l2
      have e3 : @LT.lt Nat _ ia M := l3
      have e4 : @LT.lt Nat _ ib M := l4
      exact ⟨g1, u', v', g2, g3, up _ _ (fun z => by have z : @Eq Nat U S := z; omega) (kp _ _ (fun z => by have z : @Eq Nat U zz := z; omega) (fun z => by have z : @Eq Nat U to := z; omega) (fun z => by have z : @Eq Nat U ia := z; omega) (fun z => by have z : @Eq Nat U ib := z; omega) g4)⟩
    · rw [List.getElem?_append_right (Nat.le_of_not_lt q)] at hj
      have : j = Ts.length := by
        rcases Nat.lt_or_ge (j - Ts.length) 1 with w | w
        · omega
        · rw [List.getElem?_eq_none (by simpa using w)] at hj; cases hj
      subst this
      rw [Nat.sub_self] at hj
      injection hj with hj
      subst hj
      exact ⟨tM, u, v, eu, ev, up _ _ neT pT⟩
  · refine up b o (fun z => by rw [z, n5] at e; cases e) (kp b o (fun z => ?_) (fun z => ?_) (fun z => ?_) (fun z => ?_) (Z.old b o e))
    · rw [z, n1] at e; cases e
    · rw [z, n2] at e; cases e
    · rw [z, n3] at e; cases e
    · rw [z, n4] at e; cases e
  · refine List.pairwise_append.mpr ⟨Z.ord, List.pairwise_singleton _ _, fun a ha b hb => ?_⟩
    rw [List.mem_singleton.mp hb, eT]
    obtain ⟨j, hj⟩ := List.getElem?_of_mem ha
    obtain ⟨_, u', v', _, _, g4⟩ := Z.ps j a hj
    exact Heap.lt_size g4
  · rcases z1 with ⟨f1, _, T0, r, e, w⟩ | ⟨e, f1, w⟩
    · exact .inr ⟨T0, r ++ [T], f1, by rw [e]; rfl, up _ _ S1.symm w⟩
    · exact .inr ⟨T, [], f1, by rw [e]; rfl, up _ _ S1.symm w⟩
  · obtain ⟨p, q, w⟩ := o1
    exact ⟨p, q, up _ _ S2.symm w⟩
  · rw [List.length_append]; exact SqK.it_at a1 fun o e => up _ o S3.symm e
  · rw [List.length_append]; exact SqK.it_at b1 fun o e => up _ o S4.symm e
  · rw [szU, sz1]; exact Nat.le_succ_of_le msz
theorem zl_loop (res : Value) {R : Result → Shared → Prop} : ∀ (k : Nat) (Ts : List Addr) (s : Shared), min us.size vs.size - Ts.length = k → Ts.length ≤ min us.size vs.size → ZL h0 M zz ti to ia ib la lb S us vs Ts s.heap →
    (∀ h' Ts', Ts'.length = min us.size vs.size → ZF h0 M S us vs Ts' h' → R (.ok (.ret res)) { s with heap := h' }) →
    codeAny (model pr ww) Ar (.builtin "list.extend.loop" { pos := [.ref S, .ref zz, res] }) R s := by
  intro k
  induction k with
  | zero =>
    intro Ts s e hl Z r
    have el : Ts.length = min us.size vs.size := by omega
    have out : us[Ts.length]? = none ∨ vs[Ts.length]? = none := by
      rw [el]
      rcases Nat.le_total us.size vs.size with q | q
      · exact .inl (by rw [Nat.min_eq_left q]; simp)
      · exact .inr (by rw [Nat.min_eq_right q]; simp)
    have laT : SqK.t.sq s.heap la us := by obtain ⟨o, w1, w2⟩ := la0; exact ⟨o, Z.old _ _ w1, w2⟩
    have lbT : SqK.t.sq s.heap lb vs := by obtain ⟨o, w1, w2⟩ := lb0; exact ⟨o, Z.old _ _ w1, w2⟩
    have fin : ∀ hh, (∀ c o, c ≠ zz → c ≠ to → c ≠ ia → c ≠ ib → s.heap.get? c = some o → hh.get? c = some o) → ZF h0 M S us vs Ts hh := fun hh kp => by
      obtain ⟨c, hS⟩ := Z.s
      refine ⟨⟨c, kp S _ S1 S2 S3 S4 hS⟩, fun j U hj => ?_, fun b o e => kp b o (fun z => by rw [z, n1] at e; cases e) (fun z => by rw [z, n2] at e; cases e) (fun z => by rw [z, n3] at e; cases e) (fun z => by rw [z, n4] at e; cases e) (Z.old b o e), Z.ord⟩
      obtain ⟨g1, u', v', g2, g3, g4⟩ := Z.ps j U hj
      have g1' : @LE.le Nat _ M U := g1
      have e1 : @LT.lt Nat _ zz M := l1
      have e2 : @LT.lt Nat _ to M := l2
      have e3 : @LT.lt Nat _ ia M := l3
      have e4 : @LT.lt Nat _ ib M := l4
      exact ⟨g1, u', v', g2, g3, kp _ _ (fun z => by have z : @Eq Nat U zz := z; omega) (fun z => by have z : @Eq Nat U to := z; omega) (fun z => by have z : @Eq Nat U ia := z; omega) (fun z => by have z : @Eq Nat U ib := z; omega) g4⟩
    refine codeAny_builtin PySem.F.entry_extend_loop ?_
    unfold Builtin.«list.extend.loop»
    have hd' : (Ar.under (.builtin "list.extend.loop" { pos := [.ref S, .ref zz, res] })).handled = none := hd
    obtain ⟨p, q, ho⟩ := Z.o
    rcases Z.z with ⟨e0, z0⟩ | ⟨T0, r0, f1, e0, z0⟩
    · exact wpAny_bind (zipK_stop hd' D z0 Z.t ho Z.a Z.b laT lbT out fun hh kp => wpAny_pure (r hh Ts el (fin hh kp)))
    · obtain ⟨_, u', v', _, _, hT⟩ := Z.ps 0 T0 (by rw [e0]; rfl)
      exact wpAny_bind (zipO_stop hd' D z0 hT Z.t Z.a Z.b laT lbT out fun hh kp => wpAny_pure (r hh Ts el (fin hh fun c o c1 _ c3 c4 e => kp c o c1 c3 c4 e)))
  | succ k ih =>
    intro Ts s e hl Z r
    have lt : Ts.length < min us.size vs.size := by omega
    have ltu : Ts.length < us.size := Nat.lt_of_lt_of_le lt (Nat.min_le_left ..)
    have ltv : Ts.length < vs.size := Nat.lt_of_lt_of_le lt (Nat.min_le_right ..)
    have eu := Array.getElem?_eq_getElem ltu
    have ev := Array.getElem?_eq_getElem ltv
    generalize us[Ts.length] = u at eu
    generalize vs[Ts.length] = v at ev
    have laT : SqK.t.sq s.heap la us := by obtain ⟨o, w1, w2⟩ := la0; exact ⟨o, Z.old _ _ w1, w2⟩
    have lbT : SqK.t.sq s.heap lb vs := by obtain ⟨o, w1, w2⟩ := lb0; exact ⟨o, Z.old _ _ w1, w2⟩
    have go : ∀ hh, ((∃ f1, Ts ≠ [] ∧ ∃ T0 r, Ts = T0 :: r ∧ ZipW hh zz ti to (rawInt T0) f1) ∨ (Ts = [] ∧ ∃ f1, ZipW hh zz ti to (rawInt s.heap.objs.size) f1)) → (∃ p q, IsPair hh to p q) → SqK.t.it hh ia la (Ts.length + 1) →
        SqK.t.it hh ib lb (Ts.length + 1) → IsPair hh s.heap.objs.size u v → hh.objs.size = s.heap.objs.size + 1 → (∀ c o, c ≠ zz → c ≠ to → c ≠ ia → c ≠ ib → s.heap.get? c = some o → hh.get? c = some o) →
        wpAny (model pr ww) (Ar.under (.builtin "list.extend.loop" { pos := [.ref S, .ref zz, res] })) (do
          Builtin.List.listUpdate (.ref S) fun x_1 => x_1.push (.ref s.heap.objs.size)
          again (.builtin "list.extend.loop" { pos := [.ref S, .ref zz, res] })) (fun fin s' => match fin with
          | .done f => R (.ok f) s'
          | .again c' => c'.quiet = true ∧ codeAny (model pr ww) Ar c' R s') (fun e s' => R (.error e) s') { s with heap := hh } := fun hh z1 o1 a1 b1 pT sz1 kp => by
      obtain ⟨c, hS, Z2⟩ := zl_push D hd S1 S2 S3 S4 S5 l1 l2 l3 l4 l5 n1 n2 n3 n4 n5 la0 lb0 hsz Z rfl eu ev z1 o1 a1 b1 pT sz1 kp
      refine wpAny_bind (m := Builtin.List.listUpdate _ _) (wpAny_updateSeq hS rfl ?_ (by simp; omega) (by simp; omega))
      refine wpAny_pure ⟨plainId_quiet PySem.F.plain_extend_loop _, ?_⟩
      exact ih (Ts ++ [s.heap.objs.size]) _ (by rw [List.length_append]; simp; omega) (by rw [List.length_append]; simp; omega) Z2 r
    refine codeAny_builtin PySem.F.entry_extend_loop ?_
    unfold Builtin.«list.extend.loop»
    obtain ⟨p, q, ho⟩ := Z.o
    rcases Z.z with ⟨e0, z0⟩ | ⟨T0, r0, f1, e0, z0⟩
    · refine wpAny_bind (zipK_next D z0 Z.t ho Z.a Z.b laT lbT eu ev fun hh c1 c2 c3 c4 c5 c6 c7 => ?_)
      exact go hh (.inr ⟨e0, _, c1⟩) ⟨_, _, c2⟩ c3 c4 c5 c6 c7
    · obtain ⟨_, u', v', _, _, hT⟩ := Z.ps 0 T0 (by rw [e0]; rfl)
      obtain ⟨_, _, hto⟩ : ∃ p q, IsPair s.heap to p q := ⟨p, q, ho⟩
      refine wpAny_bind (zipO_next D z0 hT Z.t Z.a Z.b laT lbT eu ev fun hh g1 c1 c3 c4 c5 c6 c7 => ?_)
      exact go hh (.inl ⟨g1, by rw [e0]; exact nofun, T0, r0, e0, c1⟩) ⟨p, q, c7 _ _ D.TOz D.TOi1 D.TOi2 ho⟩ c3 c4 c5 c6 fun c o d1 _ d3 d4 e => c7 c o d1 d3 d4 e
end
end
end Cl

set_option maxHeartbeats 1000000
namespace Cl
open PySem PySem.Spec PyProof.Rows L2
/-! ### many tuples laid at once -/
def cutH (h : Heap) (n : Nat) : Heap := { h with objs := h.objs.extract 0 n }
theorem cutH_get {h : Heap} {n a : Nat} (l : a < n) : (cutH h n).get? a = h.get? a := by
  unfold cutH Heap.get?
  have : (h.objs.extract 0 n)[a]? = h.objs[a]? := by
    rw [Array.getElem?_extract]
    by_cases q : a < min n h.objs.size - 0
    · rw [if_pos q]; congr 1; omega
    · rw [if_neg q, Array.getElem?_eq_none (by omega)]
  simp [this]
theorem cutH_lt {h : Heap} {n a : Nat} {o : Obj} (e : (cutH h n).get? a = some o) : a < n := by
  have := Heap.lt_size e
  have q : (cutH h n).objs.size ≤ n := by
    show (h.objs.extract 0 n).size ≤ n
    rw [Array.size_extract]; omega
  exact Nat.lt_of_lt_of_le this q
def manyH (H : Hp) : List (Addr × List V) → Hp
  | [] => H
  | w :: ws => manyH (upd H w.1 (.tup w.2)) ws
theorem hok_many {P : Program} {w : World} {h' : Heap} : ∀ (ws : List (Addr × List V)) (H : Hp) (h : Heap), HOk P w H h → (∀ b u, h.get? b = some u → h'.get? b = some u) → (ws.map (·.1)).Pairwise (fun a b : Nat => a < b) →
    (∀ x ∈ ws, h.objs.size ≤ x.1) → (∀ x ∈ ws, x.2.length ≤ sizeLine ∧ ∃ its, Vals x.2 its ∧ ∃ o, h'.get? x.1 = some o ∧ o.cls = .type "tuple" ∧ ∃ n, o.data = .seq its.toArray n) → HOk P w (manyH H ws) h'
  | [], H, h, ok, kp, _, _, _ => by
    exact ok.kept kp
  | x :: ws, H, h, ok, kp, asc, new, ht => by
    obtain ⟨a1, a2⟩ := List.pairwise_cons.mp asc
    obtain ⟨q1, its, q2, o, q3, q4, n, q5⟩ := ht x List.mem_cons_self
    have nx := new x List.mem_cons_self
    have kp1 : ∀ b u, h.get? b = some u → (cutH h' (x.1 + 1)).get? b = some u := fun b u e => by
      have := Heap.lt_size e
      rw [cutH_get (Nat.lt_succ_of_lt (Nat.lt_of_lt_of_le this nx))]
      exact kp b u e
    have ok1 := ok.laid kp1 nx (o := .tup x.2) ⟨q1, its, q2, o, by rw [cutH_get (Nat.lt_succ_self _)]; exact q3, q4, n, q5⟩
    refine hok_many ws _ (cutH h' (x.1 + 1)) ok1 (fun b u e => by rw [cutH_get (cutH_lt e)] at e; exact e) a2 (fun y hy => ?_) fun y hy => ht y (List.mem_cons_of_mem _ hy)
    have l := a1 y.1 (List.mem_map.mpr ⟨y, hy, rfl⟩)
    have q : (cutH h' (x.1 + 1)).objs.size ≤ x.1 + 1 := by
      show (h'.objs.extract 0 (x.1 + 1)).size ≤ x.1 + 1
      rw [Array.size_extract]; omega
    exact Nat.le_trans q l
theorem manyH_ne : ∀ (ws : List (Addr × List V)) (H : Hp) (b : Addr), (∀ x ∈ ws, x.1 ≠ b) → manyH H ws b = H b
  | [], H, b, _ => rfl
  | x :: ws, H, b, h => by
    show manyH (upd H x.1 (.tup x.2)) ws b = H b
    rw [manyH_ne ws _ b fun y hy => h y (List.mem_cons_of_mem _ hy), upd_ne (fun z => h x List.mem_cons_self z.symm)]
theorem manyH_at : ∀ (ws : List (Addr × List V)) (H : Hp), (ws.map (·.1)).Pairwise (fun a b : Nat => a < b) → ∀ x ∈ ws, manyH H ws x.1 = some (.tup x.2)
  | y :: ws, H, asc, x, hx => by
    obtain ⟨a1, a2⟩ := List.pairwise_cons.mp asc
    rcases List.mem_cons.mp hx with z | z
    · subst z
      show manyH (upd H x.1 (.tup x.2)) ws x.1 = _
      rw [manyH_ne ws _ x.1 fun u hu e => by
        have := a1 u.1 (List.mem_map.mpr ⟨u, hu, rfl⟩)
        rw [e] at this
        exact Nat.lt_irrefl _ this]
      exact upd_same
    · exact manyH_at ws _ a2 x z
theorem inv_many {X : Cx} {pins : List (Addr × Obj)} {σ : L2.St} {H : Hp} {s : Shared} (I : Inv X pins σ H s) {h' : Heap} {tk : Nat} (kp : ∀ b u, s.heap.get? b = some u → h'.get? b = some u) (ws : List (Addr × List V))
    (asc : (ws.map (·.1)).Pairwise (fun a b : Nat => a < b)) (new : ∀ x ∈ ws, s.heap.objs.size ≤ x.1)
    (ht : ∀ x ∈ ws, x.2.length ≤ sizeLine ∧ ∃ its, Vals x.2 its ∧ ∃ o, h'.get? x.1 = some o ∧ o.cls = .type "tuple" ∧ ∃ n, o.data = .seq its.toArray n) :
    Inv X pins σ (manyH H ws) { s with heap := h', toks := tk } ∧ Same H (manyH H ws) := by
  have old : ∀ b o, H b = some o → manyH H ws b = some o := fun b o e => by
    rw [manyH_ne ws H b fun x hx z => ?_]
    · exact e
    · have := I.hok.fresh (new x hx)
      rw [z, e] at this
      cases this
  have bel : ∀ b u, s.heap.get? b = some u → manyH H ws b = H b := fun b u e => manyH_ne ws H b fun x hx z => by
    have l := Heap.lt_size e
    have := new x hx
    rw [z] at this
    exact absurd l (Nat.not_lt.mpr this)
  refine ⟨I.call (ch := []) ⟨fun b o e _ _ _ => kp b o e, fun b o e _ _ _ => ⟨o.slots, kp b o e⟩, fun b o e h _ => by rw [bel b o e]; exact h, fun b o e _ => ⟨o, kp b o e⟩, fun b xs e => old b _ e, fun b o u e => old b _ e, fun b ps e => ⟨#[], by rw [old b _ e]; simp⟩⟩
    (hok_many ws H s.heap I.hok kp asc new ht) I.bare (fun _ z => nomatch z), fun b o e => ?_⟩
  exact Keep.of (old b o e)
end Cl

set_option maxHeartbeats 1000000
namespace Cl
open PySem PySem.Spec PyProof.Rows L2
/-! ### tuple(zip(a, b)), a and b tuples -/
section
variable {pr : Program} {ww : World} {Ar : Around} {Er : Value → Shared → Prop}
theorem touch_list {s : Shared} {S : Addr} {c : Nat} {Q : Unit → Shared → Prop} (hS : s.heap.get? S = some { cls := .type "list", data := .seq #[] c })
    (q : ∀ h' c', h'.get? S = some { cls := .type "list", data := .seq #[] c' } → Heap.SameBut S s.heap h' → Q () { s with heap := h' }) :
    wpAny (model pr ww) Ar (Builtin.List.listTouch (.ref S)) Q Er s := by
  unfold Builtin.List.listTouch
  refine wpAny_bind (m := Builtin.List.listUpdate _ _) (wpAny_updateSeq hS rfl ?_ (by decide) (by decide))
  have g1 : (s.heap.update S (Obj.mapSeq fun x => x.push Value.none)).get? S = some { cls := .type "list", data := .seq #[.none] (c + 1) } :=
    (Heap.get?_update_self (Obj.mapSeq fun x => x.push Value.none) hS (by rfl)).trans (by simp [Obj.mapSeq])
  refine wpAny_updateSeq (s := { s with heap := s.heap.update S (Obj.mapSeq fun x => x.push Value.none) }) g1 rfl ?_ (by decide) (by decide)
  have s1 := Heap.SameBut.update s.heap S (Obj.mapSeq fun x => x.push Value.none)
  have s2 := Heap.SameBut.update (s.heap.update S (Obj.mapSeq fun x => x.push Value.none)) S (Obj.mapSeq fun x => x.pop)
  refine q _ (c + 2) ((Heap.get?_update_self (Obj.mapSeq fun x => x.pop) g1 (by rfl)).trans (by simp [Obj.mapSeq])) ⟨s2.1.trans s1.1, fun b hb => (s2.2 b hb).trans (s1.2 b hb)⟩
theorem collect_zip {s : Shared} {h0 : Heap} {zz ti to ia ib la lb : Addr} {us vs : Array Value} {p q : Value} {Q : List Value → Shared → Prop} (D : ZipApart zz ti to ia ib la lb) (hd : Ar.handled = none)
    (n1 : h0.get? zz = none) (n2 : h0.get? to = none) (n3 : h0.get? ia = none) (n4 : h0.get? ib = none) (old : ∀ c o, h0.get? c = some o → s.heap.get? c = some o) (n5 : h0.get? s.heap.objs.size = none)
    (la0 : h0.IsTuple la us) (lb0 : h0.IsTuple lb vs) (hsz : us.size ≤ sizeLine) (z0 : IsZip s.heap zz ti to .none) (t0 : IsPair s.heap ti (.ref ia) (.ref ib)) (o0 : IsPair s.heap to p q)
    (a0 : s.heap.IsTupleIter ia la 0) (b0 : s.heap.IsTupleIter ib lb 0)
    (go : ∀ h' Ts, Ts.length = min us.size vs.size → ZF h0 (s.heap.objs.size + 1) s.heap.objs.size us vs Ts h' → Q (Ts.map Value.ref) { s with heap := h' }) :
    wpAny (model pr ww) Ar (collect (.ref zz)) Q Er s := by
  have l1 := Heap.lt_size z0
  have l2 := Heap.lt_size o0
  have l5 := Heap.lt_size t0
  obtain ⟨oa, ea, _⟩ := id a0
  obtain ⟨ob, eb, _⟩ := id b0
  have l3 := Heap.lt_size ea
  have l4 := Heap.lt_size eb
  unfold collect
  refine wpAny_bind (wpAny_runValue (codeAny_builtin PySem.F.entry_proto_collect ?_))
  unfold Builtin.«proto.collect»
  refine wpAny_bind (wpAny_newList ?_ (by simp))
  refine wpAny_pure ⟨plainId_quiet PySem.F.plain_list_iadd _, codeAny_builtin PySem.F.entry_list_iadd ?_⟩
  unfold Builtin.«list.__iadd__»
  refine wpAny_bind (m := slotArgs _ _ _) (wpAny_pure ?_)
  dsimp only
  unfold Builtin.List.listExtendWith
  obtain ⟨S, eS⟩ : ∃ S, S = s.heap.objs.size := ⟨_, rfl⟩
  rw [← eS] at l1 l2 l3 l4 l5 n5 go ⊢
  have gS : (s.heap.push (seqObj "list" [].toArray 0)).get? S = some { cls := .type "list", data := .seq #[] 0 } := by rw [eS]; exact Heap.get?_push_size _ rfl
  have up : ∀ c o, s.heap.get? c = some o → (s.heap.push (seqObj "list" [].toArray 0)).get? c = some o := fun c o e => Heap.get?_push_of_some _ e
  have ty : ∀ tk, ({ s with heap := s.heap.push (seqObj "list" [].toArray 0), toks := tk } : Shared).TypeIs (.ref zz) "zip" := fun tk => ⟨_, up _ _ z0, rfl⟩
  have ne : S ≠ zz := fun z => Nat.lt_irrefl _ (z ▸ l1)
  refine wpAny_bind (wpAny_typeOf (ty _) ?_)
  rw [if_neg (by
    show ¬ ((S == zz || Value.type "zip" == Value.type "list" || Value.type "zip" == Value.type "tuple") = true)
    rw [beq_eq_false_iff_ne.mpr ne]
    decide)]
  refine wpAny_bind (wpAny_pyIter_zip (up _ _ z0) ?_)
  refine wpAny_bind (wpAny_holding (hint_zip (ty _) ?_))
  dsimp only
  rw [if_pos (Bool.true_or _)]
  refine wpAny_bind (wpAny_rule ?_)
  refine wpAny_bind (touch_list gS fun h1 c1 g1 sb => ?_)
  refine wpAny_pure ⟨plainId_quiet PySem.F.plain_extend_loop _, ?_⟩
  have kp : ∀ c o, s.heap.get? c = some o → h1.get? c = some o := fun c o e => by
    rw [sb.2 c fun z => by rw [z, eS] at e; exact absurd (Heap.lt_size e) (Nat.lt_irrefl _)]
    exact up c o e
  have sz1 : h1.objs.size = S + 1 := by rw [sb.1, eS]; exact Array.size_push ..
  have lS : ∀ {x : Addr}, x < S → x < S + 1 := fun h => Nat.lt_succ_of_lt h
  refine zl_loop (M := S + 1) D hd ne (fun z => Nat.lt_irrefl _ (z ▸ l2)) (fun z => Nat.lt_irrefl _ (z ▸ l3)) (fun z => Nat.lt_irrefl _ (z ▸ l4)) (fun z => Nat.lt_irrefl _ (z ▸ l5)) (lS l1) (lS l2) (lS l3) (lS l4) (Nat.lt_succ_self S)
    n1 n2 n3 n4 n5 la0 lb0 hsz (.ref S) _ [] _ rfl (Nat.zero_le _)
    ⟨⟨⟨c1, g1⟩, fun j T e => (nomatch e), fun c o e => kp c o (old c o e), .nil⟩, .inl ⟨rfl, kp _ _ z0⟩, kp _ _ t0, ⟨_, _, kp _ _ o0⟩, SqK.it_at (k := .t) a0 fun o e => kp _ o e, SqK.it_at (k := .t) b0 fun o e => kp _ o e, Nat.le_of_eq sz1.symm⟩
    fun h' Ts el F => ?_
  obtain ⟨c, hS'⟩ := F.s
  dsimp only
  refine wpAny_bind (wpAny_load hS' ?_)
  dsimp only
  exact wpAny_pure (by simpa using go h' Ts el F)
end
end Cl

set_option maxHeartbeats 1000000
namespace Cl
open PySem PySem.Spec PyProof.Rows L2
/-! ### the rule of tuple(zip(a, b)), a and b tuples -/
def tTupZip (K : PySem.W.Frag) (ta : TA) : TE := fun σ H Q => ta σ H fun vs H1 => ∃ a b xs ys, vs = [.ref a, .ref b] ∧ SqT K H1 a xs ∧ SqT K H1 b ys ∧
  ∀ (Ts : List Addr) (p : Addr) (H' : Hp), Same H1 H' → Ts.length = min xs.length ys.length →
    (∀ (j : Nat) (T : Addr), Ts[j]? = some T → H1 T = none ∧ ∃ x y, xs[j]? = some x ∧ ys[j]? = some y ∧ H' T = some (.tup [x, y])) → H1 p = none → H' p = some (.tup (Ts.map V.ref)) → Q (.ref p) H'
theorem pe_tupZip {X : Cx} {e e2 : Expr} {ta : TA} {p p2 q pos : Pos} (hc : X.calm = true) (hg : Gl X "tuple") (hm : X.mg "tuple" = none) (hg2 : Gl X "zip") (hm2 : X.mg "zip" = none) (ha : PA X [e, e2] ta)
    (hs1 : starEach [.Call (.Name "zip" p2) [e, e2] [] q] X.env = (false, eval (.Call (.Name "zip" p2) [e, e2] [] q) X.env) :: starEach [] X.env := by rfl)
    (hpl1 : (backTo pos (starEach [] X.env)).any (·.1) = false := by rfl)
    (hs : starEach [e, e2] X.env = (false, eval e X.env) :: starEach [e2] X.env := by rfl) (hpl : (backTo q (starEach [e2] X.env)).any (·.1) = false := by rfl) :
    PE X (.Call (.Name "tuple" p) [.Call (.Name "zip" p2) [e, e2] [] q] [] pos) (tTupZip X.K ta) := by
  refine ⟨fun pins s σ H Q I h => Call_ (ld_blt I hg hm PyProof.Rows.boot_tuple (PyProof.Rows.callWith_type1 (PyProof.Rows.args_cons (Call_ (ld_blt I hg2 hm2 PyProof.Rows.boot_zip (PyProof.Rows.callWith_type1 (thn (ha.run q pins s σ H _ I h) fun ws s1 hz => ?_) hs hpl))) hs1) hs1 hpl1))⟩
  obtain ⟨vs, H1, I1, rr, a, b, xs, ys, rfl, gx, gy, qq⟩ := hz
  obtain ⟨w1, w2, rfl, r1, r2⟩ := vals2 rr
  cases r1
  cases r2
  obtain ⟨us, ru, pu, zu⟩ := I1.tuple gx
  obtain ⟨vs, rv, pv, zv⟩ := I1.tuple gy
  obtain ⟨o1, ho1, _⟩ := id pu
  obtain ⟨o2, ho2, _⟩ := id pv
  refine RZ.call_zipT pu pv fun hh z0 t0 o0 a0 b0 szh hk => ?_
  refine PyProof.Rows.args_nil ?_
  have D := PySem.W.ktu_apart s1.heap.objs.size a b (Heap.lt_size ho1) (Heap.lt_size ho2)
  have none_of : ∀ k, s1.heap.get? (s1.heap.objs.size + k) = none := fun k => by
    cases qn : s1.heap.get? (s1.heap.objs.size + k) with
    | none => rfl
    | some o => exact absurd (Heap.lt_size qn) (Nat.not_lt.mpr (Nat.le_add_right _ _))
  have ty : ({ s1 with heap := hh } : Shared).TypeIs (.ref (s1.heap.objs.size + 4)) "zip" := ⟨_, z0, rfl⟩
  refine call_tuple_any (T := "zip") ty (by decide) fun E' => ?_
  refine collect_zip (s := { s1 with heap := hh }) (h0 := s1.heap) D (I1.ok.hd hc) (none_of 4) (none_of 3) (none_of 0) (none_of 1) hk (by rw [szh]; exact none_of 5) pu pv (by simpa using (ru.length ▸ zu)) z0 t0 o0 a0 b0 fun h' Ts el F => ?_
  have lx := ru.length
  have ly := rv.length
  have el2 : Ts.length = min xs.length ys.length := by rw [el]; simp [lx, ly]
  refine ⟨by rw [List.length_map, el2]; omega, ?_⟩
  obtain ⟨hF, eF⟩ : ∃ hF, hF = h'.push { cls := .type "tuple", data := .seq (List.map Value.ref Ts).toArray } := ⟨_, rfl⟩
  obtain ⟨ws, ew⟩ : ∃ ws : List (Addr × List V), ws = List.zipWith (fun T (xy : V × V) => (T, [xy.1, xy.2])) Ts (xs.zip ys) := ⟨_, rfl⟩
  have lz : (xs.zip ys).length = Ts.length := by rw [List.length_zip, el2]
  have at_ : ∀ (j : Nat) (T : Addr), Ts[j]? = some T → ∃ x y, xs[j]? = some x ∧ ys[j]? = some y ∧ ws[j]? = some (T, [x, y]) := fun j T hT => by
    have lj := (List.getElem?_eq_some_iff.mp hT).1
    have jx : j < xs.length := by omega
    have jy : j < ys.length := by omega
    refine ⟨xs[j], ys[j], List.getElem?_eq_getElem jx, List.getElem?_eq_getElem jy, ?_⟩
    have ez : (xs.zip ys)[j]? = some (xs[j], ys[j]) := List.getElem?_zip_eq_some.mpr ⟨List.getElem?_eq_getElem jx, List.getElem?_eq_getElem jy⟩
    rw [ew, List.getElem?_zipWith, hT, ez]
  have lw : ws.length = Ts.length := by rw [ew, List.length_zipWith, lz, Nat.min_self]
  have mw : ws.map (·.1) = Ts := by
    apply List.ext_getElem?
    intro j
    rw [List.getElem?_map]
    cases hT : Ts[j]? with
    | none => rw [List.getElem?_eq_none (by rw [lw]; exact List.getElem?_eq_none_iff.mp hT)]; rfl
    | some T =>
      obtain ⟨x, y, _, _, h3⟩ := at_ j T hT
      rw [h3]; rfl
  obtain ⟨cS, hS⟩ := F.s
  have pS := Heap.lt_size hS
  have szh' : @Eq Nat hh.objs.size (s1.heap.objs.size + 5) := szh
  have pS' : @LT.lt Nat _ hh.objs.size h'.objs.size := pS
  have newT : ∀ (j : Nat) (T : Addr), Ts[j]? = some T → s1.heap.objs.size ≤ T := fun j T hT => by
    have g1 : @LE.le Nat _ (hh.objs.size + 1) T := (F.ps j T hT).1
    show @LE.le Nat _ s1.heap.objs.size T
    omega
  have up : ∀ c o, h'.get? c = some o → hF.get? c = some o := fun c o e => by rw [eF]; exact Heap.get?_push_of_some _ e
  have gp : hF.get? h'.objs.size = some { cls := .type "tuple", data := .seq (List.map Value.ref Ts).toArray } := by rw [eF]; exact Heap.get?_push_size _ rfl
  have vr : ∀ M : List Addr, Vals (M.map V.ref) (M.map Value.ref) := fun M => by
    induction M with
    | nil => exact .nil
    | cons q M ih => exact .cons rfl ih
  obtain ⟨I2, SM⟩ := inv_many (tk := s1.toks) I1 (h' := hF) (fun b u e => up _ _ (F.old b u e)) (ws ++ [(h'.objs.size, Ts.map V.ref)]) (by
      rw [List.map_append, mw]
      refine List.pairwise_append.mpr ⟨F.ord, List.pairwise_singleton _ _, fun a1 ha1 b1 hb1 => ?_⟩
      rw [List.mem_singleton.mp hb1]
      obtain ⟨j, hj⟩ := List.getElem?_of_mem ha1
      obtain ⟨_, _, _, _, _, g4⟩ := F.ps j a1 hj
      exact Heap.lt_size g4) (fun x hx => by
      rcases List.mem_append.mp hx with z | z
      · have : x.1 ∈ Ts := by rw [← mw]; exact List.mem_map.mpr ⟨x, z, rfl⟩
        obtain ⟨j, hj⟩ := List.getElem?_of_mem this
        exact newT j _ hj
      · rw [List.mem_singleton.mp z]
        show @LE.le Nat _ s1.heap.objs.size h'.objs.size
        omega) (fun x hx => by
      rcases List.mem_append.mp hx with z | z
      · obtain ⟨j, hj⟩ := List.getElem?_of_mem z
        have lj := (List.getElem?_eq_some_iff.mp hj).1
        rw [lw] at lj
        obtain ⟨xv, yv, h1, h2, h3⟩ := at_ j _ (List.getElem?_eq_getElem lj)
        rw [hj] at h3
        injection h3 with h3
        subst h3
        obtain ⟨_, u, v, g2, g3, g4⟩ := F.ps j _ (List.getElem?_eq_getElem lj)
        obtain ⟨u', eu, ru'⟩ := ru.get h1
        obtain ⟨v', ev, rv'⟩ := rv.get h2
        have e1 : u = u' := by
          rw [List.getElem?_toArray, eu] at g2
          exact (Option.some.inj g2).symm
        have e2' : v = v' := by
          rw [List.getElem?_toArray, ev] at g3
          exact (Option.some.inj g3).symm
        subst e1 e2'
        exact ⟨by show 2 ≤ sizeLine; decide, [u, v], .cons ru' (.cons rv' .nil), _, up _ _ g4, rfl, 0, rfl⟩
      · rw [List.mem_singleton.mp z]
        exact ⟨by show (Ts.map V.ref).length ≤ sizeLine; rw [List.length_map, el2]; omega, Ts.map Value.ref, vr Ts, _, gp, rfl, 0, rfl⟩)
  have asc : ((ws ++ [(h'.objs.size, Ts.map V.ref)]).map (·.1)).Pairwise (fun a b : Nat => a < b) := by
    rw [List.map_append, mw]
    refine List.pairwise_append.mpr ⟨F.ord, List.pairwise_singleton _ _, fun a1 ha1 b1 hb1 => ?_⟩
    rw [List.mem_singleton.mp hb1]
    obtain ⟨j, hj⟩ := List.getElem?_of_mem ha1
    obtain ⟨_, _, _, _, _, g4⟩ := F.ps j a1 hj
    exact Heap.lt_size g4
  have fin := qq Ts h'.objs.size _ SM el2 (fun j T hT => by
    obtain ⟨x, y, h1, h2, h3⟩ := at_ j T hT
    exact ⟨I1.hok.fresh (newT j T hT), x, y, h1, h2, manyH_at _ H1 asc (T, [x, y]) (List.mem_append_left _ (List.mem_of_getElem? h3))⟩)
    (I1.hok.fresh (by show @LE.le Nat _ s1.heap.objs.size h'.objs.size; omega)) (manyH_at _ H1 asc (h'.objs.size, Ts.map V.ref) (List.mem_append_right _ (List.mem_singleton.mpr rfl)))
  rw [← eF]
  exact ⟨.ref h'.objs.size, _, I2, rfl, fin⟩
end Cl

/-! sorted(list) and sorted(tuple) of objects of a kind. -/
namespace SG
open PySem PySem.Spec PyProof.Rows L2 Cl
section
variable {P : Program} {w : World} {K : Type} [DecidableEq K] {knd : SKind P w K} {A : Around} {E : Value → Shared → Prop} {s : Shared} {a : Addr} {L : List (Addr × K)}
  {es : Array (Int × Value)} {ep : Nat} {t : SetTable} {Q : Value → Shared → Prop}
theorem sorted_seqG {T : String} {o : Obj} {items : Array Value} {n : Nat} (hT : T = "list" ∨ T = "tuple") (ho : s.heap.get? a = some o) (hcl : o.cls = .type T) (hdt : o.data = .seq items n) (hit : items.toList = L.map fun q => Value.ref q.1) (hlen : L.length ≤ 100000)
    (hh : A.handled = none) (enc : K → PyData) (dd : Nat) (hrd : ∀ {h k b}, knd.is h k b → Reads h (.ref b) (enc k) []) (htup : ∀ p ∈ L, knd.is s.heap p.2 p.1)
    (hal : PySem.W.AllAlike (L.map fun p => enc p.2)) (hso : PySem.W.Sortable (L.map fun p => enc p.2)) (hdp : ∀ p ∈ L, (enc p.2).depth ≤ dd) (hu : A.units + 8 + dd < cLine)
    (hQ : ∀ s' (h1 : Heap) (out : Array Value) (c : Nat) (L' : List (Addr × K)), (∀ b o, s.heap.get? b = some o → h1.get? b = some o) → (∀ b o, h1.get? b = some o → s'.heap.get? b = some o) →
      s'.gens = s.gens → s'.os = s.os → s'.heap.get? h1.objs.size = some (seqObj "list" out c) →
      out.toList = L'.map (fun q => Value.ref q.1) → L'.Perm L → L'.Pairwise (leG enc) → Q (.ref h1.objs.size) s') :
    wpAny (model P w) A (call (.builtin "sorted") [.ref a]) Q E s := by
  refine Calls.call_function_entry kind_sorted plain_sorted entry_sorted (args_sorted1 _) ?_
  unfold Builtin.«sorted»
  refine wpAny_bind (m := checkCount "sorted" 1 1 _) (wpAny_pure ?_)
  have hli : items.size ≤ sizeLine := by rw [← Array.length_toList, hit, List.length_map, sizeLine_eq]; omega
  refine wpAny_bind (wpAny_collect_seq a hT ho hcl hdt (fun h1 k1 => ?_) hli)
  obtain ⟨s1, es1⟩ : ∃ s1 : Shared, s1 = { s with heap := h1 } := ⟨_, rfl⟩
  have k1 : ∀ b o, s.heap.get? b = some o → s1.heap.get? b = some o := by rw [es1]; exact k1
  have g1 : s1.gens = s.gens := by rw [es1]
  have o1 : s1.os = s.os := by rw [es1]
  rw [← es1]
  obtain ⟨vs, ev⟩ : ∃ vs, vs = items.toList := ⟨_, rfl⟩
  rw [← ev]
  have pm : vs.Perm (L.map fun q => Value.ref q.1) := by rw [ev, hit]
  obtain ⟨L1, e1, p1⟩ := perm_refs pm L rfl
  have n1 : vs.length = L.length := by rw [e1, List.length_map, p1.length_eq]
  have small : vs.length ≤ sizeLine := by rw [sizeLine_eq]; omega
  refine wpAny_bind (wpAny_newList ?_ small)
  have oL : (s1.heap.push (seqObj "list" vs.toArray 0)).get? s1.heap.objs.size = some (seqObj "list" vs.toArray 0) := Heap.get?_push_size _ rfl
  have reads : ∀ q ∈ L, Reads (s1.heap.push (seqObj "list" vs.toArray 0)) (.ref q.1) (enc q.2) [] := fun q hq =>
    hrd (knd.keep (htup q hq) fun c o' hc _ => Heap.get?_push_of_some _ (k1 _ _ hc))
  have each : ∀ l : List (Addr × K), (∀ q ∈ l, q ∈ L) → PySem.W.EachIs (fun (v : Value) (q : Addr × K) => v = .ref q.1) (l.map fun q => Value.ref q.1) l ∧
      PySem.W.EachIs (fun v q => ∃ as, Reads (s1.heap.push (seqObj "list" vs.toArray 0)) v ((fun q : Addr × K => enc q.2) q) as ∧ s1.heap.objs.size ∉ as) (l.map fun q => Value.ref q.1) l := by
    intro l
    induction l with
    | nil => intro _; exact ⟨.nil, .nil⟩
    | cons q l ih =>
      intro h
      obtain ⟨i1, i2⟩ := ih fun r hr => h r (List.mem_cons_of_mem _ hr)
      exact ⟨.cons rfl i1, .cons ⟨[], reads q (h q List.mem_cons_self), fun z => nomatch z⟩ i2⟩
  obtain ⟨c1, c2⟩ := each L1 fun q hq => p1.mem_iff.mp hq
  rw [← e1] at c1 c2
  have sub : ∀ d ∈ L1.map (fun q : Addr × K => enc q.2), d ∈ L.map fun p => enc p.2 := fun d hd => ((p1.map fun p : Addr × K => enc p.2).mem_iff).mp hd
  have hso1 : PySem.W.Sortable (L1.map fun q : Addr × K => enc q.2) := by
    rcases hso with h | h
    · exact .inl fun d hd => h d (sub d hd)
    · exact .inr fun d hd => h d (sub d hd)
  refine wpAny_bind (wpAny_holding (PySem.W.list_sort_data (s := { s1 with heap := s1.heap.push (seqObj "list" vs.toArray 0) }) (enc := fun q : Addr × K => enc q.2) oL c1 c2 (fun d hd d' hd' => hal d (sub d hd) d' (sub d' hd')) hso1 (by rw [p1.length_eq, sizeLine_eq]; omega)
    (fun b hb => by have := hdp b (p1.mem_iff.mp hb); show A.units + 1 + 1 + (enc b.2).depth < cLine; omega) fun out a1 a2 => ?_))
  obtain ⟨c, hc⟩ := sortedHeap_at (vs := vs) (out := out.toArray) oL
  have eo : out = (L1.mergeSort (PySem.W.dataLe false fun q : Addr × K => enc q.2)).map fun q => Value.ref q.1 := by
    revert a2
    generalize L1.mergeSort (PySem.W.dataLe false fun q : Addr × K => enc q.2) = M
    intro a2
    clear hc a1
    induction a2 with
    | nil => rfl
    | cons h t ih => rw [List.map_cons, ← ih, h]
  have pM : (L1.mergeSort (PySem.W.dataLe false fun q : Addr × K => enc q.2)).Perm L := (List.mergeSort_perm _ _).trans p1
  have tot : PySem.W.TotalLe (PySem.W.dataLe false fun q : Addr × K => enc q.2) := PySem.W.sortLe_total ..
  have pw : (L1.mergeSort (PySem.W.dataLe false fun q : Addr × K => enc q.2)).Pairwise (leG enc) :=
    List.pairwise_mergeSort tot.trans (fun x y => by rw [Bool.or_eq_true]; exact tot.total x y) L1
  refine wpAny_pure ⟨_, rfl, hQ _ s1.heap out.toArray c _ k1 (fun b u e5 => ?_) g1 o1 hc eo pM pw⟩
  have lt5 := Heap.lt_size e5
  show (sortedHeap (s1.heap.push (seqObj "list" vs.toArray 0)) s1.heap.objs.size vs out.toArray).get? b = some u
  rw [sortedHeap_old (Nat.ne_of_lt lt5) (by rw [show (s1.heap.push (seqObj "list" vs.toArray 0)).objs.size = s1.heap.objs.size + 1 from Array.size_push ..]; exact Nat.lt_succ_of_lt lt5)]
  exact Heap.get?_push_of_some _ e5
end
section
variable {X : Cx} {K : Type} [DecidableEq K] (knd : SKind X.prog X.w K) (el : Hp → Addr → K → Prop) (enc : K → PyData) (dd : Nat)
def rSortedQ : List V → Hp → VK → Prop := fun vs H Q => ∃ (a : Addr) (L : List (Addr × K)), vs = [V.ref a] ∧ (SqL X.K H a (L.map fun q => V.ref q.1) ∨ SqT X.K H a (L.map fun q => V.ref q.1)) ∧ L.length ≤ 100000 ∧ (∀ p ∈ L, el H p.1 p.2) ∧
  PySem.W.AllAlike (L.map fun p => enc p.2) ∧ PySem.W.Sortable (L.map fun p => enc p.2) ∧ (∀ p ∈ L, (enc p.2).depth ≤ dd) ∧
  ∀ L' : List (Addr × K), L'.Perm L → L'.Pairwise (leG enc) → New H (.lst (L'.map fun q => V.ref q.1)) Q
variable {knd el enc dd}
theorem cr_sortedQ (hc : X.calm = true) (hu : X.A.units + 64 < cLine) (hdd : dd ≤ 50) (hrd : ∀ {h k b}, knd.is h k b → Reads h (.ref b) (enc k) [])
    (hel : ∀ {pins σ H s b k}, Inv X pins σ H s → el H b k → knd.is s.heap k b) : CallR X (.builtin "sorted") (rSortedQ (X := X) el enc dd) := by
  intro pins s σ H vs us Q I r ⟨a, L, e, ha, hl, hk, h1, h2, h3, q⟩
  subst e
  rw [Vals.ref1 r]
  have back : ∀ {its : List Value} {M : List (Addr × K)}, Vals (M.map fun q => V.ref q.1) its → its = M.map fun q => Value.ref q.1 := by
    intro its M
    induction M generalizing its with
    | nil => intro h; cases h; rfl
    | cons p M ih => intro h; cases h with | cons r0 rr => rw [List.map_cons, ih rr]; congr 1
  have src : ∃ (T : String) (o : Obj) (items : Array Value) (n : Nat), (T = "list" ∨ T = "tuple") ∧ s.heap.get? a = some o ∧ o.cls = .type T ∧ o.data = .seq items n ∧ items.toList = L.map fun q => Value.ref q.1 := by
    rcases ha with h | h
    · obtain ⟨its, rv, hil, _⟩ := I.list h
      obtain ⟨o, w1, w2, n, w3⟩ := hil.isList
      exact ⟨"list", o, _, n, .inl rfl, w1, w2, w3, by simpa using back rv⟩
    · obtain ⟨its, rv, ⟨o, w1, w2, n, w3⟩, _⟩ := I.tuple h
      exact ⟨"tuple", o, _, n, .inr rfl, w1, w2, w3, by simpa using back rv⟩
  obtain ⟨T, o, items, n, hT, ho, hcl, hdt, hit⟩ := src
  refine sorted_seqG (knd := knd) hT ho hcl hdt hit hl (I.ok.hd hc) enc dd hrd (fun p hp => hel I (hk p hp)) h1 h2 h3 (by omega) fun s' hm out c L' k1 k2 g o hg hout pm pw => ?_
  have I1 : Inv X pins σ H { s with heap := hm, toks := s'.toks } := I.kept k1
  have hn : H hm.objs.size = none := I1.hok.fresh (Nat.le_refl _)
  have len : (L'.map fun q => V.ref q.1).length ≤ sizeLine := by rw [List.length_map, pm.length_eq, sizeLine_eq]; omega
  have vr : ∀ M : List (Addr × K), Vals (M.map fun q => V.ref q.1) (M.map fun q => Value.ref q.1) := fun M => by
    induction M with
    | nil => exact .nil
    | cons q M ih => exact .cons rfl ih
  have hv : Vals (L'.map fun q => V.ref q.1) out.toList := by rw [hout]; exact vr L'
  have J : Inv X pins σ (upd H hm.objs.size (.lst (L'.map fun q => V.ref q.1))) { s with heap := s'.heap, gens := s'.gens, drawn := s'.drawn, toks := s'.toks } :=
    Inv.call (s := { s with heap := hm, toks := s'.toks }) (ch := []) I1 (Un.laid k2 (Nat.le_refl _) hn) (I1.hok.laid k2 (Nat.le_refl _) ⟨len, out.toList, c, hv, hg⟩) (by rw [g]; exact I.bare) (fun _ z => nomatch z)
  have e : s' = { s with heap := s'.heap, gens := s'.gens, drawn := s'.drawn, toks := s'.toks } := by
    cases s'
    cases s
    cases o
    rfl
  rw [e]
  exact ⟨.ref hm.objs.size, _, J, rfl, (q L' pm pw).go _ hn⟩
end
end SG

set_option maxHeartbeats 0
/-! dicts whose keys are tuples of flat tuples of whole numbers, and whose values are True -/
namespace SG
open PySem PySem.Spec PyProof.Rows L2 Cl
def nkF (k : List Int) : NestedKey := .tup (k.map .num)
def nk (ks : List (List Int)) : NestedKey := .tup (ks.map nkF)
section
variable {P : Program} {w : World}
theorem nested_ints {h : Heap} : ∀ {k : List Int} {us : List Value}, IntsAre us k → NestedAll h (k.map .num) us
  | _, _, .nil => .nil
  | _, _, .cons n t r => .cons (.int _ _) (nested_ints r)
theorem nested_flat {h : Heap} {k : List Int} {a : Addr} (hk : L2.IsT P w h k a) : NestedIs h (nkF k) (.ref a) := by
  obtain ⟨o, its, n, h1, h2, h3, h4⟩ := hk
  exact .tup h1 h2 h3 (nested_ints (ints_of_items h4))
theorem nested_each {h : Heap} : ∀ {ks : List (List Int)} {us : List Value}, EachT P w h ks us → NestedAll h (ks.map nkF) us
  | _, _, .nil => .nil
  | _, _, .cons a r => .cons (nested_flat a) (nested_each r)
theorem nested_tt {h : Heap} {ks : List (List Int)} {a : Addr} (hk : IsTT P w h ks a) : NestedIs h (nk ks) (.ref a) := by
  obtain ⟨o, its, n, h1, h2, h3, h4⟩ := hk
  exact .tup h1 h2 h3 (nested_each h4)
theorem depth_nums : ∀ k : List Int, NestedKey.depthAll (k.map .num) = 0
  | [] => by simp [NestedKey.depthAll]
  | i :: k => by
    rw [List.map_cons, NestedKey.depthAll, depth_nums k]
    rfl
theorem depth_nkF (k : List Int) : (nkF k).depth = 1 := by
  unfold nkF
  rw [NestedKey.depth, depth_nums]
theorem depth_nks : ∀ ks : List (List Int), NestedKey.depthAll (ks.map nkF) ≤ 1
  | [] => by simp [NestedKey.depthAll]
  | k :: ks => by
    rw [List.map_cons, NestedKey.depthAll, depth_nkF]
    have := depth_nks ks
    omega
theorem depth_nk (ks : List (List Int)) : (nk ks).depth ≤ 8 := by
  unfold nk
  rw [NestedKey.depth]
  have := depth_nks ks
  omega
theorem nkF_inj {k m : List Int} (h : nkF k = nkF m) : k = m := by
  unfold nkF at h
  injection h with h
  revert m
  induction k with
  | nil =>
    intro m h
    cases m with
    | nil => rfl
    | cons => cases h
  | cons i k ih =>
    intro m h
    cases m with
    | nil => cases h
    | cons j m =>
      rw [List.map_cons, List.map_cons] at h
      injection h with h1 h2
      injection h1 with h1
      rw [h1, ih h2]
theorem nk_inj {ks ms : List (List Int)} (h : nk ks = nk ms) : ks = ms := by
  unfold nk at h
  injection h with h
  revert ms
  induction ks with
  | nil =>
    intro ms h
    cases ms with
    | nil => rfl
    | cons => cases h
  | cons i k ih =>
    intro ms h
    cases ms with
    | nil => cases h
    | cons j m =>
      rw [List.map_cons, List.map_cons] at h
      injection h with h1 h2
      rw [nkF_inj h1, ih h2]
def rowsN (L : List (Addr × List (List Int))) : List (NestedKey × Addr × Value) := L.map fun p => (nk p.2, p.1, .bool true)
def putN (L : List (Addr × List (List Int))) (b : Addr) (k : List (List Int)) : List (Addr × List (List Int)) := if k ∈ L.map (·.2) then L else L ++ [(b, k)]
theorem keys_rowsN (L : List (Addr × List (List Int))) : (rowsN L).map (·.1) = (L.map (·.2)).map nk := by
  unfold rowsN
  rw [List.map_map, List.map_map]
  rfl
theorem stored_rowsN (L : List (Addr × List (List Int))) (b : Addr) (k : List (List Int)) : storedH (rowsN L) (nk k) b (.bool true) = rowsN (putN L b k) := by
  unfold putN
  by_cases h : k ∈ L.map (·.2)
  · rw [if_pos h]
    cases e : atKey (rowsN L) (nk k) with
    | some p =>
      rw [storedH_old e]
      have : ∀ x ∈ rowsN L, putAt (nk k) (.bool true) x = x := fun x hx => by
        obtain ⟨p, _, rfl⟩ := List.mem_map.mp hx
        unfold putAt
        split <;> rfl
      rw [List.map_congr_left this, List.map_id']
    | none =>
      exfalso
      obtain ⟨p, hp, e2⟩ := List.mem_map.mp h
      unfold atKey at e
      have e := Option.map_eq_none_iff.mp e
      rw [List.find?_eq_none] at e
      exact e (nk p.2, p.1, .bool true) (List.mem_map.mpr ⟨p, hp, rfl⟩) (by simp [e2])
  · rw [if_neg h]
    cases e : atKey (rowsN L) (nk k) with
    | some p =>
      exfalso
      unfold atKey at e
      obtain ⟨x, hx, _⟩ := Option.map_eq_some_iff.mp e
      have h1 := List.find?_some hx
      obtain ⟨p, hp, rfl⟩ := List.mem_map.mp (List.mem_of_find?_eq_some hx)
      exact h (List.mem_map.mpr ⟨p, hp, nk_inj (of_decide_eq_true h1)⟩)
    | none =>
      rw [storedH_new e]
      unfold rowsN
      rw [List.map_append]
      rfl
/-- what a heap says of such a dict alone -/
def DN0 (P : Program) (w : World) (h : Heap) (d : Addr) (L : List (Addr × List (List Int))) : Prop := (d == sysModules) = false ∧ L.length ≤ sizeLine ∧
  ∃ o es ep, h.get? d = some o ∧ o.ExactDict ∧ o.data = .dict es ep ∧ es.toList = (rowsN L).map (entryOfKey (nestedKind P w)) ∧ (L.map (·.2)).Nodup
def DNO (P : Program) (w : World) (d : Addr) (L : List (Addr × List (List Int))) : HO := .ext fun h => DN0 P w h d L
theorem dno_ok {H : Hp} {h : Heap} {d : Addr} {L : List (Addr × List (List Int))} (S : DN0 P w h d L) : ObjOk P w H h d (DNO P w d L) := by
  unfold DNO ObjOk
  refine ⟨S, ?_, fun h1 h2 S1 f => ?_⟩
  · obtain ⟨_, _, o, es, ep, ho, _⟩ := S
    exact ⟨o, ho⟩
  · obtain ⟨q, q2, o, es, ep, ho, hx⟩ := S1
    exact ⟨q, q2, o, es, ep, f o ho, hx⟩
theorem dno_full {h : Heap} {d : Addr} {L : List (Addr × List (List Int))} (S : DN0 P w h d L) (hk : ∀ p ∈ L, IsTT P w h p.2 p.1) : h.DictOfH (nestedKind P w) d (rowsN L) := by
  obtain ⟨_, _, o, es, ep, h1, h2, h3, h4, h5⟩ := S
  refine ⟨o, es, ep, h1, h2, h3, h4, fun x hx => ?_, ?_⟩
  · obtain ⟨p, hp, rfl⟩ := List.mem_map.mp hx
    exact ⟨nested_tt (hk p hp), depth_nk _⟩
  · rw [keys_rowsN]
    have : ∀ ks : List (List (List Int)), ks.Nodup → (ks.map nk).Nodup := fun ks => by
      induction ks with
      | nil => intro _; exact .nil
      | cons k ks ih =>
        intro h
        obtain ⟨a, b⟩ := List.nodup_cons.mp h
        rw [List.map_cons]
        refine List.nodup_cons.mpr ⟨fun z => ?_, ih b⟩
        obtain ⟨m, hm, e⟩ := List.mem_map.mp z
        rw [← nk_inj e] at a
        exact a hm
    exact this _ h5
theorem nodup_putN {L : List (Addr × List (List Int))} {b : Addr} {k : List (List Int)} (h : (L.map (·.2)).Nodup) : ((putN L b k).map (·.2)).Nodup := by
  unfold putN
  split
  · exact h
  · rename_i n
    rw [List.map_append]
    exact List.nodup_append.mpr ⟨h, List.pairwise_singleton _ _, fun a ha c hc e => n (by have e3 : c = k := List.mem_singleton.mp hc; rw [← e3, ← e]; exact ha)⟩
theorem len_putN (L : List (Addr × List (List Int))) (b : Addr) (k : List (List Int)) : (putN L b k).length ≤ L.length + 1 := by
  unfold putN
  split
  · omega
  · rw [List.length_append]; exact Nat.le_refl _
theorem dno_of {h : Heap} {d : Addr} {L : List (Addr × List (List Int))} (hd : (d == sysModules) = false) (hl : L.length ≤ sizeLine) (nd : (L.map (·.2)).Nodup) (S : h.DictOfH (nestedKind P w) d (rowsN L)) : DN0 P w h d L := by
  obtain ⟨o, es, ep, h1, h2, h3, h4, _, _⟩ := S
  exact ⟨hd, hl, o, es, ep, h1, h2, h3, h4, nd⟩
end
section
variable {X : Cx} {pins : List (Addr × Obj)} {σ : L2.St} {H : Hp} {s : Shared} {d : Addr}
theorem inv_ext {φ ψ : Heap → Prop} {h' : Heap} {t' : Nat} (I : Inv X pins σ H s) (e0 : H d = some (.ext φ)) (sb : ∀ b, b ≠ d → h'.get? b = s.heap.get? b) (he : ∃ o, h'.get? d = some o) (new : ObjOk X.prog X.w (upd H d (.ext ψ)) h' d (.ext ψ)) :
    Inv X pins σ (upd H d (.ext ψ)) { s with heap := h', toks := t' } := by
  have nP : ∀ b u, H b = some u → (∀ φ, u ≠ .ext φ) → b ≠ d := fun b u e q z => by
    rw [z, e0] at e
    exact q _ (Option.some.inj e).symm
  have nN : ∀ b, H b = none → b ≠ d := fun b e z => by
    rw [z, e0] at e
    cases e
  have k : ∀ b o, b ≠ d → s.heap.get? b = some o → h'.get? b = some o := fun b o n e => by rw [sb b n]; exact e
  refine I.step (g' := s.gens) (d' := s.drawn) (ch := []) (fun b hb => absurd hb (by simp)) (fun b o _ _ _ e n => k b o (nN b n) e) (fun b o _ _ _ e n => ⟨o.slots, k b o (nN b n) e⟩)
    (fun b o _ e n => by rw [upd_ne (nN b n)]; exact n) (fun b o _ e => ?_) (fun b xs e => by rw [upd_ne (nP b _ e (fun q z => by cases z))]; exact e) (fun b o u e => by rw [upd_ne (nP b _ e (fun q z => by cases z))]; exact e) (fun b qs e => ?_) (fun m hn => ?_) (fun b u e => ?_) I.bare
  · by_cases hb : b = d
    · rw [hb]; exact he
    · exact ⟨o, k b o hb e⟩
  · rw [upd_ne (nP b _ e (fun q z => by cases z)), e]
    exact ⟨#[], by simp⟩
  · obtain ⟨ob, es, ep, ho, r⟩ := hn
    exact ⟨ob, es, ep, k _ ob (nN _ I.free) ho, r⟩
  · by_cases hb : b = d
    · rw [hb, upd_same] at e
      cases e
      rw [hb]
      exact new
    · rw [upd_ne hb] at e
      refine (I.hok b u e).stay (fun c v hd q => k c v ?_ q) (fun c q => by rw [upd_ne (nP c _ q (fun q z => by cases z))]; exact q) fun c xs q => by rw [upd_ne (nP c _ q (fun q z => by cases z))]; exact q
      rcases hd with z | z
      · rw [z]; exact hb
      · exact nP c _ z (fun q z => by cases z)
/-- {}, to be a dict whose keys are nested -/
def tDNewN (P : Program) (w : World) : TE := fun _ H Q => ∀ p, H p = none → Q (.ref p) (upd H p (DNO P w p []))
theorem dno_empty {P : Program} {w : World} (h : Heap) (hb : sysModules < h.objs.size) : DN0 P w (h.push { cls := .type "dict", data := .dict #[] }) h.objs.size [] :=
  ⟨beq_eq_false_iff_ne.mpr (Ne.symm (Nat.ne_of_lt hb)), Nat.zero_le _, _, #[], 0, Heap.get?_push_size _ rfl, ⟨rfl, rfl, rfl⟩, rfl, rfl, List.nodup_nil⟩
theorem pe_dnewN {X : Cx} {pos : Pos} : PE X (.Dict [] [] pos) (tDNewN X.prog X.w) := ⟨fun pins s σ H Q I h =>
  wpAny_Dict_empty ⟨.ref s.heap.objs.size, _, I.laid (a := s.heap.objs.size) (o := DNO X.prog X.w s.heap.objs.size []) (t' := s.toks) (fun _ _ q => Heap.get?_push_of_some _ q) (Nat.le_refl _) (dno_ok (dno_empty s.heap I.big)), rfl, h _ (I.hok.fresh (Nat.le_refl _))⟩⟩
/-- d[k] = True -/
def sDPutN (P : Program) (w : World) (K : PySem.W.Frag) (td ty tv : TE) : TS := fun D σ H => tv σ H fun v H1 => td σ H1 fun x H2 => ty σ H2 fun y H3 => ∃ a b k L, x = .ref a ∧ y = .ref b ∧ v = .bl true ∧ H3 a = some (DNO P w a L) ∧ elN K H3 b k ∧ (∀ p ∈ L, elN K H3 p.1 p.2) ∧ L.length < sizeLine ∧
  D.nx σ (upd H3 a (DNO P w a (putN L b k)))
theorem ps_dputN {X : Cx} {o i value : Expr} {pos pos' : Pos} {td ty tv : TE} (hu : X.A.units + 64 < cLine) (ho : PE X o td) (hi : PE X i ty) (hv : PE X value tv) (hs : swapsWith value (some (.Subscript o i pos')) pos.line X.env = pure false) :
    PS X (.Assign [.Subscript o i pos'] value pos) (sDPutN X.prog X.w X.K td ty tv) := by
  refine ⟨fun pins s σ H D I h => ?_⟩
  refine wpAny_Assign_Subscript (thn (hv.run pins s σ H _ I h) fun r s1 ⟨v, H1, I1, rv, q1⟩ => thn (ho.run pins s1 σ H1 _ I1 q1) fun u s2 ⟨x, H2, I2, rx, q2⟩ => thn (hi.run pins s2 σ H2 _ I2 q2) fun iv s3 ⟨y, H3, I3, ry, a, b, k, L, ex, ey, ev, ga, gk, gL, gl, q3⟩ => ?_) hs
  subst ex ey ev
  obtain rfl : u = Value.ref a := rx
  obtain rfl : iv = Value.ref b := ry
  obtain rfl : r = Value.bool true := rv
  obtain ⟨S, _, _⟩ := I3.hok a _ ga
  have S : DN0 X.prog X.w s3.heap a L := S
  have dd := dno_full S fun p hp => elN_is I3 (gL p hp)
  have hkey : (nestedKind X.prog X.w).is s3.heap (nk k) b := ⟨nested_tt (elN_is I3 gk), depth_nk _⟩
  have hsz : (rowsN L).length ≤ sizeLine := by unfold rowsN; rw [List.length_map]; exact S.2.1
  refine wpAny_setItem_heap (hsz := hsz) (v := .bool true) (show (nestedKind X.prog X.w).room X.A.in1 from (by show X.A.units + 1 + 8 < cLine; omega)) hkey dd fun h' dd' sb => ?_
  rw [stored_rowsN] at dd'
  have D0 : DN0 X.prog X.w h' a (putN L b k) := dno_of S.1 (by have := len_putN L b k; omega) (nodup_putN S.2.2.choose_spec.choose_spec.choose_spec.2.2.2.2) dd'
  obtain ⟨o', _, _, ho', _⟩ := id dd'
  exact ⟨σ, _, inv_ext I3 ga sb.2 ⟨o', ho'⟩ (dno_ok D0), q3⟩
end
end SG

set_option maxHeartbeats 0
/-! sorted(d), d a dict whose keys are tuples of flat tuples -/
namespace Cl
open PySem PySem.Spec PyProof.Rows L2
def rSortedDN (P : Program) (w : World) (K : PySem.W.Frag) : List V → Hp → VK → Prop := fun vs H Q => ∃ (d : Addr) (L : List (Addr × List (List Int))), vs = [.ref d] ∧ H d = some (SG.DNO P w d L) ∧ (∀ p ∈ L, SG.elN K H p.1 p.2) ∧
  PySem.W.AllAlike (L.map fun p => SG.encN p.2) ∧ PySem.W.Sortable (L.map fun p => SG.encN p.2) ∧
  ∀ L' : List (Addr × List (List Int)), L'.Perm L → L'.Pairwise (SG.leG SG.encN) → New H (.lst (L'.map fun q => V.ref q.1)) Q
section
variable {X : Cx}
theorem cr_sortedDN (hc : X.calm = true) (hu : X.A.units + 64 < cLine) : CallR X (.builtin "sorted") (rSortedDN X.prog X.w X.K) := by
  intro pins s σ H vs us Q I r h
  obtain ⟨d, L, rfl, hd, c3, hal, hso, q⟩ := h
  obtain ⟨u, rfl, rx⟩ := vals1 r
  cases rx
  obtain ⟨⟨lo, hz0, o, es, ep, ho, hx, hdt, he, hn⟩, _, _⟩ := I.hok d _ hd
  have l1 : es.size = L.length := by rw [size_of_entries he]; exact List.length_map _
  refine Calls.call_function_entry kind_sorted plain_sorted entry_sorted (args_sorted1 _) ?_
  unfold Builtin.«sorted»
  refine wpAny_bind (m := checkCount "sorted" 1 1 _) (wpAny_pure (wpAny_bind (PySem.W.kdu_collect (A := X.A.in1) (kdl_raw lo hx hdt) (I.ok.hd hc) ho (by omega) fun h' tk acc hkp it => ?_)))
  have eL : acc.toList = L.map fun q => Value.ref q.1 := by
    apply List.ext_getElem?
    intro j
    have lt1 : acc.toList.length = L.length := by rw [Array.length_toList, it.1, l1]
    by_cases hj : j < L.length
    · obtain ⟨en, hen, hv⟩ := it.2 j _ (Array.getElem?_eq_getElem (by rw [it.1, l1]; exact hj))
      have qe := entry_at he j
      unfold SG.rowsN at qe
      rw [hen, List.getElem?_map, List.getElem?_eq_getElem hj] at qe
      rw [Array.getElem?_toList, Array.getElem?_eq_getElem (by rw [it.1, l1]; exact hj), List.getElem?_map, List.getElem?_eq_getElem hj, hv, Option.some.inj qe]
      rfl
    · rw [List.getElem?_eq_none (by omega), List.getElem?_eq_none (by rw [List.length_map]; omega)]
  have I1 : Inv X pins σ H { s with heap := h', toks := tk } := I.kept hkp
  have la : acc.toList.length ≤ sizeLine := by rw [eL, List.length_map]; omega
  have lL : L.length = acc.toList.length := by rw [eL, List.length_map]
  obtain ⟨s1, es1⟩ : ∃ s1 : Shared, s1 = { s with heap := h', toks := tk } := ⟨_, rfl⟩
  rw [← es1] at I1
  show wpAny _ _ _ _ _ { s with heap := h', toks := tk }
  rw [← es1]
  refine wpAny_bind (wpAny_newList ?_ la)
  have oL : (s1.heap.push (seqObj "list" acc.toList.toArray 0)).get? s1.heap.objs.size = some (seqObj "list" acc.toList.toArray 0) := Heap.get?_push_size _ rfl
  have reads : ∀ q ∈ L, Reads (s1.heap.push (seqObj "list" acc.toList.toArray 0)) (.ref q.1) (SG.encN q.2) [] := fun q hq =>
    SG.readN (P := X.prog) (w := X.w) ((SG.nestK X.prog X.w).keep (SG.elN_is I1 (c3 q hq)) fun c o' hc _ => Heap.get?_push_of_some _ hc)
  have each : ∀ l : List (Addr × List (List Int)), (∀ q ∈ l, q ∈ L) → PySem.W.EachIs (fun (v : Value) (q : Addr × List (List Int)) => v = .ref q.1) (l.map fun q => Value.ref q.1) l ∧
      PySem.W.EachIs (fun v q => ∃ as, Reads (s1.heap.push (seqObj "list" acc.toList.toArray 0)) v ((fun q : Addr × List (List Int) => SG.encN q.2) q) as ∧ s1.heap.objs.size ∉ as) (l.map fun q => Value.ref q.1) l := by
    intro l
    induction l with
    | nil => intro _; exact ⟨.nil, .nil⟩
    | cons q l ih =>
      intro h
      obtain ⟨i1, i2⟩ := ih fun r hr => h r (List.mem_cons_of_mem _ hr)
      exact ⟨.cons rfl i1, .cons ⟨[], reads q (h q List.mem_cons_self), fun z => nomatch z⟩ i2⟩
  obtain ⟨e1, e2⟩ := each L fun q hq => hq
  rw [← eL] at e1 e2
  have hso1 : PySem.W.Sortable (L.map fun q : Addr × List (List Int) => SG.encN q.2) := hso
  have hal1 : PySem.W.AllAlike (L.map fun q : Addr × List (List Int) => SG.encN q.2) := hal
  refine wpAny_bind (wpAny_holding (PySem.W.list_sort_data (s := { s1 with heap := s1.heap.push (seqObj "list" acc.toList.toArray 0) }) (enc := fun q : Addr × List (List Int) => SG.encN q.2) oL e1 e2 hal1 hso1 (by omega)
    (fun b hb => by have := SG.depthN b.2; show X.A.units + 1 + 1 + (SG.encN b.2).depth < cLine; omega) fun out a1 a2 => ?_))
  obtain ⟨c, hc⟩ := sortedHeap_at (vs := acc.toList) (out := out.toArray) oL
  have eo : out = (L.mergeSort (PySem.W.dataLe false fun q : Addr × List (List Int) => SG.encN q.2)).map fun q => Value.ref q.1 := by
    revert a2
    generalize L.mergeSort (PySem.W.dataLe false fun q : Addr × List (List Int) => SG.encN q.2) = M
    intro a2
    clear hc a1
    induction a2 with
    | nil => rfl
    | cons h t ih => rw [List.map_cons, ← ih, h]
  have pM : (L.mergeSort (PySem.W.dataLe false fun q : Addr × List (List Int) => SG.encN q.2)).Perm L := List.mergeSort_perm _ _
  have tot : PySem.W.TotalLe (PySem.W.dataLe false fun q : Addr × List (List Int) => SG.encN q.2) := PySem.W.sortLe_total ..
  have pw : (L.mergeSort (PySem.W.dataLe false fun q : Addr × List (List Int) => SG.encN q.2)).Pairwise (SG.leG SG.encN) :=
    List.pairwise_mergeSort tot.trans (fun x y => by rw [Bool.or_eq_true]; exact tot.total x y) L
  generalize L.mergeSort (PySem.W.dataLe false fun q : Addr × List (List Int) => SG.encN q.2) = M at eo pM pw
  have hfr := I1.hok.fresh (a := s1.heap.objs.size) (Nat.le_refl _)
  have vr : ∀ M : List (Addr × List (List Int)), Vals (M.map fun q => V.ref q.1) (M.map fun q => Value.ref q.1) := fun M => by
    induction M with
    | nil => exact .nil
    | cons q M ih => exact .cons rfl ih
  refine wpAny_pure ⟨_, rfl, ?_⟩
  have old : ∀ b u, s1.heap.get? b = some u → (sortedHeap (s1.heap.push (seqObj "list" acc.toList.toArray 0)) s1.heap.objs.size acc.toList out.toArray).get? b = some u := fun b u e5 => by
    have lt5 := Heap.lt_size e5
    rw [sortedHeap_old (Nat.ne_of_lt lt5) (by rw [show (s1.heap.push (seqObj "list" acc.toList.toArray 0)).objs.size = s1.heap.objs.size + 1 from Array.size_push ..]; exact Nat.lt_succ_of_lt lt5)]
    exact Heap.get?_push_of_some _ e5
  refine ⟨.ref s1.heap.objs.size, _, I1.laid (t' := s1.toks) (o := .lst (M.map fun q => V.ref q.1)) old (Nat.le_refl _) ?_, rfl, (q M pM pw).go _ hfr⟩
  refine ⟨by rw [List.length_map, pM.length_eq]; omega, out, c, by rw [eo]; exact vr M, hc⟩
end
end Cl

set_option maxHeartbeats 0
/-! sorted(d), d a dict whose keys are flat tuples of whole numbers -/
namespace Cl
open PySem PySem.Spec PyProof.Rows L2
def flatKey (k : List Int) : List Key := k.map Sum.inl
theorem kV_flat (k : List Int) : (flatKey k).map kV = k.map V.int := by
  unfold flatKey
  rw [List.map_map]
  rfl
def rSortedDF (K : PySem.W.Frag) : List V → Hp → VK → Prop := fun vs H Q => ∃ (d : Addr) (kvs : List (List Key × V)) (ks : List (List Int)), vs = [.ref d] ∧ H d = some (.dT kvs) ∧ kvs.map (·.1) = ks.map flatKey ∧
  PySem.W.AllAlike (ks.map SG.encF) ∧ PySem.W.Sortable (ks.map SG.encF) ∧
  ∀ L' : List (Addr × List Int), (L'.map (·.2)).Perm ks → L'.Pairwise (SG.leG SG.encF) → (∀ p ∈ L', SG.elF K H p.1 p.2) → New H (.lst (L'.map fun q => V.ref q.1)) Q
section
variable {X : Cx}
theorem keys_flat {K : PySem.W.Frag} {H : Hp} : ∀ {kvs : List (List Key × V)} {xs : List (List Key × Addr × Value)} {ks : List (List Int)}, KT H kvs xs → kvs.map (·.1) = ks.map flatKey →
    ∃ L : List (Addr × List Int), L.map (·.2) = ks ∧ xs.map (fun x => x.2.1) = L.map (·.1) ∧ ∀ p ∈ L, SG.elF K H p.1 p.2
  | [], _, [], .nil, _ => ⟨[], rfl, rfl, fun _ h => nomatch h⟩
  | [], _, _ :: _, .nil, e => nomatch e
  | _ :: _, _ :: _, [], .cons _ _, e => nomatch e
  | kv :: kvs, x :: xs, k :: ks, .cons h t, e => by
    rw [List.map_cons, List.map_cons] at e
    obtain ⟨e1, e2⟩ := List.cons.inj e
    obtain ⟨L, i1, i2, i3⟩ := keys_flat (K := K) t e2
    have h2 : H x.2.1 = some (.tup (k.map V.int)) := by rw [← kV_flat, ← e1]; exact h.2.1
    refine ⟨(x.2.1, k) :: L, by rw [List.map_cons, i1], by rw [List.map_cons, List.map_cons, i2], fun p hp => ?_⟩
    rcases List.mem_cons.mp hp with z | z
    · rw [z]; exact .inl (.inl h2)
    · exact i3 p z
theorem cr_sortedDF (hc : X.calm = true) (hu : X.A.units + 64 < cLine) : CallR X (.builtin "sorted") (rSortedDF X.K) := by
  intro pins s σ H vs us Q I r h
  obtain ⟨d, kvs, ks0, rfl, hd, hk, hal, hso, q⟩ := h
  obtain ⟨u, rfl, rx⟩ := vals1 r
  cases rx
  obtain ⟨hz0, lo, ks, pr, o, es, ep, ho, hx, hdt, he, hn⟩ := (I.hok d _ hd : ObjOk X.prog X.w H s.heap d (.dT kvs))
  obtain ⟨L, c1, c2, c3⟩ := keys_flat (K := X.K) pr hk
  have l1 : es.size = ks.length := size_of_entries he
  have l2 : kvs.length = ks.length := Paired.length pr
  refine Calls.call_function_entry kind_sorted plain_sorted entry_sorted (args_sorted1 _) ?_
  unfold Builtin.«sorted»
  refine wpAny_bind (m := checkCount "sorted" 1 1 _) (wpAny_pure (wpAny_bind (PySem.W.kdu_collect (A := X.A.in1) (kdl_raw lo hx hdt) (I.ok.hd hc) ho (by omega) fun h' tk acc hkp it => ?_)))
  have ea : acc.toList = ks.map fun x => Value.ref x.2.1 := by
    apply List.ext_getElem?
    intro j
    have lt1 : acc.toList.length = ks.length := by rw [Array.length_toList, it.1, l1]
    by_cases hj : j < ks.length
    · obtain ⟨en, hen, hv⟩ := it.2 j _ (Array.getElem?_eq_getElem (by rw [it.1, l1]; exact hj))
      have qe := entry_at he j
      rw [hen, List.getElem?_eq_getElem hj] at qe
      rw [Array.getElem?_toList, Array.getElem?_eq_getElem (by rw [it.1, l1]; exact hj), List.getElem?_map, List.getElem?_eq_getElem hj, hv, Option.some.inj qe]
      rfl
    · rw [List.getElem?_eq_none (by omega), List.getElem?_eq_none (by rw [List.length_map]; omega)]
  have I1 : Inv X pins σ H { s with heap := h', toks := tk } := I.kept hkp
  have la : acc.toList.length ≤ sizeLine := by rw [ea, List.length_map]; omega
  have eL : acc.toList = L.map fun q => Value.ref q.1 := by
    rw [ea]
    have := congrArg (List.map Value.ref) c2
    rw [List.map_map, List.map_map] at this
    exact this
  have lL : L.length = acc.toList.length := by rw [eL, List.length_map]
  obtain ⟨s1, es1⟩ : ∃ s1 : Shared, s1 = { s with heap := h', toks := tk } := ⟨_, rfl⟩
  rw [← es1] at I1
  show wpAny _ _ _ _ _ { s with heap := h', toks := tk }
  rw [← es1]
  refine wpAny_bind (wpAny_newList ?_ la)
  have oL : (s1.heap.push (seqObj "list" acc.toList.toArray 0)).get? s1.heap.objs.size = some (seqObj "list" acc.toList.toArray 0) := Heap.get?_push_size _ rfl
  have reads : ∀ q ∈ L, Reads (s1.heap.push (seqObj "list" acc.toList.toArray 0)) (.ref q.1) (SG.encF q.2) [] := fun q hq =>
    SG.readF (P := X.prog) (w := X.w) ((SG.flatK X.prog X.w).keep (SG.elF_is I1 (c3 q hq)) fun c o' hc _ => Heap.get?_push_of_some _ hc)
  have each : ∀ l : List (Addr × List Int), (∀ q ∈ l, q ∈ L) → PySem.W.EachIs (fun (v : Value) (q : Addr × List Int) => v = .ref q.1) (l.map fun q => Value.ref q.1) l ∧
      PySem.W.EachIs (fun v q => ∃ as, Reads (s1.heap.push (seqObj "list" acc.toList.toArray 0)) v ((fun q : Addr × List Int => SG.encF q.2) q) as ∧ s1.heap.objs.size ∉ as) (l.map fun q => Value.ref q.1) l := by
    intro l
    induction l with
    | nil => intro _; exact ⟨.nil, .nil⟩
    | cons q l ih =>
      intro h
      obtain ⟨i1, i2⟩ := ih fun r hr => h r (List.mem_cons_of_mem _ hr)
      exact ⟨.cons rfl i1, .cons ⟨[], reads q (h q List.mem_cons_self), fun z => nomatch z⟩ i2⟩
  obtain ⟨e1, e2⟩ := each L fun q hq => hq
  rw [← eL] at e1 e2
  have em : L.map (fun p : Addr × List Int => SG.encF p.2) = ks0.map SG.encF := by rw [← c1, List.map_map]; rfl
  have hso1 : PySem.W.Sortable (L.map fun q : Addr × List Int => SG.encF q.2) := by rw [em]; exact hso
  have hal1 : PySem.W.AllAlike (L.map fun q : Addr × List Int => SG.encF q.2) := by rw [em]; exact hal
  refine wpAny_bind (wpAny_holding (PySem.W.list_sort_data (s := { s1 with heap := s1.heap.push (seqObj "list" acc.toList.toArray 0) }) (enc := fun q : Addr × List Int => SG.encF q.2) oL e1 e2 hal1 hso1 (by omega)
    (fun b hb => by have := SG.depthF b.2; show X.A.units + 1 + 1 + (SG.encF b.2).depth < cLine; omega) fun out a1 a2 => ?_))
  obtain ⟨c, hc⟩ := sortedHeap_at (vs := acc.toList) (out := out.toArray) oL
  have eo : out = (L.mergeSort (PySem.W.dataLe false fun q : Addr × List Int => SG.encF q.2)).map fun q => Value.ref q.1 := by
    revert a2
    generalize L.mergeSort (PySem.W.dataLe false fun q : Addr × List Int => SG.encF q.2) = M
    intro a2
    clear hc a1
    induction a2 with
    | nil => rfl
    | cons h t ih => rw [List.map_cons, ← ih, h]
  have pM : (L.mergeSort (PySem.W.dataLe false fun q : Addr × List Int => SG.encF q.2)).Perm L := List.mergeSort_perm _ _
  have tot : PySem.W.TotalLe (PySem.W.dataLe false fun q : Addr × List Int => SG.encF q.2) := PySem.W.sortLe_total ..
  have pw : (L.mergeSort (PySem.W.dataLe false fun q : Addr × List Int => SG.encF q.2)).Pairwise (SG.leG SG.encF) :=
    List.pairwise_mergeSort tot.trans (fun x y => by rw [Bool.or_eq_true]; exact tot.total x y) L
  generalize L.mergeSort (PySem.W.dataLe false fun q : Addr × List Int => SG.encF q.2) = M at eo pM pw
  have hfr := I1.hok.fresh (a := s1.heap.objs.size) (Nat.le_refl _)
  have vr : ∀ M : List (Addr × List Int), Vals (M.map fun q => V.ref q.1) (M.map fun q => Value.ref q.1) := fun M => by
    induction M with
    | nil => exact .nil
    | cons q M ih => exact .cons rfl ih
  refine wpAny_pure ⟨_, rfl, ?_⟩
  have old : ∀ b u, s1.heap.get? b = some u → (sortedHeap (s1.heap.push (seqObj "list" acc.toList.toArray 0)) s1.heap.objs.size acc.toList out.toArray).get? b = some u := fun b u e5 => by
    have lt5 := Heap.lt_size e5
    rw [sortedHeap_old (Nat.ne_of_lt lt5) (by rw [show (s1.heap.push (seqObj "list" acc.toList.toArray 0)).objs.size = s1.heap.objs.size + 1 from Array.size_push ..]; exact Nat.lt_succ_of_lt lt5)]
    exact Heap.get?_push_of_some _ e5
  refine ⟨.ref s1.heap.objs.size, _, I1.laid (t' := s1.toks) (o := .lst (M.map fun q => V.ref q.1)) old (Nat.le_refl _) ?_, rfl, (q M (by rw [← c1]; exact pM.map _) pw fun p hp => c3 p (pM.mem_iff.mp hp)).go _ hfr⟩
  refine ⟨by rw [List.length_map, pM.length_eq]; omega, out, c, by rw [eo]; exact vr M, hc⟩
end
end Cl

set_option maxHeartbeats 0
namespace Cl
open PySem PySem.Spec PyProof.Rows L2
/-! ### data with dicts of one key at most -/
mutual
inductive Dq (K : PySem.W.Frag) (H : Hp) : V → PyData → Prop
  | non : Dq K H .non .none
  | bl (b : Bool) : Dq K H (.bl b) (.bool b)
  | int (i : Int) : Dq K H (.int i) (.int i)
  | str (x : Str) : Dq K H (.str x) (.str x)
  | lst {a : Addr} {xs : List V} {ds : List PyData} : a ≠ sysModules → H a = some (.lst xs) → DqAll K H xs ds → Dq K H (.ref a) (.list ds)
  | tup {a : Addr} {xs : List V} {ds : List PyData} : SqT K H a xs → DqAll K H xs ds → Dq K H (.ref a) (.tuple ds)
  | emp {a : Addr} : H a = some (.dK []) → Dq K H (.ref a) (.dict [])
  | one {a : Addr} {i : Int} {v : V} {d : PyData} : H a = some (.dK [(.inl i, v)]) → Dq K H v d → Dq K H (.ref a) (.dict [(.int i, d)])
inductive DqAll (K : PySem.W.Frag) (H : Hp) : List V → List PyData → Prop
  | nil : DqAll K H [] []
  | cons {v : V} {vs : List V} {d : PyData} {ds : List PyData} : Dq K H v d → DqAll K H vs ds → DqAll K H (v :: vs) (d :: ds)
end
section
variable {K : PySem.W.Frag} {H H' : Hp}
mutual
/-- what keeps lists, tuples and dicts keeps data -/
theorem Dq.keep (kl : ∀ a xs, H a = some (.lst xs) → H' a = some (.lst xs)) (kt : ∀ a xs, SqT K H a xs → SqT K H' a xs) (kd : ∀ a kvs, H a = some (.dK kvs) → H' a = some (.dK kvs)) : ∀ (d : PyData) (v : V), Dq K H v d → Dq K H' v d
  | .none, _, h => by cases h; exact .non
  | .bool b, _, h => by cases h; exact .bl b
  | .int i, _, h => by cases h; exact .int i
  | .str x, _, h => by cases h; exact .str x
  | .list ds, _, h => by
    cases h with
    | lst h0 h1 h2 => exact .lst h0 (kl _ _ h1) (DqAll.keep kl kt kd ds _ h2)
  | .tuple ds, _, h => by
    cases h with
    | tup h1 h2 => exact .tup (kt _ _ h1) (DqAll.keep kl kt kd ds _ h2)
  | .dict [], _, h => by
    cases h with
    | emp h1 => exact .emp (kd _ _ h1)
  | .dict [(.int i, d)], _, h => by
    cases h with
    | one h1 h2 => exact .one (kd _ _ h1) (Dq.keep kl kt kd d _ h2)
  | .dict ((.none, d) :: r), _, h => by cases h
  | .dict ((.bool _, d) :: r), _, h => by cases h
  | .dict ((.str _, d) :: r), _, h => by cases h
  | .dict ((.list _, d) :: r), _, h => by cases h
  | .dict ((.tuple _, d) :: r), _, h => by cases h
  | .dict ((.dict _, d) :: r), _, h => by cases h
  | .dict ((.int _, d) :: _ :: _), _, h => by cases h
theorem DqAll.keep (kl : ∀ a xs, H a = some (.lst xs) → H' a = some (.lst xs)) (kt : ∀ a xs, SqT K H a xs → SqT K H' a xs) (kd : ∀ a kvs, H a = some (.dK kvs) → H' a = some (.dK kvs)) : ∀ (ds : List PyData) (vs : List V), DqAll K H vs ds → DqAll K H' vs ds
  | [], _, h => by cases h; exact .nil
  | d :: ds, _, h => by
    cases h with
    | cons h1 h2 => exact .cons (Dq.keep kl kt kd d _ h1) (DqAll.keep kl kt kd ds _ h2)
end
theorem Dq.same {v : V} {d : PyData} (h : Dq K H v d) (s : Same H H') : Dq K H' v d := h.keep (fun a xs e => s _ _ e) (fun a xs e => seT s e) (fun a kvs e => s _ _ e)
theorem DqAll.same {vs : List V} {ds : List PyData} (h : DqAll K H vs ds) (s : Same H H') : DqAll K H' vs ds := DqAll.keep (fun a xs e => s _ _ e) (fun a xs e => seT s e) (fun a kvs e => s _ _ e) _ _ h
theorem Dq.sameX {P : Addr} {q : Str} {v : V} {d : PyData} (h : Dq K H v d) (t : LT H P q) (s : SameX P H H') : Dq K H' v d := by
  have ne : ∀ a u, H a = some u → (∀ φ, u ≠ .ext φ) → a ≠ P := fun a u z n y => by
    obtain ⟨cs, e, _⟩ := t
    rw [y, e] at z
    exact n _ (Option.some.inj z).symm
  exact h.keep (fun a xs e => s _ _ (ne _ _ e fun φ z => nomatch z) e) (fun a xs e => seX t s e) (fun a kvs e => s _ _ (ne _ _ e fun φ z => nomatch z) e)
theorem Dq.step {d0 l : Addr} {v : V} {d : PyData} (h : Dq K H v d) (S : Step d0 l H H') (D : Deck H d0 l) (hl : ∀ a xs, H a = some (.lst xs) → a ≠ d0 ∧ a ≠ l → H' a = some (.lst xs)) : True := trivial
end
section
variable {X : Cx} {pins : List (Addr × Obj)} {σ : L2.St} {H : Hp} {s : Shared}
mutual
theorem Dq.reads (I : Inv X pins σ H s) : ∀ (d : PyData) (v : V) (u : Value), Dq X.K H v d → RelV v u → ∃ as, Reads s.heap u d as ∧ sysModules ∉ as
  | .none, _, _, h, r => by
    cases h
    cases r
    exact ⟨_, Reads.none, by simp⟩
  | .bool b, _, _, h, r => by
    cases h
    cases r
    exact ⟨_, Reads.bool b, by simp⟩
  | .int i, _, _, h, r => by
    cases h
    obtain ⟨t, rfl⟩ := r
    exact ⟨_, Reads.int i t, by simp⟩
  | .str x, _, _, h, r => by
    cases h
    obtain ⟨t, rfl⟩ := r
    exact ⟨_, Reads.str x t, by simp⟩
  | .list ds, _, _, h, r => by
    cases h with
    | lst h0 hs ha =>
      cases r
      obtain ⟨its, rv, ⟨o, n, ho, hc, _, hd⟩, _⟩ := I.list (.inl (.inl hs))
      obtain ⟨as, hr, hn⟩ := Dq.readsAll I ds _ its ha rv
      refine ⟨_, Reads.list ho hc hd hr, fun z => ?_⟩
      rcases List.mem_cons.mp z with z | z
      · exact h0 z.symm
      · exact hn z
  | .tuple ds, _, _, h, r => by
    cases h with
    | tup hs ha =>
      cases r
      obtain ⟨its, rv, ⟨o, ho, hc, n, hd⟩, _⟩ := I.tuple hs
      obtain ⟨as, hr, hn⟩ := Dq.readsAll I ds _ its ha rv
      exact ⟨_, Reads.tuple ho hc hd hr, hn⟩
  | .dict [], _, _, h, r => by
    cases h with
    | emp e =>
      cases r
      obtain ⟨_, hsm, vs, rel, o, es, ep, h1, h2, h3, h4, h5, h6⟩ := dk_of I.hok e
      cases rel
      cases h5' : es.toList with
      | nil =>
        refine ⟨_, Reads.dict (as := []) (bs := []) h1 h2.1 h3 (by rw [h5']; exact .nil) (by rw [h5']; exact .nil), fun z => ?_⟩
        rcases List.mem_cons.mp z with z | z
        · rw [← z] at hsm
          simp at hsm
        · simp at z
      | cons _ _ => rw [h5'] at h5; cases h5
  | .dict [(.int i, d)], _, _, h, r => by
    cases h with
    | one e hd =>
      cases r
      obtain ⟨_, hsm, vs, rel, o, es, ep, h1, h2, h3, h4, h5, h6⟩ := dk_of I.hok e
      cases rel with
      | cons hk rest =>
        cases rest
        rename_i q
        obtain ⟨hk1, hk2⟩ := hk
        cases h5' : es.toList with
        | nil => rw [h5'] at h5; cases h5
        | cons e0 r0 =>
          rw [h5'] at h5
          cases h5 with
          | cons c1 c2 c3 =>
            cases c3
            obtain ⟨as, hr, hn⟩ := Dq.reads I d _ _ hd hk2
            have c1 : keyIs q.1 e0.key = true := c1
            rw [← hk1] at c1
            rcases keyIs_shape c1 with ⟨j, t, z1, z2⟩ | ⟨x, t, z1, z2⟩
            · have z1 : (Sum.inl i : Key) = Sum.inl j := z1
              cases z1
              refine ⟨_, Reads.dict (as := [] ++ []) (bs := as ++ []) h1 h2.1 h3 (by rw [h5']; show ReadsAll _ [e0.key] [.int i] _; rw [z2]; exact .cons (.int _ _) .nil) (by rw [h5']; show ReadsAll _ [e0.val] [d] _; rw [c2]; exact .cons hr .nil), fun z => ?_⟩
              rcases List.mem_cons.mp z with z | z
              · rw [← z] at hsm
                simp at hsm
              · simp at z
                exact hn z
            · cases z1
  | .dict ((.none, d) :: r), _, _, h, _ => by cases h
  | .dict ((.bool _, d) :: r), _, _, h, _ => by cases h
  | .dict ((.str _, d) :: r), _, _, h, _ => by cases h
  | .dict ((.list _, d) :: r), _, _, h, _ => by cases h
  | .dict ((.tuple _, d) :: r), _, _, h, _ => by cases h
  | .dict ((.dict _, d) :: r), _, _, h, _ => by cases h
  | .dict ((.int _, d) :: _ :: _), _, _, h, _ => by cases h
theorem Dq.readsAll (I : Inv X pins σ H s) : ∀ (ds : List PyData) (vs : List V) (us : List Value), DqAll X.K H vs ds → Vals vs us → ∃ as, ReadsAll s.heap us ds as ∧ sysModules ∉ as
  | [], _, _, h, r => by
    cases h
    cases r
    exact ⟨_, ReadsAll.nil, by simp⟩
  | d :: ds, _, _, h, r => by
    cases h with
    | cons h1 h2 =>
      cases r with
      | cons r1 r2 =>
        obtain ⟨as, q1, n1⟩ := Dq.reads I d _ _ h1 r1
        obtain ⟨bs, q2, n2⟩ := Dq.readsAll I ds _ _ h2 r2
        exact ⟨_, ReadsAll.cons q1 q2, fun z => (List.mem_append.mp z).elim n1 n2⟩
end
end
end Cl

set_option maxHeartbeats 0
namespace Cl
open PySem PySem.Spec PyProof.Rows L2
open PySem.SeqAt
theorem sub_str_dict : isSubtype (.type "str") (.type "dict") = pure false := by rw [isSubtype_type]; kernel_rfl
theorem dict_eq_declines_str (l : Addr) (es : Array DictEntry) (n : Nat) (b : Str) (u : Tok) :
    PySem.Meets (Builtin.«dict.__eq__» ⟨[.ref l, .str b u], []⟩) (fun _ R s => s.heap.get? l = some { cls := .type "dict", dict := none, data := .dict es n, slots := #[] } ∧ R (.ok (.ret .notImplemented)) s) :=
  .of_wp fun prog w A R s h => by
    obtain ⟨hp, g, d, tk, os⟩ := s
    obtain ⟨hl, h⟩ := h
    have f1 := sub_str_dict
    wp_walk using wpAny_loadPart' hl, wpAny_load hl
    exact ⟨_, rfl, h⟩
theorem str_eq_declines_dict (b : Str) (u : Tok) (l : Addr) (es : Array DictEntry) (n : Nat) :
    PySem.Meets (Builtin.«str.__eq__» ⟨[.str b u, .ref l], []⟩) (fun _ R s => s.heap.get? l = some { cls := .type "dict", dict := none, data := .dict es n, slots := #[] } ∧ R (.ok (.ret .notImplemented)) s) :=
  .of_wp fun prog w A R s h => by
    obtain ⟨hp, g, d, tk, os⟩ := s
    obtain ⟨hl, h⟩ := h
    wp_walk using wpAny_loadPart' hl, wpAny_load hl
    exact ⟨_, rfl, h⟩
theorem rc_dict_str {A : Around} {s : Shared} {l : Addr} {es : Array DictEntry} {n : Nat} (b : Str) (u : Tok) (ho : s.heap.get? l = some { cls := .type "dict", dict := none, data := .dict es n, slots := #[] }) (hu : A.units < cLine) : SeqAt.RcAt A s (.ref l) (.str b u) false := fun prog w E Q h =>
  SeqAt.rc_eq_decline_or (k := false) ⟨_, ho, rfl⟩ (typeIs_str s b u) (by decide) sub_str_dict F.slot_dict_eq F.slot_str_eq_refl
    (fun _ hq => call_meets F.slot_dict_eq ⟨_, ho, rfl⟩ F.entry_dict_eq (F.args_dict_eq_2 _ _) (dict_eq_declines_str l es n b u) ⟨ho, hq⟩)
    (fun _ hq => call_meets F.slot_str_eq_refl (typeIs_str s b u) F.entry_str_eq (F.args_str_eq_2 _ _) (str_eq_declines_dict b u l es n) ⟨ho, hq⟩)
    (fun _ hq => wpAny_of_eq (rfl : isSame (.ref l) (.str b u) = pure false) hq) (.inr hu) h
theorem eq_dict_str {A : Around} {s : Shared} {l : Addr} {es : Array DictEntry} {n : Nat} (b : Str) (u : Tok) (ho : s.heap.get? l = some { cls := .type "dict", dict := none, data := .dict es n, slots := #[] }) (hu : A.units < cLine) : SeqAt.EqAt A s (.ref l) (.str b u) false := fun prog w E Q h => by
  unfold eqBool
  refine wpAny_holding ?_
  refine wpAny_ite_split (fun hab => absurd (eq_of_beq hab) nofun) (fun _ => ?_)
  exact wpAny_bind (rc_dict_str b u ho hu prog w E _ (wpAny_truthy_bool h))
/-- the first of a datum's parts is the word -/
def firstIs (w : Str) : List PyData → Bool
  | [.str s] => s == w
  | _ => false
section
variable {X : Cx}
/-- what is compared with a text -/
theorem dq_eq_str {pins : List (Addr × Obj)} {σ : L2.St} {H : Hp} {s : Shared} {A : Around} {v : V} {d : PyData} {u : Value} {x : Str} {t : Tok} (I : Inv X pins σ H s) (h : Dq X.K H v d) (r : RelV v u) (hu : A.units < cLine) :
    SeqAt.EqAt A s u (.str x t) (firstIs x [d]) := by
  cases h with
  | non => cases r; exact SeqAt.EqAt.none_str x t
  | bl b => cases r; exact SeqAt.EqAt.bool_str b x t
  | int i => obtain ⟨t', rfl⟩ := r; exact SeqAt.EqAt.int_str i t' x t
  | str y => obtain ⟨t', rfl⟩ := r; exact SeqAt.EqAt.str_str y t' x t
  | lst h0 h1 h2 =>
    cases r
    obtain ⟨its, rv, pl, _⟩ := I.list (.inl (.inl h1))
    exact SeqAt.EqAt.list_str x t pl.isList hu
  | tup h1 h2 =>
    cases r
    obtain ⟨its, rv, tp, _⟩ := I.tuple h1
    exact SeqAt.EqAt.tuple_str x t tp hu
  | emp e =>
    cases r
    obtain ⟨_, _, vs, _, ⟨cls, dd, data, sl⟩, es, ep, h1, ⟨c1, c2, c3⟩, h3, _⟩ := dk_of I.hok e
    simp only at c1 c2 c3 h3
    subst c1 c2 c3 h3
    exact eq_dict_str x t h1 hu
  | one e _ =>
    cases r
    obtain ⟨_, _, vs, _, ⟨cls, dd, data, sl⟩, es, ep, h1, ⟨c1, c2, c3⟩, h3, _⟩ := dk_of I.hok e
    simp only at c1 c2 c3 h3
    subst c1 c2 c3 h3
    exact eq_dict_str x t h1 hu
/-- thing[:1] == (word,) -/
def rEqFirst (K : PySem.W.Frag) : R2 := fun x y H Q => ∃ (a b : Addr) (xs : List V) (ds : List PyData) (w : Str), x = .ref a ∧ y = .ref b ∧ SqT K H a xs ∧ DqAll K H xs ds ∧ xs.length ≤ 1 ∧ SqT K H b [.str w] ∧ Q (.bl (firstIs w ds)) H
theorem op_eqFirst (hu : X.A.units + 64 < cLine) : OpR X (compareOp .Eq) (rEqFirst X.K) := by
  intro pins s σ H x y v u Q I rx ry h
  obtain ⟨a, b, xs, ds, w, rfl, rfl, ha, hd, hl, hb, q⟩ := h
  cases rx
  cases ry
  obtain ⟨its, rv, ta, _⟩ := I.tuple ha
  obtain ⟨itb, rb, tb, _⟩ := I.tuple hb
  cases rb with
  | cons r1 r2 =>
    cases r2
    obtain ⟨t, rfl⟩ := r1
    cases hd with
    | nil =>
      cases rv
      refine SeqAt.eq_tupleAt (e := fun _ => true) ta tb (by omega) (fun j h1 h2 => absurd h1 (by simp)) ⟨.bl _, H, I, rfl, ?_⟩
      exact q
    | @cons v0 vs d0 ds0 hd0 hds =>
      cases hds with
      | cons _ _ => simp at hl
      | nil =>
        cases rv with
        | cons r1 r2 =>
          cases r2
          rename_i u0
          have key := dq_eq_str (A := X.A.in1) (x := w) (t := t) I hd0 r1 (by show X.A.units + 1 < _; omega)
          refine SeqAt.eq_tupleAt (e := fun _ => firstIs w [d0]) ta tb (by omega) (fun j h1 h2 => ?_) ⟨.bl _, H, I, rfl, ?_⟩
          · have hj : j = 0 := by simp at h1; omega
            subst hj
            exact key
          · have e : ((List.range (min #[u0].size #[Value.str w t].size)).all (fun _ => firstIs w [d0]) && #[u0].size == #[Value.str w t].size) = firstIs w [d0] := by
              show ((List.range 1).all (fun _ => firstIs w [d0]) && true) = _
              simp [List.range, List.range.loop]
            rw [e]
            exact q
/-- repr of such data -/
def rReprQ (K : PySem.W.Frag) : List V → Hp → VK → Prop := fun xs H Q => ∃ v d, xs = [v] ∧ Dq K H v d ∧ d.showable = true ∧ d.depth ≤ 60 ∧ d.shown.length ≤ sizeLine ∧ Q (.str d.shown) H
theorem call_reprQ (hg : X.A.guards = some []) (hu : X.A.units + 64 < cLine) : CallR X (.builtin "repr") (rReprQ X.K) := by
  intro pins s σ H xs us Q I r h
  obtain ⟨v, d, rfl, hd, hs, hdp, hl, q⟩ := h
  obtain ⟨u, rfl, ru⟩ := vals1 r
  obtain ⟨as, rd, hn⟩ := Dq.reads I d v u hd ru
  have fin : ∀ {a : Addr}, u = .ref a → wpAny (model X.prog X.w) X.A (call (.builtin "repr") [u]) (EP X pins σ Q) X.xe s := fun {a} e => by
    subst e
    exact repr_of_reads' rd hs (fun _ => hn) hg (by omega) (fun _ _ z => z) (fun h' u tk hk => ⟨.str _, H, I.kept hk, ⟨_, rfl⟩, q⟩) hl
  cases hd with
  | non => cases ru; exact PySem.P.repr_of_none ⟨.str _, H, I.tok _, ⟨_, rfl⟩, q⟩
  | bl b => cases ru; exact PySem.P.repr_of_bool ⟨.str _, H, I.tok _, ⟨_, rfl⟩, q⟩
  | int i => obtain ⟨t, rfl⟩ := ru; exact PySem.P.repr_of_int (by simpa [PyData.showable] using hs) ⟨.str _, H, I.tok _, ⟨_, rfl⟩, q⟩
  | str x => obtain ⟨t, rfl⟩ := ru; exact PySem.P.repr_of_str ⟨.str _, H, I.tok _, ⟨_, rfl⟩, q⟩ (by simpa [PyData.shown] using hl)
  | lst _ _ _ => exact fin ru
  | tup _ _ => exact fin ru
  | emp _ => exact fin ru
  | one _ _ => exact fin ru
/-! ### lists that are no module table -/
def NewM (H : Hp) (o : HO) (Q : VK) : Prop := ∀ p H', p ≠ sysModules → H p = none → Same H H' → H' p = some o → Q (.ref p) H'
def tLstM (t : TA) : TE := fun σ H Q => t σ H fun xs H1 => xs.length ≤ sizeLine ∧ NewM H1 (.lst xs) Q
theorem lstM {es : List Expr} {t : TA} {pos : Pos} (h : PA X es t) : PE X (.List es pos) (tLstM t) := by
  constructor
  intro pins s σ H Q I hq
  refine wpAny_List_spliced ?_
  refine thn (h.run pos pins s σ H _ I hq) fun us s1 ⟨xs, H1, I1, r, z, q⟩ => ⟨by rw [← r.length]; exact z, ?_⟩
  have hn := I1.hok.fresh (Nat.le_refl s1.heap.objs.size)
  refine ⟨.ref s1.heap.objs.size, _, I1.laid (t' := s1.toks) (o := .lst xs) (fun b u e => Heap.get?_push_of_some _ e) (Nat.le_refl _) ?_, rfl,
    q _ _ (Nat.ne_of_gt I1.big) hn (same_new hn) upd_same⟩
  exact ⟨z, us, 0, r, Heap.get?_push_size _ rfl⟩
theorem call_listM : CallR X (.type "list") (fun xs H Q => ∃ p ys, xs = [.ref p] ∧ SqT X.K H p ys ∧ NewM H (.lst ys) Q) := by
  intro pins s σ H xs us Q I r h
  obtain ⟨p, ys, rfl, hq, q⟩ := h
  obtain ⟨u, rfl, rx⟩ := vals1 r
  cases rx
  have hn := I.hok.fresh (Nat.le_refl s.heap.objs.size)
  have fin : ∀ (its : List Value), Vals ys its → ys.length ≤ sizeLine → ∀ (h' : Heap) (c' : Nat), (∀ b o', s.heap.get? b = some o' → h'.get? b = some o') →
      h'.get? s.heap.objs.size = some { cls := .type "list", dict := none, data := .seq its.toArray c', slots := #[] } → EP X pins σ Q (.ref s.heap.objs.size) { s with heap := h' } := fun its r' hz h' c' kp e =>
    ⟨.ref s.heap.objs.size, _, I.laid (t' := s.toks) kp (Nat.le_refl _) (show ObjOk X.prog X.w _ h' _ (.lst ys) from ⟨hz, its, c', r', e⟩), rfl, q _ _ (Nat.ne_of_gt I.big) hn (same_new hn) upd_same⟩
  obtain ⟨its, r', tp, hz⟩ := I.tuple hq
  have hlen := r'.length
  obtain ⟨o, ho, hc, n, hd⟩ := tp
  exact call_list_seq p (.inr rfl) ho hc hd (fun h' c' kp e => fin its r' hz h' c' kp e) (by simp only [List.size_toArray] <;> omega)
/-- xs != [] -/
def rNeLNil (K : PySem.W.Frag) : R2 := fun x y H Q => ∃ a b xs, x = .ref a ∧ y = .ref b ∧ SqL K H a xs ∧ SqL K H b [] ∧ Q (.bl (!xs.isEmpty)) H
theorem op_neLNil (hu : X.A.units + 64 < cLine) : OpR X (compareOp .NotEq) (rNeLNil X.K) := by
  intro pins s σ H x y v u Q I rx ry h
  obtain ⟨a, b, xs, rfl, rfl, ha, hb, q⟩ := h
  cases rx
  cases ry
  obtain ⟨its, rv, p, _⟩ := I.list ha
  obtain ⟨its2, rv2, p2, _⟩ := I.list hb
  cases rv2
  have hl := rv.length
  cases xs with
  | nil =>
    have : its = [] := List.eq_nil_of_length_eq_zero hl.symm
    subst this
    obtain ⟨o, ho, hc, n, hd⟩ := p.isList
    obtain ⟨o2, ho2, hc2, n2, hd2⟩ := p2.isList
    exact SeqAt.compareNe_shaped (Reads.list ho hc hd .nil) (Reads.list ho2 hc2 hd2 .nil) rfl rfl hu ⟨.bl _, H, I, rfl, q⟩
  | cons x xs =>
    cases its with
    | nil => simp at hl
    | cons i its => exact SeqAt.RcNeAt.lists_lengths p.isList p2.isList (by simp) (by omega) X.prog X.w _ _ ⟨.bl _, H, I, rfl, q⟩
end
end Cl

set_option maxHeartbeats 0
namespace Cl
open PySem PySem.Spec PyProof.Rows L2
/-! ### truths in sums -/
def b01 (b : Bool) : Int := if b = true then 1 else 0
section
variable {X : Cx}
theorem op_add_bi : OpR X (binaryOp .Add) (fun x y H Q => ∃ b j, x = .bl b ∧ y = .int j ∧ Q (.int (b01 b + j)) H) := by
  intro pins s σ H x y v u Q I rx ry h
  obtain ⟨b, j, rfl, rfl, q⟩ := h
  cases rx
  obtain ⟨t, rfl⟩ := ry
  exact PySem.IntBool.add_bool_int ⟨.int _, H, I.tok _, ⟨_, rfl⟩, q⟩
theorem op_sub_bi : OpR X (binaryOp .Sub) (fun x y H Q => ∃ b j, x = .bl b ∧ y = .int j ∧ Q (.int (b01 b - j)) H) := by
  intro pins s σ H x y v u Q I rx ry h
  obtain ⟨b, j, rfl, rfl, q⟩ := h
  cases rx
  obtain ⟨t, rfl⟩ := ry
  exact PySem.IntBool.sub_bool_int ⟨.int _, H, I.tok _, ⟨_, rfl⟩, q⟩
theorem op_sub_ib : OpR X (binaryOp .Sub) (fun x y H Q => ∃ j b, x = .int j ∧ y = .bl b ∧ Q (.int (j - b01 b)) H) := by
  intro pins s σ H x y v u Q I rx ry h
  obtain ⟨j, b, rfl, rfl, q⟩ := h
  cases ry
  obtain ⟨t, rfl⟩ := rx
  exact PySem.IntBool.sub_int_bool ⟨.int _, H, I.tok _, ⟨_, rfl⟩, q⟩
theorem op_mul_ib : OpR X (binaryOp .Mult) (fun x y H Q => ∃ j b, x = .int j ∧ y = .bl b ∧ Q (.int (j * b01 b)) H) := by
  intro pins s σ H x y v u Q I rx ry h
  obtain ⟨j, b, rfl, rfl, q⟩ := h
  cases ry
  obtain ⟨t, rfl⟩ := rx
  exact PySem.IntBool.mul_int_bool ⟨.int _, H, I.tok _, ⟨_, rfl⟩, q⟩
theorem op_eq_bi : OpR X (compareOp .Eq) (fun x y H Q => ∃ b j, x = .bl b ∧ y = .int j ∧ Q (.bl (b01 b == j)) H) := by
  intro pins s σ H x y v u Q I rx ry h
  obtain ⟨b, j, rfl, rfl, q⟩ := h
  cases rx
  obtain ⟨t, rfl⟩ := ry
  exact SeqAt.RcAt.bool_int b j t X.prog X.w _ _ ⟨.bl _, H, I, rfl, q⟩
theorem call_str_bool : CallR X (.type "str") (fun xs H Q => ∃ b : Bool, xs = [.bl b] ∧ Q (.str (if b then "True" else "False")) H) := by
  intro pins s σ H xs us Q I r h
  obtain ⟨b, rfl, q⟩ := h
  obtain ⟨u, rfl, r1⟩ := vals1 r
  cases r1
  exact PySem.P.str_of_bool ⟨.str _, H, I.tok _, ⟨_, rfl⟩, q⟩
end
/-! ### bounds of data -/
def Lf (p : Nat) : PyData → Prop
  | .none => True
  | .bool _ => True
  | .int i => i.natAbs < 2 ^ (130 + p)
  | .str x => x.cps.size ≤ 15 * 3 ^ p ∧ ∀ c ∈ x.cps.toList, c < 128
  | _ => False
inductive Gd (p : Nat) : Nat → PyData → Prop
  | lf {n : Nat} {d : PyData} : Lf p d → Gd p n d
  | lst {n : Nat} {ds : List PyData} : ds.length ≤ 5 + p → (∀ x ∈ ds, Gd p n x) → Gd p (n + 1) (.list ds)
  | tup {n : Nat} {ds : List PyData} : ds.length ≤ 5 + p → (∀ x ∈ ds, Gd p n x) → Gd p (n + 1) (.tuple ds)
  | emp {n : Nat} : Gd p (n + 1) (.dict [])
  | one {n : Nat} {i : Int} {x : PyData} : i.natAbs < 2 ^ 130 → Gd p n x → Gd p (n + 1) (.dict [(.int i, x)])
theorem Lf.up {p : Nat} {d : PyData} (h : Lf p d) : Lf (p + 1) d := by
  cases d with
  | int i =>
    have h : i.natAbs < 2 ^ (130 + p) := h
    show i.natAbs < 2 ^ (130 + p + 1)
    rw [Nat.pow_succ]
    omega
  | str x =>
    obtain ⟨h1, h2⟩ := h
    refine ⟨?_, h2⟩
    rw [Nat.pow_succ]
    omega
  | _ => exact h
theorem Gd.up {p n : Nat} {d : PyData} (h : Gd p n d) : Gd (p + 1) n d := by
  induction h with
  | lf h => exact .lf h.up
  | lst h _ ih => exact .lst (by omega) ih
  | tup h _ ih => exact .tup (by omega) ih
  | emp => exact .emp
  | one h _ ih => exact .one h ih
theorem Gd.deep {p n : Nat} {d : PyData} (h : Gd p n d) : Gd p (n + 1) d := by
  induction h with
  | lf h => exact .lf h
  | lst h _ ih => exact .lst h ih
  | tup h _ ih => exact .tup h ih
  | emp => exact .emp
  | one h _ ih => exact .one h ih
def bk : Nat → Nat
  | 0 => 135
  | n + 1 => 7 * (bk n + 1)
/-- data of which repr can be asked, and which the checkers can be asked -/
structure RepOk (d : PyData) : Prop where
  lv : d.leavesShort 200 = true
  sh : d.showable = true
  dp : d.depth ≤ 40
  bk : d.bulk ≤ 60000
theorem alls {m n : Nat} : ∀ {ds : List PyData}, (∀ x ∈ ds, x.leavesShort 200 = true ∧ x.showable = true ∧ x.depth ≤ n ∧ x.bulk ≤ m) →
    PyData.leavesShortAll 200 ds = true ∧ PyData.showableAll ds = true ∧ PyData.depthAll ds ≤ n ∧ PyData.bulkAll ds ≤ ds.length * (m + 1)
  | [], _ => ⟨rfl, rfl, Nat.zero_le _, Nat.zero_le _⟩
  | d :: ds, h => by
    obtain ⟨a1, a2, a3, a4⟩ := h d (List.mem_cons_self ..)
    obtain ⟨b1, b2, b3, b4⟩ := alls fun x hx => h x (List.mem_cons_of_mem _ hx)
    refine ⟨?_, ?_, ?_, ?_⟩
    · simp only [PyData.leavesShortAll, a1, b1, Bool.and_self]
    · simp only [PyData.showableAll, a2, b2, Bool.and_self]
    · simp only [PyData.depthAll]
      omega
    · simp only [PyData.bulkAll, List.length_cons]
      rw [Nat.succ_mul]
      omega
theorem bk_ge (n : Nat) : 135 ≤ bk n := by
  induction n with
  | zero => exact Nat.le_refl _
  | succ n ih => show 135 ≤ 7 * (bk n + 1); omega
theorem Gd.fine {p n : Nat} {d : PyData} (hp : p ≤ 2) (h : Gd p n d) : d.leavesShort 200 = true ∧ d.showable = true ∧ d.depth ≤ n ∧ d.bulk ≤ bk n := by
  induction h with
  | @lf n d h =>
    have hb := bk_ge n
    cases d with
    | none => exact ⟨rfl, rfl, Nat.zero_le _, Nat.zero_le _⟩
    | bool _ => exact ⟨rfl, rfl, Nat.zero_le _, Nat.zero_le _⟩
    | int i =>
      have h : i.natAbs < 2 ^ (130 + p) := h
      have h : okI i := Nat.lt_of_lt_of_le h (Nat.pow_le_pow_right (by omega) (by omega))
      have h1 := h.len
      have h2 := h.log
      refine ⟨?_, ?_, Nat.zero_le _, Nat.zero_le _⟩
      · simp only [PyData.leavesShort, decide_eq_true_iff]
        exact h1
      · simp only [PyData.showable, decide_eq_true_iff]
        omega
    | str x =>
      obtain ⟨h1, h2⟩ := h
      refine ⟨?_, rfl, Nat.zero_le _, ?_⟩
      · simp only [PyData.leavesShort, List.all_eq_true, decide_eq_true_iff]
        intro c hc
        exact Nat.lt_trans (h2 c hc) (by decide)
      · show x.cps.size ≤ bk n
        have : p = 0 ∨ p = 1 ∨ p = 2 := by omega
        rcases this with rfl | rfl | rfl <;> simp at h1 <;> omega
    | list _ => exact h.elim
    | tuple _ => exact h.elim
    | dict _ => exact h.elim
  | @lst n ds hl _ ih =>
    obtain ⟨a1, a2, a3, a4⟩ := alls ih
    refine ⟨a1, a2, Nat.succ_le_succ a3, Nat.le_trans a4 ?_⟩
    show _ ≤ 7 * (bk n + 1)
    exact Nat.mul_le_mul_right _ (by omega)
  | @tup n ds hl _ ih =>
    obtain ⟨a1, a2, a3, a4⟩ := alls ih
    refine ⟨a1, a2, Nat.succ_le_succ a3, Nat.le_trans a4 ?_⟩
    show _ ≤ 7 * (bk n + 1)
    exact Nat.mul_le_mul_right _ (by omega)
  | emp => exact ⟨rfl, rfl, by simp [PyData.depth, PyData.depthKv], by simp [PyData.bulk, PyData.bulkKv]⟩
  | @one n i x hi _ ih =>
    obtain ⟨a1, a2, a3, a4⟩ := ih
    have h : okI i := Nat.lt_of_lt_of_le hi (Nat.pow_le_pow_right (by omega) (by omega))
    have h1 := h.len
    have h2 := h.log
    refine ⟨?_, ?_, ?_, ?_⟩
    · simp only [PyData.leavesShort, PyData.leavesShortKv, a1, Bool.and_true, decide_eq_true_iff]
      exact h1
    · simp only [PyData.showable, PyData.showableKv, a2, Bool.and_true, decide_eq_true_iff]
      omega
    · simp only [PyData.depth, PyData.depthKv]
      omega
    · simp only [PyData.bulk, PyData.bulkKv]
      show _ ≤ 7 * (bk n + 1)
      omega
theorem Gd.rep {p n : Nat} {d : PyData} (hp : p ≤ 2) (hn : n ≤ 3) (h : Gd p n d) : RepOk d := by
  obtain ⟨a1, a2, a3, a4⟩ := h.fine hp
  refine ⟨a1, a2, by omega, Nat.le_trans a4 ?_⟩
  have : n = 0 ∨ n = 1 ∨ n = 2 ∨ n = 3 := by omega
  rcases this with rfl | rfl | rfl | rfl <;> decide
theorem asciiU : ∀ c < 128, ∀ x ∈ Unicode.upperOf c, x < 128 := by decide +kernel
theorem upper_lf {p : Nat} {x : Str} (h : Lf p (.str x)) : Lf (p + 1) (.str (Txt.upper x)) := by
  obtain ⟨h1, h2⟩ := h
  refine ⟨?_, ?_⟩
  · show (placed x fun _ c => Unicode.upperOf c).size ≤ _
    have := placed_le3 x (fun _ c => Unicode.upperOf c) (fun i c => StrLaws.upperOf_le3 c)
    have e : x.length = x.cps.size := rfl
    rw [Nat.pow_succ]
    omega
  · intro c hc
    have hc : c ∈ (placed x fun _ c => Unicode.upperOf c) := Array.mem_toList_iff.mp hc
    unfold placed at hc
    rw [Array.mem_flatten] at hc
    obtain ⟨as, h3, h4⟩ := hc
    rw [Array.mem_mapIdx] at h3
    obtain ⟨i, hi, rfl⟩ := h3
    have h4 : c ∈ Unicode.upperOf x.cps[i] := by simpa using h4
    exact asciiU _ (h2 _ (by simp)) _ h4
theorem int_lf {p : Nat} {i : Int} (hp : p ≤ 1) (h : i.natAbs < 2 ^ (130 + p)) : Lf (p + 1) (.str (Str.ofString (toString i))) := by
  refine ⟨?_, ?_⟩
  · have h : i.natAbs < 10 ^ 40 := Nat.lt_of_lt_of_le h (Nat.le_trans (Nat.pow_le_pow_right (n := 2) (by omega) (show 130 + p ≤ 131 by omega)) (by decide))
    have h1 := int_text_length_le10 (by decide) h
    have e : (Str.ofString (toString i)).length = (Str.ofString (toString i)).cps.size := rfl
    have e2 := PySem.ofString_length (toString i)
    have hk : 45 ≤ 15 * 3 ^ (p + 1) := by
      have : p = 0 ∨ p = 1 := by omega
      rcases this with rfl | rfl <;> decide
    show (Str.ofString (toString i)).cps.size ≤ 15 * 3 ^ (p + 1)
    omega
  · intro c hc
    by_cases h3 : c ≠ 45 ∧ (c < 48 ∨ 57 < c)
    · exact absurd hc (int_text_free' c h3 i)
    · omega
end Cl

namespace Cl
/-! ### where a line misses a cell, one of six ways lies beyond -/
def In1 (L U a b P Q : Int) : Prop := L * Q ≤ a * Q + b * P ∧ a * Q + b * P < U * Q
theorem lin_nn {a b P1 Q1 P2 Q2 P3 Q3 : Int} (q1 : 0 < Q1) (q2 : 0 < Q2) (q3 : 0 < Q3) (h12 : P1 * Q2 ≤ P2 * Q1) (h23 : P2 * Q3 ≤ P3 * Q2) (e1 : 0 ≤ a * Q1 + b * P1) (e3 : 0 ≤ a * Q3 + b * P3) : 0 ≤ a * Q2 + b * P2 := by
  refine Int.not_lt.mp fun z => ?_
  by_cases hb : 0 ≤ b
  · have k1 := Int.mul_nonneg e1 (Int.le_of_lt q2)
    have k2 := Int.mul_le_mul_of_nonneg_left h12 hb
    have k3 : (a * Q2 + b * P2) * Q1 = (a * Q1 + b * P1) * Q2 + (b * (P2 * Q1) - b * (P1 * Q2)) := by grind
    have k4 := Int.mul_neg_of_neg_of_pos z q1
    omega
  · have k1 := Int.mul_nonneg e3 (Int.le_of_lt q2)
    have k2 := Int.mul_le_mul_of_nonpos_left (show b ≤ 0 by omega) h23
    have k3 : (a * Q2 + b * P2) * Q3 = (a * Q3 + b * P3) * Q2 + (b * (P2 * Q3) - b * (P3 * Q2)) := by grind
    have k4 := Int.mul_neg_of_neg_of_pos z q3
    omega
theorem lin_pos {a b P1 Q1 P2 Q2 P3 Q3 : Int} (q1 : 0 < Q1) (q2 : 0 < Q2) (q3 : 0 < Q3) (h12 : P1 * Q2 ≤ P2 * Q1) (h23 : P2 * Q3 ≤ P3 * Q2) (e1 : 0 < a * Q1 + b * P1) (e3 : 0 < a * Q3 + b * P3) : 0 < a * Q2 + b * P2 := by
  refine Int.not_le.mp fun z => ?_
  by_cases hb : 0 ≤ b
  · have k1 := Int.mul_pos e1 q2
    have k2 := Int.mul_le_mul_of_nonneg_left h12 hb
    have k3 : (a * Q2 + b * P2) * Q1 = (a * Q1 + b * P1) * Q2 + (b * (P2 * Q1) - b * (P1 * Q2)) := by grind
    have k4 := Int.mul_nonneg (show 0 ≤ -(a * Q2 + b * P2) by omega) (Int.le_of_lt q1)
    rw [Int.neg_mul] at k4
    omega
  · have k1 := Int.mul_pos e3 q2
    have k2 := Int.mul_le_mul_of_nonpos_left (show b ≤ 0 by omega) h23
    have k3 : (a * Q2 + b * P2) * Q3 = (a * Q3 + b * P3) * Q2 + (b * (P2 * Q3) - b * (P3 * Q2)) := by grind
    have k4 := Int.mul_nonneg (show 0 ≤ -(a * Q2 + b * P2) by omega) (Int.le_of_lt q3)
    rw [Int.neg_mul] at k4
    omega
def Cvx (A : Int → Int → Prop) : Prop := ∀ P1 Q1 P2 Q2 P3 Q3, 0 < Q1 → 0 < Q2 → 0 < Q3 → P1 * Q2 ≤ P2 * Q1 → P2 * Q3 ≤ P3 * Q2 → A P1 Q1 → A P3 Q3 → A P2 Q2
theorem in1_cvx {L U a b : Int} : Cvx (In1 L U a b) := by
  intro P1 Q1 P2 Q2 P3 Q3 q1 q2 q3 h12 h23 ⟨e1, e2⟩ ⟨e3, e4⟩
  have k1 := lin_nn (a := a - L) (b := b) q1 q2 q3 h12 h23 (by rw [Int.sub_mul]; omega) (by rw [Int.sub_mul]; omega)
  have k2 := lin_pos (a := U - a) (b := -b) q1 q2 q3 h12 h23 (by rw [Int.sub_mul, Int.neg_mul]; omega) (by rw [Int.sub_mul, Int.neg_mul]; omega)
  rw [Int.sub_mul] at k1
  rw [Int.sub_mul, Int.neg_mul] at k2
  exact ⟨by omega, by omega⟩
theorem seg_cvx : Cvx fun P Q => 0 ≤ P ∧ P ≤ Q := by
  intro P1 Q1 P2 Q2 P3 Q3 q1 q2 q3 h12 h23 ⟨e1, e2⟩ ⟨e3, e4⟩
  have k1 := lin_nn (a := 0) (b := 1) q1 q2 q3 h12 h23 (by omega) (by omega)
  have k2 := lin_nn (a := 1) (b := -1) q1 q2 q3 h12 h23 (by omega) (by omega)
  exact ⟨by omega, by omega⟩
/-- three convex sets of shares, each two of them with one in common, have one in common -/
theorem helly {A B C : Int → Int → Prop} (cA : Cvx A) (cB : Cvx B) (cC : Cvx C) {P1 Q1 P2 Q2 P3 Q3 : Int} (q1 : 0 < Q1) (q2 : 0 < Q2) (q3 : 0 < Q3) (a1 : A P1 Q1) (b1 : B P1 Q1) (b2 : B P2 Q2) (c2 : C P2 Q2) (a3 : A P3 Q3) (c3 : C P3 Q3) :
    ∃ P Q, 0 < Q ∧ A P Q ∧ B P Q ∧ C P Q := by
  rcases Int.le_total (P1 * Q2) (P2 * Q1) with x | x
  · rcases Int.le_total (P2 * Q3) (P3 * Q2) with y | y
    · exact ⟨P2, Q2, q2, cA _ _ _ _ _ _ q1 q2 q3 x y a1 a3, b2, c2⟩
    · rcases Int.le_total (P1 * Q3) (P3 * Q1) with z | z
      · exact ⟨P3, Q3, q3, a3, cB _ _ _ _ _ _ q1 q3 q2 z y b1 b2, c3⟩
      · exact ⟨P1, Q1, q1, a1, b1, cC _ _ _ _ _ _ q3 q1 q2 z x c3 c2⟩
  · rcases Int.le_total (P1 * Q3) (P3 * Q1) with z | z
    · exact ⟨P1, Q1, q1, a1, b1, cC _ _ _ _ _ _ q2 q1 q3 x z c2 c3⟩
    · rcases Int.le_total (P2 * Q3) (P3 * Q2) with y | y
      · exact ⟨P3, Q3, q3, a3, cB _ _ _ _ _ _ q2 q3 q1 y z b2 b1, c3⟩
      · exact ⟨P2, Q2, q2, cA _ _ _ _ _ _ q3 q2 q1 y x a3 a1, b2, c2⟩
theorem in_seg {L U a b : Int} (hLU : L < U) (h1 : a < U ∨ a + b < U) (h2 : L ≤ a ∨ L ≤ a + b) : ∃ P Q, 0 < Q ∧ (0 ≤ P ∧ P ≤ Q) ∧ In1 L U a b P Q := by
  unfold In1
  by_cases c0 : L ≤ a ∧ a < U
  · exact ⟨0, 1, by omega, by omega, by omega, by omega⟩
  by_cases c1 : L ≤ a + b ∧ a + b < U
  · exact ⟨1, 1, by omega, by omega, by omega, by omega⟩
  by_cases c2 : a < L
  · have hb : 0 < b := by omega
    have e : a * b + b * (L - a) = L * b := by grind
    refine ⟨L - a, b, hb, ⟨by omega, by omega⟩, by rw [e]; exact Int.le_refl _, ?_⟩
    rw [e]
    exact Int.mul_lt_mul_of_pos_right hLU hb
  · have hb : 0 < -b := by omega
    have e : a * -b + b * (a - L) = L * -b := by grind
    refine ⟨a - L, -b, hb, ⟨by omega, by omega⟩, by rw [e]; exact Int.le_refl _, ?_⟩
    rw [e]
    exact Int.mul_lt_mul_of_pos_right hLU hb
/-- a straight line that goes to the right, rising -/
theorem both_up {L1 U1 L2 U2 a b c d : Int} (hb : 0 < b) (hd : 0 < d) (u1 : L1 < U1) (u2 : L2 < U2) (h1 : b * c + d * L1 < b * U2 + d * a) (h2 : d * a + b * L2 < d * U1 + b * c) : ∃ P Q, 0 < Q ∧ In1 L1 U1 a b P Q ∧ In1 L2 U2 c d P Q := by
  unfold In1
  by_cases k : b * L2 ≤ b * c + d * L1 - d * a
  · have e1 : a * b + b * (L1 - a) = L1 * b := by grind
    have e2 : c * b + d * (L1 - a) = b * c + d * L1 - d * a := by grind
    refine ⟨L1 - a, b, hb, ⟨by rw [e1]; exact Int.le_refl _, by rw [e1]; exact Int.mul_lt_mul_of_pos_right u1 hb⟩, by rw [e2, Int.mul_comm L2]; exact k, by rw [e2, Int.mul_comm U2]; omega⟩
  · have e1 : c * d + d * (L2 - c) = L2 * d := by grind
    have e2 : a * d + b * (L2 - c) = d * a + b * L2 - b * c := by grind
    refine ⟨L2 - c, d, hd, ⟨by rw [e2, Int.mul_comm L1]; omega, by rw [e2, Int.mul_comm U1]; omega⟩, by rw [e1]; exact Int.le_refl _, by rw [e1]; exact Int.mul_lt_mul_of_pos_right u2 hd⟩
/-- one that goes to the right, falling by e -/
theorem both_down {L1 U1 L2 U2 a b c e : Int} (hb : 0 < b) (he : 0 < e) (u1 : L1 < U1) (u2 : L2 < U2) (h3 : e * a + b * c < e * U1 + b * U2) (h4 : e * L1 + b * L2 ≤ e * a + b * c) : ∃ P Q, 0 < Q ∧ In1 L1 U1 a b P Q ∧ In1 L2 U2 c (-e) P Q := by
  unfold In1
  have m1 := Int.mul_lt_mul_of_pos_left u1 he
  have m2 := Int.mul_lt_mul_of_pos_left u2 hb
  by_cases k : b * c + e * a < b * U2 + e * L1
  · have e1 : a * b + b * (L1 - a) = L1 * b := by grind
    have e2 : c * b + -e * (L1 - a) = b * c - e * L1 + e * a := by grind
    refine ⟨L1 - a, b, hb, ⟨by rw [e1]; exact Int.le_refl _, by rw [e1]; exact Int.mul_lt_mul_of_pos_right u1 hb⟩, by rw [e2, Int.mul_comm L2]; omega, by rw [e2, Int.mul_comm U2]; omega⟩
  by_cases k2 : e * a + b * c < e * U1 + b * L2
  · have e1 : c * e + -e * (c - L2) = L2 * e := by grind
    have e2 : a * e + b * (c - L2) = e * a + b * c - b * L2 := by grind
    refine ⟨c - L2, e, he, ⟨by rw [e2, Int.mul_comm L1]; omega, by rw [e2, Int.mul_comm U1]; omega⟩, by rw [e1]; exact Int.le_refl _, by rw [e1]; exact Int.mul_lt_mul_of_pos_right u2 he⟩
  · have e1 : a * (2 * b * e) + b * ((c - U2) * b + (U1 - a) * e) = (e * a + b * c - b * U2 + e * U1) * b := by grind
    have e2 : c * (2 * b * e) + -e * ((c - U2) * b + (U1 - a) * e) = (b * c + b * U2 - e * U1 + e * a) * e := by grind
    have f1 : L1 * (2 * b * e) = (2 * (e * L1)) * b := by grind
    have f2 : U1 * (2 * b * e) = (2 * (e * U1)) * b := by grind
    have f3 : L2 * (2 * b * e) = (2 * (b * L2)) * e := by grind
    have f4 : U2 * (2 * b * e) = (2 * (b * U2)) * e := by grind
    refine ⟨(c - U2) * b + (U1 - a) * e, 2 * b * e, Int.mul_pos (by omega) he, ⟨?_, ?_⟩, ?_, ?_⟩
    · rw [e1, f1]
      exact Int.mul_le_mul_of_nonneg_right (by omega) (Int.le_of_lt hb)
    · rw [e1, f2]
      exact Int.mul_lt_mul_of_pos_right (by omega) hb
    · rw [e2, f3]
      exact Int.mul_le_mul_of_nonneg_right (by omega) (Int.le_of_lt he)
    · rw [e2, f4]
      exact Int.mul_lt_mul_of_pos_right (by omega) he
end Cl

namespace Cl
open PySem PySem.Spec PyProof.Rows L2
section
variable {X : Cx}
theorem bool_beq (a b : Bool) : (Value.bool a == Value.bool b) = decide (a = b) := by
  cases a <;> cases b <;> rfl
theorem op_isB : OpR X (compareOp .Is) (fun x y H Q => ∃ a b, x = .bl a ∧ y = .bl b ∧ Q (.bl (decide (a = b))) H) := by
  intro pins s σ H x y v u Q I rx ry h
  obtain ⟨a, b, rfl, rfl, q⟩ := h
  cases rx
  cases ry
  exact wpAny_is_plain rfl (fin_bl I q (bool_beq a b).symm)
theorem op_isNotB : OpR X (compareOp .IsNot) (fun x y H Q => ∃ a b, x = .bl a ∧ y = .bl b ∧ Q (.bl (!decide (a = b))) H) := by
  intro pins s σ H x y v u Q I rx ry h
  obtain ⟨a, b, rfl, rfl, q⟩ := h
  cases rx
  cases ry
  exact wpAny_isNot_plain rfl (fin_bl I q (congrArg not (bool_beq a b).symm))
end
end Cl

set_option maxHeartbeats 0
namespace Cl
open PySem PySem.Spec PyProof.Rows L2
def topS (i : Nat) : Stmt := PySem.Challenge.pw_cornerlines_k28_trouble_of_any_paths.main.body.getD i (.Pass ⟨0, 0, 0, 0⟩)

abbrev slinks_of : Stmt := topS 1
theorem sclinks_of : FnScope ["paths", "path", "half"] ["paths"] (defScope slinks_of) := ⟨rfl, rfl, rfl, by decide +kernel, rfl, by decide +kernel, by decide +kernel⟩
abbrev shalves_of : Stmt := topS 2
theorem schalves_of : FnScope ["path"] ["path"] (defScope shalves_of) := ⟨rfl, rfl, rfl, by decide +kernel, rfl, by decide +kernel, by decide +kernel⟩
abbrev slink_of : Stmt := topS 3
theorem sclink_of : FnScope ["one", "other"] ["one", "other"] (defScope slink_of) := ⟨rfl, rfl, rfl, by decide +kernel, rfl, by decide +kernel, by decide +kernel⟩
abbrev sstep_of : Stmt := topS 5
theorem scstep_of : FnScope ["line", "x", "y", "far_x", "far_y"] ["line"] (defScope sstep_of) := ⟨rfl, rfl, rfl, by decide +kernel, rfl, by decide +kernel, by decide +kernel⟩
abbrev sturn_of : Stmt := topS 6
theorem scturn_of : FnScope ["one", "other"] ["one", "other"] (defScope sturn_of) := ⟨rfl, rfl, rfl, by decide +kernel, rfl, by decide +kernel, by decide +kernel⟩
abbrev sside_of : Stmt := topS 7
theorem scside_of : FnScope ["line", "point"] ["line", "point"] (defScope sside_of) := ⟨rfl, rfl, rfl, by decide +kernel, rfl, by decide +kernel, by decide +kernel⟩
abbrev strouble_of : Stmt := topS 9
theorem sctrouble_of : FnScope ["paths", "links"] ["paths"] (defScope strouble_of) := ⟨rfl, rfl, rfl, by decide +kernel, rfl, by decide +kernel, by decide +kernel⟩
abbrev strouble_on : Stmt := topS 10
theorem sctrouble_on : FnScope ["paths", "links", "corner", "path", "link"] ["paths", "links"] (defScope strouble_on) := ⟨rfl, rfl, rfl, by decide +kernel, rfl, by decide +kernel, by decide +kernel⟩
abbrev strouble_across : Stmt := topS 11
theorem sctrouble_across : FnScope ["links", "k", "one", "other"] ["links"] (defScope strouble_across) := ⟨rfl, rfl, rfl, by decide +kernel, rfl, by decide +kernel, by decide +kernel⟩
abbrev sare_across : Stmt := topS 12
theorem scare_across : FnScope ["one", "other"] ["one", "other"] (defScope sare_across) := ⟨rfl, rfl, rfl, by decide +kernel, rfl, by decide +kernel, by decide +kernel⟩
abbrev sparts : Stmt := topS 13
theorem scparts : FnScope ["link", "other"] ["link", "other"] (defScope sparts) := ⟨rfl, rfl, rfl, by decide +kernel, rfl, by decide +kernel, by decide +kernel⟩
abbrev s_law_deck : Stmt := topS 15
theorem sc_law_deck : FnScope ["_law_script", "_law_cell"] ["_law_script"] (defScope s_law_deck) := ⟨rfl, rfl, rfl, by decide +kernel, rfl, by decide +kernel, by decide +kernel⟩
abbrev s_law_draw : Stmt := topS 16
theorem sc_law_draw : FnScope ["_law_deck_here", "_law_most", "_law_cell", "_law_number"] ["_law_deck_here", "_law_most"] (defScope s_law_draw) := ⟨rfl, rfl, rfl, by decide +kernel, rfl, by decide +kernel, by decide +kernel⟩
abbrev s_law_turn : Stmt := topS 17
theorem sc_law_turn : FnScope ["_law_one", "_law_other"] ["_law_one", "_law_other"] (defScope s_law_turn) := ⟨rfl, rfl, rfl, by decide +kernel, rfl, by decide +kernel, by decide +kernel⟩
abbrev s_law_less : Stmt := topS 18
theorem sc_law_less : FnScope ["_law_one", "_law_other"] ["_law_one", "_law_other"] (defScope s_law_less) := ⟨rfl, rfl, rfl, by decide +kernel, rfl, by decide +kernel, by decide +kernel⟩
abbrev s_law_common : Stmt := topS 19
theorem sc_law_common : FnScope ["_law_one", "_law_other", "_law_a", "_law_b", "_law_c", "_law_e", "_law_way", "_law_there", "_law_far", "_law_whole", "_law_first", "_law_last", "_law_point", "_law_sign", "_law_share"] ["_law_one", "_law_other"] (defScope s_law_common) := ⟨rfl, rfl, rfl, by decide +kernel, rfl, by decide +kernel, by decide +kernel⟩
abbrev s_law_row : Stmt := topS 20
theorem sc_law_row : FnScope ["_law_deck_here", "_law_lots", "_law_wide", "_law_found", "_law_k"] ["_law_deck_here", "_law_lots", "_law_wide"] (defScope s_law_row) := ⟨rfl, rfl, rfl, by decide +kernel, rfl, by decide +kernel, by decide +kernel⟩
abbrev s_law_links : Stmt := topS 21
theorem sc_law_links : FnScope ["_law_paths_here", "_law_found", "_law_path", "_law_one", "_law_other"] ["_law_paths_here"] (defScope s_law_links) := ⟨rfl, rfl, rfl, by decide +kernel, rfl, by decide +kernel, by decide +kernel⟩
abbrev s_law_is_on : Stmt := topS 22
theorem sc_law_is_on : FnScope ["_law_corner", "_law_link", "_law_one", "_law_other"] ["_law_corner", "_law_link"] (defScope s_law_is_on) := ⟨rfl, rfl, rfl, by decide +kernel, rfl, by decide +kernel, by decide +kernel⟩
abbrev s_law_do_cross : Stmt := topS 23
theorem sc_law_do_cross : FnScope ["_law_link", "_law_other", "_law_some", "_law_n", "_law_m", "_law_d", "_law_end"] ["_law_link", "_law_other"] (defScope s_law_do_cross) := ⟨rfl, rfl, rfl, by decide +kernel, rfl, by decide +kernel, by decide +kernel⟩
abbrev s_law_trouble : Stmt := topS 24
theorem sc_law_trouble : FnScope ["_law_paths_here", "_law_links_here", "_law_corner", "_law_path", "_law_link", "_law_k", "_law_other"] ["_law_paths_here"] (defScope s_law_trouble) := ⟨rfl, rfl, rfl, by decide +kernel, rfl, by decide +kernel, by decide +kernel⟩
abbrev s_law_paths : Stmt := topS 25
theorem sc_law_paths : FnScope ["_law_deck_here", "_law_wide", "_law_found", "_law_k", "_law_lots", "_law_path", "_law_far", "_law_i", "_law_j", "_law_x", "_law_y"] ["_law_deck_here"] (defScope s_law_paths) := ⟨rfl, rfl, rfl, by decide +kernel, rfl, by decide +kernel, by decide +kernel⟩
abbrev s_law_right : Stmt := topS 26
theorem sc_law_right : FnScope ["_law_paths_here", "_law_due"] ["_law_paths_here", "_law_due"] (defScope s_law_right) := ⟨rfl, rfl, rfl, by decide +kernel, rfl, by decide +kernel, by decide +kernel⟩
abbrev slaw : Stmt := topS 27
theorem sclaw : FnScope ["_law_script", "_law_deck_here", "_law_turn_here", "_law_paths_here", "_law_due", "_law_path"] ["_law_script"] (defScope slaw) := ⟨rfl, rfl, rfl, by decide +kernel, rfl, by decide +kernel, by decide +kernel⟩
structure Bt (mg : Str → Option Value) : Prop where
  list : mg "list" = none
  sum : mg "sum" = none
  len : mg "len" = none
  range : mg "range" = none
  max : mg "max" = none
  min : mg "min" = none
  tuple : mg "tuple" = none
  int : mg "int" = none
  sorted : mg "sorted" = none
  set : mg "set" = none
  repr : mg "repr" = none
  zip : mg "zip" = none
  enumerate : mg "enumerate" = none
theorem cut63 {ns : List Int} (h : ns.length ≤ 63) : cutV (ns.map V.int) none (some 63) = ns.map V.int := by
  unfold cutV
  rw [HT.sIx_none, show HT.sIx (ns.map V.int).length (ns.map V.int).length (some 63) = min 63 (ns.map V.int).length from HT.sIx_nat _ _ 63, List.length_map]
  rw [List.drop_zero, List.take_of_length_le (by rw [List.length_map]; omega)]
section
variable {P : Program} {w : World} {K : PySem.W.Frag} {mg : Str → Option Value} {base : Heap}
theorem ok_law_deck {f : Addr} {fd : FuncData} (F : Fun K "_law_deck" "_law_deck" s_law_deck f fd) (T : Bt mg) :
    FnG P w K mg base CX0 1 f fd ["_law_script"] (spDeck K) := by
  refine okG (k := 0) F sc_law_deck (fun vs H Q E h => ?_) (fun cdv A outer s H vs Q E hr h => ?_)
  · obtain ⟨a, ns, rfl, _⟩ := h
    rfl
  · obtain ⟨a, ns, rfl, hS, hlen, q⟩ := h
    refine ⟨_, (pss_one (ps_ret (lstN (pa_cons (pe_revL (pe_callTy call_list_ofN (by rfl) T.list (by decide +kernel) (pa_cons (pe_slice sl_listN (pv 0) po_none (po_some pe_int)) pa_nil))) (pa_cons (pe_op op_add (pe_callB (cr_sum rfl) (by rfl) T.sum (by decide +kernel) (pa_cons (pe_lc (own := [("_law_cell", 1)]) (g := gName 1) (tt := tYes) (by rfl) sc_law_deck.nd (pi_list (pe_slice sl_listN (pv 0) po_none (po_some pe_int))) (blkOk_by (own := [("_law_cell", 1)]) (N := ["_law_script", "_law_cell"]) (sc := defScope s_law_deck) (by decide +kernel)) (fun _ _ _ _ _ => (pg_name (i := 1) sc_law_deck.nd rfl (.inl rfl))) (fun _ _ _ _ _ => pts_nil) (fun _ _ _ _ _ => (pe_op op_mod (pv 1) pe_int))) pa_nil)) (pe_op op_mul pe_int (pe_callB call_len_seq (by rfl) T.len (by decide +kernel) (pa_cons (pe_slice sl_listN (pv 0) po_none (po_some pe_int)) pa_nil)))) (pa_cons pe_int pa_nil)))))), ?_⟩
    -- list(script[:63])[::-1]
    refine ⟨.ref a, rfl, 63, rfl, a, _, rfl, hS, fun p1 H1 n1 s1 g1 => ⟨p1, _, rfl, .inl (.inl (.inl g1)), fun p2 H2 n2 s2 g2 => ⟨p2, _, rfl, .inl (.inl g2), fun l H3 n3 s3 g3 => ?_⟩⟩⟩
    have t3 : Same H H3 := (s1.trans s2).trans s3
    rw [cut63 hlen, ← List.map_reverse] at g3
    -- sum([cell % 1000003 for cell in script[:63]])
    refine ⟨.ref a, rfl, 63, rfl, a, _, rfl, t3.seq hS, fun p4 H4 n4 s4 g4 => ⟨p4, rfl, ⟨_, .inl (.inl g4)⟩, fun p5 n5 => ?_⟩⟩
    rw [cut63 hlen] at g4
    refine lcL (K := K) (a := p4) (xs := ns.map V.int) (fun i H' => Same H4 H' ∧ H' p5 = some (.lst ((ns.take i).map fun z => V.int (z % 1000003)))) n5 (fun H' e1 e2 => ⟨e1, e2⟩) (fun i H' _ z => .inl (.inl (z.1 _ _ g4))) (fun i x H' hx z => ?_) (fun H5 z => ?_)
    · obtain ⟨e1, e2⟩ := z
      rw [List.getElem?_map] at hx
      cases hn : ns[i]? with
      | none => rw [hn] at hx; cases hx
      | some y =>
        rw [hn] at hx
        cases hx
        refine ⟨rfl, _, rfl, _, _, rfl, rfl, (by show (0 : Int) < 1000003; decide), _, e2, ?_, ?_, ?_⟩
        · rw [List.length_map, List.length_take]
          exact small1000 (by omega)
        · intro b o e
          rw [upd_ne (ne_of_none e n5)]
          exact e1 _ _ e
        · rw [upd_same, List.take_add_one, hn, List.map_append]
          rfl
    · obtain ⟨e1, e2⟩ := z
      have l1 : (ns.map V.int).length = ns.length := List.length_map _
      rw [l1, List.take_length] at e2
      have t5 : Same H H5 := (t3.trans s4).trans e1
      refine ⟨p5, ns.map fun z => z % 1000003, rfl, .inl (.inl ?_), .ref a, rfl, 63, rfl, a, _, rfl, t5.seq hS, fun p6 H6 n6 s6 g6 => ?_⟩
      · rw [e2, List.map_map]
        rfl
      refine ⟨p6, _, rfl, .inl (.inl (.inl g6)), _, _, rfl, rfl, .inl (by decide), _, _, rfl, rfl, (by show 3 ≤ sizeLine; decide), fun d H7 n7 s7 g7 => ?_⟩
      have t37 : Same H3 H7 := ((s4.trans e1).trans s6).trans s7
      have hl : H7 l = some (.lst (ns.reverse.map V.int)) := t37 _ _ g3
      exact q d l H7 (((t5.trans s6)).trans s7) ⟨ne_of g7 hl (by intro z; cases hns : ns.reverse with
        | nil => rw [hns] at z; cases z
        | cons y r => rw [hns] at z; cases z), _, _, _, g7, hl, by rw [List.length_reverse]; exact hlen⟩

theorem ok_law_draw {f : Addr} {fd : FuncData} (F : Fun K "_law_draw" "_law_draw" s_law_draw f fd) (T : Bt mg) :
    FnG P w K mg base CX0 1 f fd ["_law_deck_here", "_law_most"] spDraw := by
  refine okG (k := 0) F sc_law_draw (fun vs H Q E h => ?_) (fun cdv A outer s H vs Q E hr h => ?_)
  · obtain ⟨d, l, m, rfl, _⟩ := h
    rfl
  · obtain ⟨d, l, m, rfl, hm, hm2, D, q⟩ := h
    refine ⟨_, (pss_cons (ps_asg (pe_op op_add (pe_ix ix_list (pv 0) pe_int (fun _ _ => rfl)) pe_int) (pg_sub (pv 0) pe_int set_list))
      (pss_cons (ps_set (i := 2) sc_law_draw.nd rfl (.inl rfl) (pe_ix ix_list (pv 0) pe_int (fun _ _ => rfl)))
      (cutS (ps_if (pt_cmpR (op_neD hr.room.units) (pe_ix ix_list (pv 0) pe_int (fun _ _ => rfl)) (lstN pa_nil) (nomark _)) (pss_cons (ps_set (i := 2) sc_law_draw.nd rfl (.inl rfl) (pe_bm0 PySem.F.plainAttrs_list PySem.F.slot_list_pop PySem.F.type_list_pop mt_pop (pe_ix ix_list (pv 0) pe_int (fun _ _ => rfl))))
      (pss_one (ps_if (pt_cmpR op_ge (pv 2) (pe_op op_pow pe_int pe_int) (nomark _)) (pss_cons (ps_expr (pe_bm PySem.F.plainAttrs_list PySem.F.slot_list_append PySem.F.type_list_append mt_append (pe_ix ix_list (pv 0) pe_int (fun _ _ => rfl)) (pa_cons (pe_op op_fdivW (pv 2) (pv 1)) pa_nil)))
      (pss_one (ps_ret (pe_op op_mod (pv 2) (pv 1))))) pss_nil))) pss_nil)
      (pss_cons (ps_set (i := 3) sc_law_draw.nd rfl (.inl rfl) (pe_op op_mod (pe_op op_mul (pe_op op_add (pe_op op_add (pe_op op_mod (pv 2) pe_int) (pe_op op_mul pe_int (pe_ix ix_list (pv 0) pe_int (fun _ _ => rfl)))) pe_int) pe_int) pe_int))
      (pss_cons (ps_set (i := 3) sc_law_draw.nd rfl (.inl rfl) (pe_op op_mod (pe_op op_add (pe_op op_add (pe_op op_mul (pv 3) (pv 3)) (pe_op op_mul pe_int (pe_ix ix_list (pv 0) pe_int (fun _ _ => rfl)))) pe_int) pe_int))
      (pss_one (ps_ret (pe_op op_mod (pe_op op_fdiv (pe_op op_mod (pe_op op_add (pe_op op_mul (pv 3) (pv 3)) pe_int) pe_int) pe_int) (pv 1))))))))), ?_⟩
    obtain ⟨ns, s0, c, h1, h2, h3⟩ := D.ex
    have dl := D.ne
    -- deck[2] = deck[2] + 1
    refine ⟨.ref d, rfl, d, _, 2, .int c, rfl, rfl, .inl (.inl h1), rfl, c, 1, rfl, rfl, .ref d, rfl, d, _, 2, 2, rfl, rfl, h1, rfl, ?_⟩
    generalize hU : upd H d (.lst ([V.ref l, .int s0, .int c].set 2 ((fun i j => V.int (i + j)) c 1))) = H1
    have g1 : H1 d = some (.lst [.ref l, .int s0, .int (c + 1)]) := by rw [← hU]; exact upd_same
    have g2 : H1 l = some (.lst (ns.map V.int)) := by rw [← hU, upd_ne dl.symm]; exact h2
    have g3 : ∀ b o, b ≠ d → b ≠ l → H b = some o → H1 b = some o := fun b o e1 _ e2 => by rw [← hU, upd_ne e1]; exact e2
    clear hU
    have fin : ∀ (ms : List Int) (H2 : Hp), ms.length ≤ 63 → H2 d = some (.lst [.ref l, .int s0, .int (c + 1)]) → H2 l = some (.lst (ms.map V.int)) →
        (∀ b o, b ≠ d → b ≠ l → H b = some o → Keep (H2 b) o) → Step d l H H2 := fun ms H2 e1 e2 e3 e4 => ⟨⟨dl, ms, s0, c + 1, e2, e3, e1⟩, fun b o e => by
          obtain ⟨n1, n2, n3⟩ := hide_at e
          rw [hide_ne n1 n2]
          exact e4 b o n1 n2 n3⟩
    -- cell = deck[1]
    refine ⟨.ref d, rfl, d, _, 1, .int s0, rfl, rfl, .inl (.inl g1), rfl, ?_⟩
    refine ⟨fun σ' H' => ∃ (cell : Int) (y : Option V) (ms : List Int), σ' = [some (.ref d), some (.int m), some (.int cell), y] ∧ ms.length ≤ 63 ∧
      H' d = some (.lst [.ref l, .int s0, .int (c + 1)]) ∧ H' l = some (.lst (ms.map V.int)) ∧ (∀ b o, b ≠ d → b ≠ l → H b = some o → Keep (H' b) o), ?_, ?_⟩
    · -- if deck[0] != []
      refine ⟨.ref d, rfl, d, _, 0, .ref l, rfl, rfl, .inl (.inl g1), rfl, Nat.zero_le _, fun pe HE ne se ge => ?_⟩
      have h1E := se _ _ g1
      have h2E := se _ _ g2
      have h3E : ∀ b o, b ≠ d → b ≠ l → H b = some o → Keep (HE b) o := fun b o e1 e2 e3 => se _ _ (g3 b o e1 e2 e3)
      refine ⟨_, _, .lst (.inl (.inl h2E)) (dpInts ns), .lst (.inl (.inl ge)) .nil, shapedInts ns, rfl, _, rfl, ?_⟩
      show if (!PyData.eqv (.list (ns.map PyData.int)) (.list [])) = true then _ else _
      rw [eqvNil]
      refine ite2 (fun e => ?_) (fun e => ?_)
      · have h0 : ns ≠ [] := fun z => by subst z; exact absurd e (by decide)
        obtain ⟨z, hz⟩ : ∃ z, ns[ns.length - 1]? = some z := by
          have : ns.length - 1 < ns.length := by cases ns with
            | nil => exact absurd rfl h0
            | cons a b => simp
          exact ⟨_, List.getElem?_eq_getElem this⟩
        -- cell = deck[0].pop()
        refine ⟨.ref d, rfl, d, _, 0, .ref l, rfl, rfl, .inl (.inl h1E), rfl, .inl ⟨rfl, _, .inl (.inl h2E)⟩, l, _, .int z, rfl, rfl, h2E, ?_, ?_⟩
        · rw [List.length_map, List.getElem?_map, hz]
          rfl
        have k1 : ns.dropLast.length < 63 := by
          rw [List.length_dropLast]
          have : ns.length ≠ 0 := fun z => h0 (List.length_eq_zero_iff.mp z)
          omega
        generalize hU : upd HE l (.lst (ns.map V.int).dropLast) = H2
        have u1 : H2 d = some (.lst [.ref l, .int s0, .int (c + 1)]) := by rw [← hU, upd_ne dl]; exact h1E
        have u2 : H2 l = some (.lst (ns.dropLast.map V.int)) := by rw [← hU, upd_same, dropLast_map]
        have u3 : ∀ b o, b ≠ d → b ≠ l → H b = some o → Keep (H2 b) o := fun b o e1 e2 e3 => by rw [← hU, upd_ne e2]; exact h3E b o e1 e2 e3
        clear hU
        refine ⟨.int z, rfl, _, _, rfl, rfl, ⟨by decide, by decide, by decide⟩, _, _, rfl, rfl, _, rfl, ite2 (fun e2 => ?_) (fun e2 => ?_)⟩
        · -- deck[0].append(cell // most); return cell % most
          refine ⟨.ref d, rfl, d, _, 0, .ref l, rfl, rfl, .inl (.inl u1), rfl, .inl ⟨rfl, _, .inl (.inl u2)⟩, .int z, rfl, .int m, rfl, _, _, rfl, rfl,
            wide_div (b := 64) hm (by omega) (by decide) (by decide), l, _, _, rfl, rfl, u2, ?_, ?_⟩
          · rw [List.length_map]
            exact small1000 (by omega)
          refine ⟨.int z, rfl, .int m, rfl, _, _, rfl, rfl, hm, q _ _ (Int.emod_nonneg _ (by omega)) (Int.emod_lt_of_pos _ hm) (fin (ns.dropLast ++ [z / m]) _ ?_ ?_ ?_ ?_)⟩
          · rw [List.length_append]; show _ + 1 ≤ 63; omega
          · rw [upd_ne dl]; exact u1
          · rw [upd_same, List.map_append]; rfl
          · intro b o e1 e2 e3
            rw [upd_ne e2]; exact u3 b o e1 e2 e3
        · exact ⟨z, none, ns.dropLast, rfl, by omega, u1, u2, u3⟩
      · exact ⟨s0, none, ns, rfl, h3, h1E, h2E, h3E⟩
    · rintro σ' H' ⟨cell, y, ms, rfl, e1, e2, e3, e4⟩
      have S := fin ms H' e1 e2 e3 e4
      have eD : SqL K H' d [.ref l, .int s0, .int (c + 1)] := .inl (.inl e2)
      refine ⟨_, rfl, _, _, rfl, rfl, (by show (0 : Int) < 2147483629; decide), .ref d, rfl, d, _, 2, .int (c + 1), rfl, rfl, eD, rfl, _, _, rfl, rfl, .inl (by decide),
        _, _, rfl, rfl, _, _, rfl, rfl, _, _, rfl, rfl, .inr (by decide), _, _, rfl, rfl, (by show (0 : Int) < 2147483647; decide), ?_⟩
      refine ⟨_, rfl, _, rfl, _, _, rfl, rfl, .inl (modlt (by decide) (by decide)), .ref d, rfl, d, _, 2, .int (c + 1), rfl, rfl, eD, rfl, _, _, rfl, rfl, .inl (by decide),
        _, _, rfl, rfl, _, _, rfl, rfl, _, _, rfl, rfl, (by show (0 : Int) < 2147483587; decide), ?_⟩
      refine ⟨_, rfl, _, rfl, _, _, rfl, rfl, .inl (modlt (by decide) (by decide)), _, _, rfl, rfl, _, _, rfl, rfl, (by show (0 : Int) < 2147483563; decide),
        _, _, rfl, rfl, ⟨by decide, by decide⟩, .int m, rfl, _, _, rfl, rfl, hm, q _ _ (Int.emod_nonneg _ (by omega)) (Int.emod_lt_of_pos _ hm) S⟩

end

section
variable {P : Program} {w : World} {K : PySem.W.Frag} {mg : Str → Option Value} {base : Heap}

theorem ok_law_less {f : Addr} {fd : FuncData} (F : Fun K "_law_less" "_law_less" s_law_less f fd) (T : Bt mg) :
    FnG P w K mg base CX0 1 f fd ["_law_one", "_law_other"] (spLess K) := by
  refine okG (k := 0) F sc_law_less (fun vs H Q E h => ?_) (fun cdv A outer s H vs Q E hr h => ?_)
  · obtain ⟨u, v, p, q, rfl, _⟩ := h
    rfl
  · obtain ⟨_, _, p, p2, rfl, ⟨a, rfl, ha⟩, ⟨b, rfl, hb⟩, q⟩ := h
    refine ⟨_, (pss_one (ps_ret (tupN (pa_cons (pe_op op_sub (pe_ix ix_tup (pv 0) pe_int (fun _ _ => rfl)) (pe_ix ix_tup (pv 1) pe_int (fun _ _ => rfl))) (pa_cons (pe_op op_sub (pe_ix ix_tup (pv 0) pe_int (fun _ _ => rfl)) (pe_ix ix_tup (pv 1) pe_int (fun _ _ => rfl))) pa_nil))))), ?_⟩
    exact ⟨_, rfl, a, _, 0, _, rfl, rfl, ha, rfl, _, rfl, b, _, 0, _, rfl, rfl, hb, rfl, _, _, rfl, rfl, _, rfl, a, _, 1, _, rfl, rfl, ha, rfl, _, rfl, b, _, 1, _, rfl, rfl, hb, rfl, _, _, rfl, rfl, (by show 2 ≤ sizeLine; decide),
      fun p6 H6 n6 s6 g6 => q _ _ s6 ⟨p6, rfl, .inl (.inl g6)⟩⟩

theorem okstep_of {f : Addr} {fd : FuncData} (F : Fun K "step_of" "step_of" sstep_of f fd) (T : Bt mg) :
    FnG P w K mg base CX0 1 f fd ["line"] (spStep K) := by
  refine okG (k := 0) F scstep_of (fun vs H Q E h => ?_) (fun cdv A outer s H vs Q E hr h => ?_)
  · obtain ⟨v, l, rfl, _⟩ := h
    rfl
  · obtain ⟨_, l, rfl, ⟨a, _, _, rfl, hS, ⟨b, rfl, hb⟩, ⟨c, rfl, hc⟩⟩, q⟩ := h
    refine ⟨_, (pss_cons (ps_asg (pv 0) (pg_tup (by rfl) (pgs_cons (pg_tup (by rfl) (pgs_cons (pg_name (i := 1) scstep_of.nd rfl (.inl rfl)) (pgs_cons (pg_name (i := 2) scstep_of.nd rfl (.inl rfl)) pgs_nil))) (pgs_cons (pg_tup (by rfl) (pgs_cons (pg_name (i := 3) scstep_of.nd rfl (.inl rfl)) (pgs_cons (pg_name (i := 4) scstep_of.nd rfl (.inl rfl)) pgs_nil))) pgs_nil))))
      (pss_one (ps_ret (tupN (pa_cons (pe_op op_sub (pv 3) (pv 1)) (pa_cons (pe_op op_sub (pv 4) (pv 2)) pa_nil)))))), ?_⟩
    refine ⟨_, rfl, a, _, rfl, hS, rfl, _, _, rfl, b, _, rfl, hb, rfl, _, _, rfl, _, _, rfl, rfl, _, _, rfl, c, _, rfl, hc, rfl, _, _, rfl, _, _, rfl, rfl, rfl, ?_⟩
    exact ⟨_, rfl, _, rfl, _, _, rfl, rfl, _, rfl, _, rfl, _, _, rfl, rfl, (by show 2 ≤ sizeLine; decide), fun p H1 n s e => q _ _ s ⟨p, rfl, .inl (.inl e)⟩⟩

theorem ok_law_turn {f : Addr} {fd : FuncData} (F : Fun K "_law_turn" "_law_turn" s_law_turn f fd) (T : Bt mg) :
    FnG P w K mg base CX0 1 f fd ["_law_one", "_law_other"] (spTurn K) := by
  refine okG (k := 0) F sc_law_turn (fun vs H Q E h => ?_) (fun cdv A outer s H vs Q E hr h => ?_)
  · obtain ⟨u, v, p, q, rfl, _⟩ := h
    rfl
  · obtain ⟨_, _, p, p2, rfl, ⟨a, rfl, ha⟩, ⟨b, rfl, hb⟩, bd, q⟩ := h
    refine ⟨_, (pss_one (ps_ret (pe_op op_sub (pe_op op_mul (pe_ix ix_tup (pv 0) pe_int (fun _ _ => rfl)) (pe_ix ix_tup (pv 1) pe_int (fun _ _ => rfl))) (pe_op op_mul (pe_ix ix_tup (pv 0) pe_int (fun _ _ => rfl)) (pe_ix ix_tup (pv 1) pe_int (fun _ _ => rfl)))))), ?_⟩
    obtain ⟨⟨x1, x2⟩, y1, y2⟩ := bd
    exact ⟨_, rfl, a, _, 0, _, rfl, rfl, ha, rfl, _, rfl, b, _, 1, _, rfl, rfl, hb, rfl, _, _, rfl, rfl, .inl (by omega), _, rfl, a, _, 1, _, rfl, rfl, ha, rfl, _, rfl, b, _, 0, _, rfl, rfl, hb, rfl, _, _, rfl, rfl, .inl (by omega), _, _, rfl, rfl, q⟩

theorem okturn_of {f : Addr} {fd : FuncData} (F : Fun K "turn_of" "turn_of" sturn_of f fd) (T : Bt mg) :
    FnG P w K mg base CX0 1 f fd ["one", "other"] (spTurn K) := by
  refine okG (k := 0) F scturn_of (fun vs H Q E h => ?_) (fun cdv A outer s H vs Q E hr h => ?_)
  · obtain ⟨u, v, p, q, rfl, _⟩ := h
    rfl
  · obtain ⟨_, _, p, p2, rfl, ⟨a, rfl, ha⟩, ⟨b, rfl, hb⟩, bd, q⟩ := h
    refine ⟨_, (pss_one (ps_ret (pe_op op_sub (pe_op op_mul (pe_ix ix_tup (pv 0) pe_int (fun _ _ => rfl)) (pe_ix ix_tup (pv 1) pe_int (fun _ _ => rfl))) (pe_op op_mul (pe_ix ix_tup (pv 0) pe_int (fun _ _ => rfl)) (pe_ix ix_tup (pv 1) pe_int (fun _ _ => rfl)))))), ?_⟩
    obtain ⟨⟨x1, x2⟩, y1, y2⟩ := bd
    exact ⟨_, rfl, a, _, 0, _, rfl, rfl, ha, rfl, _, rfl, b, _, 1, _, rfl, rfl, hb, rfl, _, _, rfl, rfl, .inl (by omega), _, rfl, a, _, 1, _, rfl, rfl, ha, rfl, _, rfl, b, _, 0, _, rfl, rfl, hb, rfl, _, _, rfl, rfl, .inl (by omega), _, _, rfl, rfl, q⟩

theorem okside_of {f : Addr} {fd : FuncData} (F : Fun K "side_of" "side_of" sside_of f fd) (T : Bt mg) (Dstep_of : Def P w K mg base 1 "step_of" ["line"] (spStep K)) (Dturn_of : Def P w K mg base 1 "turn_of" ["one", "other"] (spTurn K)) :
    FnG P w K mg base CX0 2 f fd ["line", "point"] (spSide K) := by
  refine okG (k := 1) F scside_of (fun vs H Q E h => ?_) (fun cdv A outer s H vs Q E hr h => ?_)
  · obtain ⟨u, v, l, p, rfl, _⟩ := h
    rfl
  · obtain ⟨u, v, l, p, rfl, hL, hp, bl, q⟩ := h
    refine ⟨_, (pss_one (ps_ret (callD Dturn_of (hr.mono (by decide)) (pa_cons (callD Dstep_of (hr.mono (by decide)) (pa_cons (pv 0) pa_nil)) (pa_cons (callD Dstep_of (hr.mono (by decide)) (pa_cons (tupN (pa_cons (pe_ix ix_tup (pv 0) pe_int (fun _ _ => rfl)) (pa_cons (pv 1) pa_nil))) pa_nil)) pa_nil))))), ?_⟩
    refine ⟨_, rfl, u, l, rfl, hL, fun w1 H1 s1 e1 => ?_⟩
    obtain ⟨a, x, y, ea, hS, hx, hy⟩ := hL.same s1
    subst ea
    refine ⟨_, rfl, a, _, 0, x, rfl, rfl, hS, rfl, v, rfl, (by show 2 ≤ sizeLine; decide), fun p2 H2 n2 s2 e2 => ?_⟩
    refine ⟨.ref p2, (l.1, p), rfl, ⟨p2, x, v, rfl, .inl (.inl e2), hx.same s2, hp.same (s1.trans s2)⟩, fun w3 H3 s3 e3 => ?_⟩
    exact ⟨w1, w3, _, _, rfl, e1.same (s2.trans s3), e3, bd_less bl.2 bl.1, q _ ((s1.trans s2).trans s3)⟩

end
end Cl

set_option maxHeartbeats 0
namespace Cl
open PySem PySem.Spec PyProof.Rows L2
open GxR (TabB TabG)


theorem op_lt2 {X : Cx} (hu : X.A.units + 64 < cLine) : OpR X (compareOp .Lt) (rCmp2 X.K fun p q => llt p q) := by
  intro pins s σ H x y v u Q I rx ry ⟨p, q, hp, hq, h⟩
  obtain ⟨as, r1⟩ := Dp.reads I _ x v hp.dp rx
  obtain ⟨bs, r2⟩ := Dp.reads I _ y u hq.dp ry
  exact PySem.W.lt_data r1 r2 (alike_pd p q) (fun z => nomatch z) (by show X.A.units + min 1 1 < cLine; omega) ⟨.bl _, H, I, rfl, by rw [lt_pd]; exact h⟩

def spHalves (K : PySem.W.Frag) : Sp := fun vs H Q _ => ∃ (a : Addr) (xs : List V), vs = [.ref a] ∧ SqT K H a xs ∧ xs ≠ [] ∧ xs.length ≤ 4000 ∧ ∀ (Ts : List Addr) (p : Addr) (H' : Hp), Same H H' → Ts.length = xs.length - 1 →
  (∀ (j : Nat) (T : Addr), Ts[j]? = some T → ∃ x y, xs[j]? = some x ∧ xs[j + 1]? = some y ∧ H' T = some (.tup [x, y])) → H' p = some (.tup (Ts.map V.ref)) → Q (.ref p) H'
def spLink (K : PySem.W.Frag) : Sp := fun vs H Q _ => ∃ (u v : V) (p q : Pt), vs = [u, v] ∧ At2 K H u p ∧ At2 K H v q ∧
  ∀ (w : Addr) H', Same H H' → H' w = some (.tup (if llt p q then [u, v] else [v, u])) → Q (.ref w) H'

section
variable {P : Program} {w : World} {K : PySem.W.Frag} {mg : Str → Option Value} {base : Heap}

theorem okhalves_of {f : Addr} {fd : FuncData} (F : Fun K "halves_of" "halves_of" shalves_of f fd) (T : Bt mg) :
    FnG P w K mg base CX0 1 f fd ["path"] (spHalves K) := by
  refine okG (k := 0) F schalves_of (fun vs H Q E h => ?_) (fun cdv A outer s H vs Q E hr h => ?_)
  · obtain ⟨a, xs, rfl, _⟩ := h
    rfl
  · obtain ⟨a, xs, rfl, hs, hne, hl, q⟩ := h
    refine ⟨_, (pss_one (ps_ret (pe_tupZip rfl (by rfl) T.tuple (by rfl) T.zip (pa_cons (pv 0) (pa_cons (pe_slice sl_tupN (pv 0) (po_some pe_int) po_none) pa_nil))))), ?_⟩
    have lp : 0 < xs.length := List.length_pos_iff.mpr hne
    refine ⟨.ref a, rfl, .ref a, rfl, 1, rfl, a, xs, rfl, hs, ?_, fun p H1 n1 s1 g1 => ?_⟩
    · rw [show HT.sIx xs.length 0 (some 1) = min 1 xs.length from HT.sIx_nat _ _ 1]
      omega
    refine ⟨a, p, xs, _, rfl, seT s1 hs, .inl (.inl g1), fun Ts p2 H2 s2 el ht n2 g2 => ?_⟩
    have ec : cutV xs (some 1) none = xs.drop 1 := by
      unfold cutV
      rw [show HT.sIx xs.length 0 (some 1) = min 1 xs.length from HT.sIx_nat _ _ 1, HT.sIx_none, Nat.min_eq_left lp]
      rw [List.take_of_length_le (by simp)]
    rw [ec] at el ht
    refine q Ts p2 H2 (s1.trans s2) (by rw [el, List.length_drop]; omega) (fun j T hT => ?_) g2
    obtain ⟨_, x, y, h1, h2, h3⟩ := ht j T hT
    rw [List.getElem?_drop] at h2
    exact ⟨x, y, h1, by rw [Nat.add_comm]; exact h2, h3⟩

theorem oklink_of {f : Addr} {fd : FuncData} (F : Fun K "link_of" "link_of" slink_of f fd) (T : Bt mg) :
    FnG P w K mg base CX0 1 f fd ["one", "other"] (spLink K) := by
  refine okG (k := 0) F sclink_of (fun vs H Q E h => ?_) (fun cdv A outer s H vs Q E hr h => ?_)
  · obtain ⟨u, v, p, r, rfl, _⟩ := h
    rfl
  · obtain ⟨u, v, p, r, rfl, hu, hv, q⟩ := h
    refine ⟨_, (pss_one (ps_ret (pe_ifExp (pt_cmpR (op_lt2 hr.room.units) (pv 0) (pv 1) (nomark _)) (tupN (pa_cons (pv 0) (pa_cons (pv 1) pa_nil))) (tupN (pa_cons (pv 1) (pa_cons (pv 0) pa_nil)))))), ?_⟩
    refine ⟨u, rfl, v, rfl, p, r, hu, hv, llt p r, rfl, ?_⟩
    cases e : llt p r
    · exact ⟨v, rfl, u, rfl, (by show 2 ≤ sizeLine; decide), fun a H1 n1 s1 g1 => q a H1 s1 (by rw [e]; exact g1)⟩
    · exact ⟨u, rfl, v, rfl, (by show 2 ≤ sizeLine; decide), fun a H1 n1 s1 g1 => q a H1 s1 (by rw [e]; exact g1)⟩

end
end Cl

set_option maxHeartbeats 0
namespace Cl
open PySem PySem.Spec PyProof.Rows L2
open GxR (TabB TabG)


/-- a call of a def, its arguments a starred tuple -/
def tStar1 (K : PySem.W.Frag) (sp : Sp) (te : TE) : TE := fun σ H Q => te σ H fun v H1 => ∃ a xs, v = .ref a ∧ SqT K H1 a xs ∧ sp xs H1 Q E0
section
variable {X : Cx} {k : Nat} {ps : List Str} {sp : Sp} {x : Str} {p p2 pos : Pos} {e : Expr} {te : TE}
theorem callDS1 (D : Def X.prog X.w X.K X.mg X.base k x ps sp) (hr : RG k X.A) (ha : PE X e te)
    (hg : Gl X x := by rfl) (hdb : (x == ("__debug__" : Str)) = false := by decide)
    (he : starEach [.Starred e p2] X.env = [(true, eval e X.env)] := by rfl) :
    PE X (.Call (.Name x p) [.Starred e p2] [] pos) (tStar1 X.K sp te) := by
  obtain ⟨f, fd, F, hm, hk, hb⟩ := D.ex
  constructor
  intro pins s σ H Q I h
  refine wpAny_Call_Name_kw (ld_glob I hg hm ?_ hdb)
  refine PySem.W.callWith_S (h₀ := X.base) I.ok.mod.kin hk ?_ he
  refine thn (ha.run pins s σ H _ I h) fun v s1 hz => ?_
  obtain ⟨v0, H1, I1, r, a, xs, rfl, gx, q⟩ := hz
  cases r
  refine star_tup I1 gx fun us s2 I2 rv => ⟨I2.kIn, ?_⟩
  have r2 : Vals (xs ++ []) (us ++ []) := rv.append .nil
  have h2 : sp (xs ++ []) H1 Q E0 := by rw [List.append_nil]; exact q
  have n2 : (us ++ []).length = ps.length := r2.length.symm.trans (F.len _ _ _ _ h2)
  have run := F.run X.A X.stack s2 H1 ⟨us, []⟩ (us ++ []) (xs ++ []) Q E0 hr I2.env0 (hb s2 us I2.kIn n2) r2 h2
  refine wpAny_call (codeAny_mono run fun res s' hq => ?_)
  match res, hq with
  | .error ee, hq => exact pass0 pins σ H1 s2 ee s' I2 hq
  | .ok (.ret u), hq => exact I2.after hq
  | .ok .next, hq => exact hq.elim
  | .ok .brk, hq => exact hq.elim
  | .ok .cont, hq => exact hq.elim
theorem callDS1k {K : PySem.W.Frag} (hK : X.K = K) (D : Def X.prog X.w X.K X.mg X.base k x ps sp) (hr : RG k X.A) (ha : PE X e te)
    (hg : Gl X x := by rfl) (hdb : (x == ("__debug__" : Str)) = false := by decide)
    (he : starEach [.Starred e p2] X.env = [(true, eval e X.env)] := by rfl) :
    PE X (.Call (.Name x p) [.Starred e p2] [] pos) (tStar1 K sp te) := hK ▸ callDS1 D hr ha hg hdb he
end
/-- a path in the words of a heap: a tuple of pairs -/
def AtPath (K : PySem.W.Frag) (H : Hp) (v : V) (ps : List Pt) : Prop := ∃ (a : Addr) (xs : List V), v = .ref a ∧ SqT K H a xs ∧ AllAt (At2 K H) xs ps
def linkP (l : Pt × Pt) : Pt × Pt := if llt l.1 l.2 then l else (l.2, l.1)
def halvesP (ps : List Pt) : List (Pt × Pt) := ps.zip (ps.drop 1)
def linksP (pss : List (List Pt)) : List (Pt × Pt) := pss.flatMap fun ps => (halvesP ps).map linkP
def keyL (l : Pt × Pt) : List (List Int) := [[l.1.1, l.1.2], [l.2.1, l.2.2]]
def leL (l m : Pt × Pt) : Prop := SG.leG SG.encN ((0 : Addr), keyL l) ((0 : Addr), keyL m)
/-- a link in the words of a heap: a tuple of two pairs -/
def AtLink (K : PySem.W.Frag) (H : Hp) (v : V) (l : Pt × Pt) : Prop := ∃ (a : Addr) (u w : V), v = .ref a ∧ SqT K H a [u, w] ∧ At2 K H u l.1 ∧ At2 K H w l.2
theorem AtLink.same {K : PySem.W.Frag} {H H' : Hp} {v : V} {l : Pt × Pt} (h : AtLink K H v l) (s : Same H H') : AtLink K H' v l := by
  obtain ⟨a, u, w, e, h1, h2, h3⟩ := h
  exact ⟨a, u, w, e, seT s h1, h2.same s, h3.same s⟩
theorem AtLink.upd {K : PySem.W.Frag} {H : Hp} {M : Addr} {xs : List V} {o : HO} {v : V} {l : Pt × Pt} (h : AtLink K H v l) (e : H M = some (.lst xs)) : AtLink K (L2.upd H M o) v l := by
  obtain ⟨a, u, w, e1, h1, h2, h3⟩ := h
  exact ⟨a, u, w, e1, updT e h1, h2.upd e, h3.upd e⟩
theorem len_halves (ps : List Pt) : (halvesP ps).length ≤ ps.length := by
  unfold halvesP
  rw [List.length_zip]
  exact Nat.min_le_left ..
theorem len_links : ∀ pss : List (List Pt), (∀ ps ∈ pss, ps.length ≤ 100) → (linksP pss).length ≤ 100 * pss.length
  | [], _ => Nat.le_refl 0
  | ps :: pss, h => by
    have h1 := h ps List.mem_cons_self
    have h2 := len_links pss fun q hq => h q (List.mem_cons_of_mem _ hq)
    have h3 := len_halves ps
    show ((halvesP ps).map linkP ++ linksP pss).length ≤ _
    rw [List.length_append, List.length_map, List.length_cons]
    omega
def unkey : List (List Int) → Pt × Pt
  | [[a, b], [c, d]] => ((a, b), (c, d))
  | _ => ((0, 0), (0, 0))
theorem unkey_key (l : Pt × Pt) : unkey (keyL l) = l := rfl
theorem link_el {K : PySem.W.Frag} {H : Hp} {v : V} {l : Pt × Pt} (h : AtLink K H v l) : ∃ b, v = .ref b ∧ SG.elN K H b (keyL l) := by
  obtain ⟨a, u, w, e, h1, ⟨b1, rfl, h2⟩, ⟨b2, rfl, h3⟩⟩ := h
  refine ⟨a, e, [b1, b2], h1, rfl, fun i c k hc hk => ?_⟩
  match i, hc, hk with
  | 0, hc, hk => cases hc; cases hk; exact h2
  | 1, hc, hk => cases hc; cases hk; exact h3
theorem el_link {K : PySem.W.Frag} {H : Hp} {b : Addr} {l : Pt × Pt} (h : SG.elN K H b (keyL l)) : AtLink K H (.ref b) l := by
  obtain ⟨bs, h1, h2, h3⟩ := h
  match bs, h2, h1, h3 with
  | [b1, b2], _, h1, h3 => exact ⟨b, .ref b1, .ref b2, rfl, h1, ⟨b1, rfl, h3 0 b1 _ rfl rfl⟩, ⟨b2, rfl, h3 1 b2 _ rfl rfl⟩⟩
theorem el_same {K : PySem.W.Frag} {H H' : Hp} {b : Addr} {k : List (List Int)} (h : SG.elN K H b k) (s : Same H H') : SG.elN K H' b k := by
  obtain ⟨bs, h1, h2, h3⟩ := h
  exact ⟨bs, seT s h1, h2, fun i c k hc hk => seT s (h3 i c k hc hk)⟩
theorem links_ks {K : PySem.W.Frag} {H : Hp} : ∀ {ws : List V} {L : List (Pt × Pt)}, AllAt (AtLink K H) ws L → ∃ ks : List (Addr × List (List Int)), ws = ks.map (fun p => V.ref p.1) ∧ ks.map (·.2) = L.map keyL ∧ ∀ p ∈ ks, SG.elN K H p.1 p.2
  | _, _, .nil => ⟨[], rfl, rfl, fun _ z => nomatch z⟩
  | _, _, .cons (x := l) h t => by
    obtain ⟨ks, e1, e2, e3⟩ := links_ks t
    obtain ⟨b, rfl, hb⟩ := link_el h
    refine ⟨(b, keyL l) :: ks, by rw [e1]; rfl, by rw [List.map_cons, List.map_cons, e2], fun p hp => ?_⟩
    rcases List.mem_cons.mp hp with z | z
    · rw [z]; exact hb
    · exact e3 p z
theorem ks_links {K : PySem.W.Frag} {H : Hp} : ∀ (ks : List (Addr × List (List Int))), (∀ p ∈ ks, SG.elN K H p.1 p.2 ∧ ∃ l, p.2 = keyL l) → AllAt (AtLink K H) (ks.map fun p => V.ref p.1) (ks.map fun p => unkey p.2)
  | [], _ => .nil
  | p :: ks, h => by
    obtain ⟨h1, l, e⟩ := h p List.mem_cons_self
    refine .cons ?_ (ks_links ks fun q hq => h q (List.mem_cons_of_mem _ hq))
    show AtLink K H (.ref p.1) (unkey p.2)
    rw [e] at h1 ⊢
    exact el_link h1
def spLinks (K : PySem.W.Frag) : Sp := fun vs H Q _ => ∃ (a : Addr) (xs : List V) (pss : List (List Pt)), vs = [.ref a] ∧ SqT K H a xs ∧ AllAt (AtPath K H) xs pss ∧ (∀ ps ∈ pss, ps ≠ [] ∧ ps.length ≤ 100) ∧ pss.length ≤ 20 ∧
  ∀ (p : Addr) (ys : List V) (ls : List (Pt × Pt)) (H' : Hp), Same H H' → H' p = some (.tup ys) → AllAt (AtLink K H') ys ls → ls.Nodup → ls.Pairwise leL → (∀ l, l ∈ ls ↔ l ∈ linksP pss) → Q (.ref p) H'

section
variable {P : Program} {w : World} {K : PySem.W.Frag} {mg : Str → Option Value} {base : Heap}

theorem oklinks_of {f : Addr} {fd : FuncData} (F : Fun K "links_of" "links_of" slinks_of f fd) (T : Bt mg) (Dhalves_of : Def P w K mg base 1 "halves_of" ["path"] (spHalves K)) (Dlink_of : Def P w K mg base 1 "link_of" ["one", "other"] (spLink K)) :
    FnG P w K mg base CX0 2 f fd ["paths"] (spLinks K) := by
  refine okG (k := 1) F sclinks_of (fun vs H Q E h => ?_) (fun cdv A outer s H vs Q E hr h => ?_)
  · obtain ⟨a, xs, pss, rfl, _⟩ := h
    rfl
  · obtain ⟨a, xs, pss, rfl, hs, ha, hp, hn, q⟩ := h
    refine ⟨_, (pss_one (ps_ret (pe_callTy call_tuple_ofN (by rfl) T.tuple (by decide +kernel) (pa_cons (pe_callB (SG.cr_sortedG (knd := SG.nestK _ _) (el := SG.elN K) (enc := SG.encN) (dd := 2) rfl hr.room.units (by decide) (fun h => SG.readN h) (fun I h => SG.elN_is I h)) (by rfl) T.sorted (by decide +kernel) (pa_cons (pe_callTy (SG.cr_setG (knd := SG.nestK _ _) (el := SG.elN K) rfl hr.room.units (by show 2 ≤ 50; decide) (fun I h => SG.elN_is I h)) (by rfl) T.set (by decide +kernel) (pa_cons (pe_lc2 (own := [("path", 1), ("half", 2)]) (vs1 := [2]) (g := gName 1) (g1 := gName 2) (tt := tYes) (tt1 := tYes) (by rfl) sclinks_of.nd (pi_tup (pv 0)) (blkOk_by (own := [("path", 1), ("half", 2)]) (N := ["paths", "path", "half"]) (sc := defScope slinks_of) (by decide +kernel)) (by decide) (fun _ _ _ _ _ => (pg_name (i := 1) sclinks_of.nd rfl (.inl rfl))) (fun _ _ _ _ _ => pts_nil) (fun _ _ _ _ _ => (pi_tupk (K := K) rfl (callD Dhalves_of (hr.mono (by decide)) (pa_cons (pv 1) pa_nil)))) (fun _ _ _ _ _ => (pg_name (i := 2) sclinks_of.nd rfl (.inl rfl))) (fun _ _ _ _ _ => pts_nil) (fun _ _ _ _ _ => (callDS1k (K := K) rfl Dlink_of (hr.mono (by decide)) (pv 2)))) pa_nil)) pa_nil)) pa_nil)))), ?_⟩
    refine ⟨.ref a, rfl, a, rfl, ⟨xs, hs⟩, fun pD nD => ?_⟩
    refine genT (xs := xs) (fun i H' => Same H H' ∧ ∃ ws, H' pD = some (.lst ws) ∧ AllAt (AtLink K H') ws (linksP (pss.take i))) ⟨same_new nD, [], upd_same, .nil⟩ (fun i H1 _ z => seT z.1 hs) (fun i x H1 hx z => ?_) (fun H1 z => ?_)
    · obtain ⟨t1, ws, t2, t3⟩ := z
      obtain ⟨ps, hps, b, us, rfl, hb, hu⟩ := ha.get hx
      obtain ⟨pne, ple⟩ := hp ps (List.mem_of_getElem? hps)
      have lu := hu.length
      refine ⟨rfl, .ref b, rfl, b, us, rfl, seT t1 hb, (fun z => by rw [z] at lu; exact pne (List.length_eq_zero_iff.mp lu.symm)), by omega, fun Ts c H2 s2 el ht g2 => ?_⟩
      have gc : SqT K H2 c (Ts.map V.ref) := .inl (.inl g2)
      refine ⟨c, rfl, ⟨_, gc⟩, ?_⟩
      have lpss : (linksP (pss.take i)).length ≤ 2000 := by
        have := len_links (pss.take i) fun q hq => (hp q (List.mem_of_mem_take hq)).2
        have : (pss.take i).length ≤ pss.length := by rw [List.length_take]; exact Nat.min_le_right ..
        omega
      refine genT (xs := Ts.map V.ref) (fun j H' => Same H H' ∧ SqT K H' c (Ts.map V.ref) ∧ (∀ (j : Nat) (T : Addr), Ts[j]? = some T → ∃ x y, us[j]? = some x ∧ us[j + 1]? = some y ∧ SqT K H' T [x, y]) ∧
        ∃ ws, H' pD = some (.lst ws) ∧ AllAt (AtLink K H') ws (linksP (pss.take i) ++ ((halvesP ps).take j).map linkP)) ⟨t1.trans s2, gc, fun j T hT => ?_, ws, s2 _ _ t2, ?_⟩ (fun j H3 _ z => z.2.1) (fun j x H3 hx3 z => ?_) (fun H3 z => ?_)
      · obtain ⟨x, y, e1, e2, e3⟩ := ht j T hT
        exact ⟨x, y, e1, e2, .inl (.inl e3)⟩
      · rw [List.take_zero, List.map_nil, List.append_nil]
        exact t3.map fun _ _ z => z.same s2
      · obtain ⟨u1, uc, ut, ws3, u2, u3⟩ := z
        rw [List.getElem?_map] at hx3
        cases hT : Ts[j]? with
        | none => rw [hT] at hx3; cases hx3
        | some T =>
          rw [hT] at hx3
          injection hx3 with hx3
          subst hx3
          obtain ⟨x, y, e1, e2, e3⟩ := ut j T hT
          obtain ⟨px, f1, f2⟩ := hu.get e1
          obtain ⟨py, g1, g2'⟩ := hu.get e2
          have hh : (halvesP ps)[j]? = some (px, py) := List.getElem?_zip_eq_some.mpr ⟨f1, by rw [List.getElem?_drop, Nat.add_comm]; exact g1⟩
          refine ⟨rfl, .ref T, rfl, T, [x, y], rfl, e3, x, y, px, py, rfl, f2.same u1, g2'.same u1, fun w H7 s7 g7 => ?_⟩
          have k7 := s7 _ _ u2
          refine ⟨ws3, k7, ?_, fun b o e => ?_, updT k7 (seT s7 uc), fun j T hT => ?_, ws3 ++ [.ref w], upd_same, ?_⟩
          · have l3 := u3.length
            have lh := len_halves ps
            rw [List.length_append, List.length_map, List.length_take] at l3
            rw [sizeLine_eq]
            omega
          · rw [upd_ne (ne_of_none e nD)]; exact (u1.trans s7) _ _ e
          · obtain ⟨x, y, e1, e2, e3⟩ := ut j T hT
            exact ⟨x, y, e1, e2, updT k7 (seT s7 e3)⟩
          · rw [List.take_succ, hh, Option.toList_some, List.map_append, ← List.append_assoc]
            refine (u3.map fun _ _ z => AtLink.upd (z.same s7) k7).app (.cons (AtLink.upd ?_ k7) .nil)
            have q1 := (f2.same u1).same s7
            have q2 := (g2'.same u1).same s7
            show AtLink K H7 (.ref w) (if llt px py then (px, py) else (py, px))
            cases e : llt px py
            · rw [e] at g7
              exact ⟨w, y, x, rfl, .inl (.inl g7), q2, q1⟩
            · rw [e] at g7
              exact ⟨w, x, y, rfl, .inl (.inl g7), q1, q2⟩
      · obtain ⟨u1, uc, ut, ws3, u2, u3⟩ := z
        refine ⟨u1, ws3, u2, ?_⟩
        have lT : (halvesP ps).length ≤ (Ts.map V.ref).length := by
          unfold halvesP
          rw [List.length_zip, List.length_drop, List.length_map, el]
          omega
        rw [List.take_of_length_le lT] at u3
        rw [List.take_succ, hps, Option.toList_some]
        show AllAt (AtLink K H3) ws3 (linksP (pss.take i ++ [ps]))
        unfold linksP at u3 ⊢
        rw [List.flatMap_append, List.flatMap_singleton]
        exact u3
    · obtain ⟨t1, ws, t2, t3⟩ := z
      rw [ha.length, List.take_length] at t3
      obtain ⟨ks, e1, e2, e3⟩ := links_ks t3
      have lk : ks.length = (linksP pss).length := by
        have := congrArg List.length e2
        rwa [List.length_map, List.length_map] at this
      have ll := len_links pss fun q hq => (hp q hq).2
      have key : ∀ p ∈ ks, ∃ l ∈ linksP pss, p.2 = keyL l := fun p hp2 => by
        have : p.2 ∈ (linksP pss).map keyL := by rw [← e2]; exact List.mem_map.mpr ⟨p, hp2, rfl⟩
        obtain ⟨l, h1, h2⟩ := List.mem_map.mp this
        exact ⟨l, h1, h2.symm⟩
      refine ⟨pD, ks, rfl, .inl (.inl (by rw [t2, e1])), e3, by omega, fun aS HS L sS nS gS ndL sub sup => ?_⟩
      refine ⟨aS, L, rfl, gS, fun p hp2 => el_same (e3 p (sub p hp2)) sS, fun d hd d' hd' => ?_, .inl fun d hd => ?_, fun p _ => SG.depthN p.2, fun L' pm pw few nd pT HT nT sT gT => ?_⟩
      · obtain ⟨p, hp2, rfl⟩ := List.mem_map.mp hd
        obtain ⟨p', hp2', rfl⟩ := List.mem_map.mp hd'
        obtain ⟨l, _, h2⟩ := key p (sub p hp2)
        obtain ⟨l', _, h2'⟩ := key p' (sub p' hp2')
        rw [h2, h2']
        rfl
      · obtain ⟨p, hp2, rfl⟩ := List.mem_map.mp hd
        obtain ⟨l, _, h2⟩ := key p (sub p hp2)
        exact ⟨_, _, by rw [h2]; rfl⟩
      · refine ⟨pT, _, rfl, .inl (.inl gT), fun pU HU nU sU gU => ?_⟩
        have k' : ∀ p ∈ L', ∃ l ∈ linksP pss, p.2 = keyL l := fun p hp2 => key p (sub p (pm.mem_iff.mp hp2))
        have s4 : Same H1 HU := (sS.trans sT).trans sU
        refine q pU _ (L'.map fun p => unkey p.2) HU (t1.trans s4) gU (ks_links L' fun p hp2 => ?_) ?_ ?_ fun l => ⟨fun hl => ?_, fun hl => ?_⟩
        · obtain ⟨l, _, h2⟩ := k' p hp2
          exact ⟨el_same (e3 p (sub p (pm.mem_iff.mp hp2))) s4, l, h2⟩
        · have nd2 : (L'.map (·.2)).Nodup := (pm.map (·.2)).nodup_iff.mpr nd
          have : L'.map (·.2) = (L'.map fun p => unkey p.2).map keyL := by
            rw [List.map_map]
            refine List.map_congr_left fun p hp2 => ?_
            obtain ⟨l, _, h2⟩ := k' p hp2
            show p.2 = keyL (unkey p.2)
            rw [h2]
            rfl
          rw [this] at nd2
          exact nodup_of_map nd2
        · refine List.pairwise_map.mpr (List.Pairwise.imp_of_mem (fun {p r} hp2 hr hle => ?_) pw)
          obtain ⟨l, _, h2⟩ := k' p hp2
          obtain ⟨m, _, h3⟩ := k' r hr
          unfold SG.leG at hle
          unfold leL SG.leG
          rw [h2, h3]
          have hle2 : PySem.W.dataLe false (fun q : Addr × List (List Int) => SG.encN q.2) p r = true := hle
          have f : ∀ x y : Addr × List (List Int), PySem.W.dataLe false (fun q : Addr × List (List Int) => SG.encN q.2) x y = PySem.W.dataLe false (fun q : Addr × List (List Int) => SG.encN q.2) ((0 : Addr), x.2) ((0 : Addr), y.2) := fun _ _ => rfl
          rw [f, h2, h3] at hle2
          exact hle2
        · obtain ⟨p, hp2, e⟩ := List.mem_map.mp hl
          obtain ⟨l', h1, h2⟩ := k' p hp2
          rw [h2] at e
          rw [← e]
          exact h1
        · have : keyL l ∈ ks.map (·.2) := by rw [e2]; exact List.mem_map.mpr ⟨l, hl, rfl⟩
          obtain ⟨p, hp2, e⟩ := List.mem_map.mp this
          obtain ⟨p', hp3, e'⟩ := List.mem_map.mp (sup p hp2)
          refine List.mem_map.mpr ⟨p', pm.mem_iff.mpr hp3, ?_⟩
          show unkey p'.2 = l
          rw [e', e]
          rfl

end
end Cl

set_option maxHeartbeats 0
namespace Cl
open PySem PySem.Spec PyProof.Rows L2
open GxR (TabB TabG)


theorem keys_put (kvs : List (List Key × V)) (k : List Key) (v : V) : (k ∈ kvs.map (·.1) ∧ (putK kvs k v).map (·.1) = kvs.map (·.1)) ∨ (k ∉ kvs.map (·.1) ∧ (putK kvs k v).map (·.1) = kvs.map (·.1) ++ [k]) := by
  unfold putK
  by_cases h : k ∈ kvs.map (·.1)
  · obtain ⟨x, hx, e⟩ := List.mem_map.mp h
    refine .inl ⟨h, ?_⟩
    rw [if_pos (List.any_eq_true.mpr ⟨x, hx, by simp [e]⟩), List.map_map]
    refine List.map_congr_left fun y _ => ?_
    show (if y.1 = k then (y.1, v) else y).1 = y.1
    split <;> rfl
  · refine .inr ⟨h, ?_⟩
    rw [if_neg, List.map_append]
    · rfl
    · intro z
      obtain ⟨x, hx, e⟩ := List.any_eq_true.mp z
      exact h (List.mem_map.mpr ⟨x, hx, by simpa using e⟩)
theorem pkey_inj {p q : Pt} (h : pkey p = pkey q) : p = q := by
  unfold pkey at h
  injection h with h1 h2
  injection h1 with h1
  injection h2 with h2 _
  injection h2 with h2
  exact Prod.ext h1 h2
theorem keys_path {K : PySem.W.Frag} {H H' : Hp} (s : Same H H') : ∀ {kvs : List (List Key × V)} {bs : List Addr} {ps : List Pt}, IsKeys H kvs bs → kvs.map (·.1) = ps.map pkey → AllAt (At2 K H') (bs.map V.ref) ps
  | [], [], [], .nil, _ => .nil
  | [], [], _ :: _, .nil, e => nomatch e
  | _ :: _, _ :: _, [], .cons _ _, e => nomatch e
  | kv :: kvs, b :: bs, p :: ps, .cons h t, e => by
    rw [List.map_cons, List.map_cons] at e
    obtain ⟨e1, e2⟩ := List.cons.inj e
    rw [e1] at h
    exact .cons ⟨b, rfl, .inl (.inl (s _ _ h))⟩ (keys_path s t e2)
def spRow (K : PySem.W.Frag) : Sp := fun vs H Q _ => ∃ (d l : Addr) (n m : Int), vs = [.ref d, .int n, .int m] ∧ 1 ≤ n ∧ n ≤ 60 ∧ 1 ≤ m ∧ m ≤ 1000 ∧ Deck H d l ∧
  ∀ (v : V) (ps : List Pt) H', Step d l H H' → AtPath K H' v ps → ps ≠ [] → ps.length ≤ 60 → ps.Nodup → (∀ p ∈ ps, 0 ≤ p.1 ∧ p.1 < 1000 ∧ 0 ≤ p.2 ∧ p.2 < 1000) → Q v H'

section
variable {P : Program} {w : World} {K : PySem.W.Frag} {mg : Str → Option Value} {base : Heap}

theorem ok_law_row {f : Addr} {fd : FuncData} (F : Fun K "_law_row" "_law_row" s_law_row f fd) (T : Bt mg) (D_law_draw : Def P w K mg base 1 "_law_draw" ["_law_deck_here", "_law_most"] spDraw) :
    FnG P w K mg base CX0 2 f fd ["_law_deck_here", "_law_lots", "_law_wide"] (spRow K) := by
  refine okG (k := 1) F sc_law_row (fun vs H Q E h => ?_) (fun cdv A outer s H vs Q E hr h => ?_)
  · obtain ⟨d, l, n, m, rfl, _⟩ := h
    rfl
  · obtain ⟨d, l, n, m, rfl, n0, n1, m0, m1, D, q⟩ := h
    refine ⟨_, (pss_cons (ps_set (i := 3) sc_law_row.nd rfl (.inl rfl) pe_dnewT)
      (pss_cons (ps_for PassesOwn.never rfl (pi_range1 (by rfl) T.range (pa_cons (pv 1) pa_nil)) (pg_name (i := 4) sc_law_row.nd rfl (.inl rfl)) (pss_one (ps_dput (Nat.lt_of_le_of_lt (Nat.add_le_add_left (by decide) _) hr.room.units) (pv 3) (tupN (pa_cons (callD D_law_draw (hr.mono (by decide)) (pa_cons (pv 0) (pa_cons (pv 2) pa_nil))) (pa_cons (callD D_law_draw (hr.mono (by decide)) (pa_cons (pv 0) (pa_cons (pv 2) pa_nil))) pa_nil))) pe_bl (by rfl))))
      (pss_one (ps_ret (pe_callTy (cr_tupDT rfl) (by rfl) T.tuple (by decide +kernel) (pa_cons (pv 3) pa_nil)))))), ?_⟩
    intro pD nD
    have np := D.nd nD
    refine ⟨_, rfl, n, rfl, by omega, by omega, for_range (n := n.toNat) (fun i σ H' => ∃ y4, σ = [some (.ref d), some (.int n), some (.int m), some (.ref pD), y4] ∧ Step d l H H' ∧
      ∃ (kvs : List (List Key × V)) (ps : List Pt), H' pD = some (.dT kvs) ∧ kvs.map (·.1) = ps.map pkey ∧ ps.Nodup ∧ ps.length ≤ i ∧ (0 < i → ps ≠ []) ∧ (∀ p ∈ ps, 0 ≤ p.1 ∧ p.1 < 1000 ∧ 0 ≤ p.2 ∧ p.2 < 1000)) ?_ ?_ ?_⟩
    · exact ⟨_, rfl, (Step.refl D).updN np.1 np.2 nD, [], [], upd_same, rfl, .nil, Nat.le_refl _, fun z => absurd z (Nat.lt_irrefl _), fun _ z => nomatch z⟩
    · rintro i σ H5 hi ⟨y4, rfl, S5, kvs, ps, e1, e2, e3, e4, e5, e6⟩
      refine ⟨.ref pD, rfl, .ref d, rfl, _, rfl, d, l, m, rfl, by omega, (by omega), S5.deck, fun x H6 x0 x1 S6 => ?_⟩
      refine ⟨.ref d, rfl, _, rfl, d, l, m, rfl, by omega, (by omega), S6.deck, fun y H7 y0 y1 S7 => ⟨(by show 2 ≤ sizeLine; decide), fun pT H8 n8 s8 g8 => ?_⟩⟩
      have k6 := S6.at np.1 np.2 e1
      have k7 := S7.at np.1 np.2 k6
      have k8 := s8 _ _ k7
      have lk : kvs.length = ps.length := by
        have := congrArg List.length e2
        rwa [List.length_map, List.length_map] at this
      have S8 : Step d l H H8 := ((S5.trans S6).trans S7).trans (Step.of S7.deck s8)
      refine ⟨pD, _, rfl, .inr ⟨kvs, pkey (x, y), pT, k8, rfl, g8, by rw [sizeLine_eq]; omega, rfl⟩, _, rfl, S8.updN np.1 np.2 nD, putK kvs (pkey (x, y)) (.bl true), if (x, y) ∈ ps then ps else ps ++ [(x, y)], upd_same, ?_, ?_, ?_, ?_, ?_⟩
      · rcases keys_put kvs (pkey (x, y)) (.bl true) with ⟨z, ez⟩ | ⟨z, ez⟩
        · rw [e2] at z ez
          obtain ⟨p, hp, e⟩ := List.mem_map.mp z
          rw [ez, if_pos (by rw [← pkey_inj e]; exact hp)]
        · rw [e2] at z ez
          rw [ez, if_neg (fun h => z (List.mem_map.mpr ⟨_, h, rfl⟩)), List.map_append]
          rfl
      · split
        · exact e3
        · rename_i h
          exact List.nodup_append.mpr ⟨e3, List.pairwise_singleton _ _, fun a ha b hb e => h (by rw [List.mem_singleton.mp hb] at e; rw [← e]; exact ha)⟩
      · split
        · omega
        · rw [List.length_append]; show ps.length + 1 ≤ i + 1; omega
      · intro _
        split
        · rename_i h
          intro z; rw [z] at h; cases h
        · intro z; cases ps <;> cases z
      · intro p hp
        split at hp
        · exact e6 p hp
        · rcases List.mem_append.mp hp with z | z
          · exact e6 p z
          · rw [List.mem_singleton.mp z]; exact ⟨x0, by show x < 1000; omega, y0, by show y < 1000; omega⟩
    · rintro σ H5 ⟨y4, rfl, S5, kvs, ps, e1, e2, e3, e4, e5, e6⟩
      refine ⟨.ref pD, rfl, pD, kvs, rfl, e1, fun bs hb pT HT nT sT gT => ?_⟩
      exact q _ ps HT (S5.trans (Step.of S5.deck sT)) ⟨pT, _, rfl, .inl (.inl gT), keys_path sT hb e2⟩ (e5 (by omega)) (by omega) e3 e6

end
end Cl

namespace Cl
open PySem PySem.Spec PyProof.Rows L2
/-! what a sorted list of links without doubles is told by its members -/
theorem leL_antisymm {l m : Pt × Pt} (h1 : leL l m) (h2 : leL m l) : l = m := by
  unfold leL SG.leG PySem.W.dataLe PySem.W.sortLe at h1 h2
  have e := (listOrd itemOrd).total (PySem.W.keyToks (SG.encN (keyL m))) (PySem.W.keyToks (SG.encN (keyL l))) (by simpa using h1) (by simpa using h2)
  obtain ⟨⟨a, b⟩, ⟨c, d⟩⟩ := l
  obtain ⟨⟨a', b'⟩, ⟨c', d'⟩⟩ := m
  have e2 : ([.inl 1, .inl 1, .inl a', .inl 1, .inl b', .inl 0, .inl 1, .inl 1, .inl c', .inl 1, .inl d', .inl 0, .inl 0] : List (Int ⊕ List Nat)) = [.inl 1, .inl 1, .inl a, .inl 1, .inl b, .inl 0, .inl 1, .inl 1, .inl c, .inl 1, .inl d, .inl 0, .inl 0] := e
  simp at e2
  obtain ⟨x1, x2, x3, x4⟩ := e2
  rw [x1, x2, x3, x4]
theorem links_unique {ls ms : List (Pt × Pt)} (n1 : ls.Nodup) (n2 : ms.Nodup) (s1 : ls.Pairwise leL) (s2 : ms.Pairwise leL) (h : ∀ l, l ∈ ls ↔ l ∈ ms) : ls = ms :=
  List.Perm.eq_of_pairwise (fun a b _ _ h1 h2 => leL_antisymm h1 h2) s1 s2 ((List.perm_ext_iff_of_nodup n1 n2).mpr h)
end Cl

namespace Cl
open PySem PySem.Spec PyProof.Rows L2
/-! data whose repr is short, made of numbers; a tuple of links -/
structure Fi (d : PyData) (dep blk : Nat) : Prop where
  lv : d.leavesShort 200 = true
  sh : d.showable = true
  nd : d.hasDict = false
  dp : d.depth ≤ dep
  bk : d.bulk ≤ blk
theorem Fi.int {i : Int} (h : okI i) : Fi (.int i) 0 0 := by
  have a := h.len
  have b := h.sh
  constructor
  · simp [PyData.leavesShort, a]
  · simp [PyData.showable, b]
  · rfl
  · exact Nat.le_refl _
  · exact Nat.le_refl _
theorem Fi.all {dep blk : Nat} : ∀ {xs : List PyData}, (∀ x ∈ xs, Fi x dep blk) → PyData.leavesShortAll 200 xs = true ∧ PyData.showableAll xs = true ∧ PyData.hasDictAll xs = false ∧ PyData.depthAll xs ≤ dep ∧ PyData.bulkAll xs ≤ xs.length * (blk + 1)
  | [], _ => ⟨rfl, rfl, rfl, Nat.zero_le _, Nat.zero_le _⟩
  | x :: xs, h => by
    obtain ⟨a, b, c, d, e⟩ := h x (List.mem_cons_self ..)
    obtain ⟨a2, b2, c2, d2, e2⟩ := Fi.all fun y hy => h y (List.mem_cons_of_mem _ hy)
    refine ⟨?_, ?_, ?_, ?_, ?_⟩
    · show (PyData.leavesShort 200 x && PyData.leavesShortAll 200 xs) = true
      rw [a, a2]; rfl
    · show (PyData.showable x && PyData.showableAll xs) = true
      rw [b, b2]; rfl
    · show (PyData.hasDict x || PyData.hasDictAll xs) = false
      rw [c, c2]; rfl
    · show max (PyData.depth x) (PyData.depthAll xs) ≤ dep
      omega
    · show PyData.bulk x + 1 + PyData.bulkAll xs ≤ (xs.length + 1) * (blk + 1)
      rw [Nat.add_mul]
      omega
theorem Fi.tup {dep blk : Nat} {xs : List PyData} (h : ∀ x ∈ xs, Fi x dep blk) : Fi (.tuple xs) (dep + 1) (xs.length * (blk + 1)) := by
  obtain ⟨a, b, c, d, e⟩ := Fi.all h
  exact ⟨a, b, c, by show PyData.depthAll xs + 1 ≤ _; omega, e⟩
theorem Fi.up {d : PyData} {a b a2 b2 : Nat} (h : Fi d a b) (h1 : a ≤ a2) (h2 : b ≤ b2) : Fi d a2 b2 := ⟨h.lv, h.sh, h.nd, Nat.le_trans h.dp h1, Nat.le_trans h.bk h2⟩
theorem Fi.fine {d : PyData} {a b : Nat} (h : Fi d a b) (h1 : a ≤ 60) (h2 : b ≤ 80000) : Fine d := ⟨h.lv, h.sh, h.nd, Nat.le_trans h.dp h1, Nat.le_trans h.bk h2⟩
theorem Fi.pt {p : Pt} (h1 : okI p.1) (h2 : okI p.2) : Fi (pd p) 1 2 := Fi.tup (dep := 0) (blk := 0) fun x hx => by
  simp only [List.mem_cons, List.not_mem_nil, or_false] at hx
  rcases hx with rfl | rfl
  · exact .int h1
  · exact .int h2
theorem Fi.ln {r : Ln} (h1 : okI r.1.1) (h2 : okI r.1.2) (h3 : okI r.2.1) (h4 : okI r.2.2) : Fi (dl r) 2 6 := Fi.tup (dep := 1) (blk := 2) fun x hx => by
  simp only [List.mem_cons, List.not_mem_nil, or_false] at hx
  rcases hx with rfl | rfl
  · exact .pt h1 h2
  · exact .pt h3 h4
theorem nodup_len {α : Type} [DecidableEq α] : ∀ (ms L : List α), ms.Nodup → (∀ x ∈ ms, x ∈ L) → ms.length ≤ L.length
  | [], _, _, _ => Nat.zero_le _
  | a :: ms, L, nd, h => by
    obtain ⟨n1, n2⟩ := List.nodup_cons.mp nd
    have ha := h a List.mem_cons_self
    have := nodup_len ms (L.erase a) n2 fun x hx => (List.mem_erase_of_ne (fun z => n1 (by rw [← z]; exact hx))).mpr (h x (List.mem_cons_of_mem _ hx))
    rw [List.length_erase_of_mem ha] at this
    have p : 0 < L.length := List.length_pos_of_mem ha
    rw [List.length_cons]
    omega
theorem mem_links {pss : List (List Pt)} {l : Pt × Pt} (h : l ∈ linksP pss) : ∃ ps ∈ pss, l.1 ∈ ps ∧ l.2 ∈ ps := by
  unfold linksP at h
  obtain ⟨ps, hp, hl⟩ := List.mem_flatMap.mp h
  obtain ⟨x, hx, e⟩ := List.mem_map.mp hl
  have h1 := (List.of_mem_zip hx).1
  have h2 := List.mem_of_mem_drop (List.of_mem_zip hx).2
  refine ⟨ps, hp, ?_⟩
  rw [← e]
  unfold linkP
  split
  · exact ⟨h1, h2⟩
  · exact ⟨h2, h1⟩
theorem fine_links {ms : List Ln} (h : ∀ r ∈ ms, BdN 10000000 r.1 ∧ BdN 10000000 r.2) (len : ms.length ≤ 10000) : Fine (.tuple (ms.map dl)) := by
  have ok : ∀ p : Pt, BdN 10000000 p → okI p.1 ∧ okI p.2 := fun p hp => by
    unfold BdN at hp
    exact ⟨okI.of (by omega) (by omega), okI.of (by omega) (by omega)⟩
  refine (Fi.tup (dep := 2) (blk := 6) fun x hx => ?_).fine (by decide) (by rw [List.length_map]; omega)
  obtain ⟨r, hr, rfl⟩ := List.mem_map.mp hx
  obtain ⟨a, b⟩ := ok _ (h r hr).1
  obtain ⟨c, d⟩ := ok _ (h r hr).2
  exact .ln a b c d
end Cl

namespace Cl
open PySem PySem.Spec PyProof.Rows L2
/-! links: two corners in order; doubles dropped; paths put otherwise -/
theorem leF_pt {a b : Addr} {p q : Pt} (h : SG.leG SG.encF (a, [p.1, p.2]) (b, [q.1, q.2])) : llt q p = false := by
  have e : PySem.W.dataLt (pd q) (pd p) = llt q p := lt_pd q p
  rw [← e]
  unfold SG.leG PySem.W.dataLe PySem.W.sortLe at h
  have h2 : (!PyProof.Rows.lexLt itemOrd (PySem.W.keyToks (pd q)) (PySem.W.keyToks (pd p))) = true := h
  unfold PySem.W.dataLt
  simpa using h2
theorem llt_both {p q : Pt} (h : llt q p = false) (e : llt p q = false) : p = q := by
  unfold llt at e h
  simp only [decide_eq_false_iff_not] at e h
  exact Prod.ext (by omega) (by omega)
theorem llt_not {p q : Pt} (h : llt p q = true) : llt q p = false := by
  unfold llt at h ⊢
  simp only [decide_eq_false_iff_not, decide_eq_true_eq] at h ⊢
  omega
theorem linkP_of {p q : Pt} (h : llt q p = false) : linkP (p, q) = (p, q) := by
  cases e : llt p q
  · have e := llt_both h e
    subst e
    unfold linkP
    split <;> rfl
  · unfold linkP
    simp only [e]
    rfl
theorem linkP_of' {p q : Pt} (h : llt q p = false) : linkP (q, p) = (p, q) := by
  unfold linkP
  simp only [h]
  rfl
theorem linkP_swap (p q : Pt) : linkP (q, p) = linkP (p, q) := by
  cases h : llt q p
  · rw [linkP_of h, linkP_of' h]
  · have h := llt_not h
    rw [linkP_of h, linkP_of' h]
theorem perm_two {α : Type} {x y : α} {L : List α} (h : L.Perm [x, y]) : L = [x, y] ∨ L = [y, x] := by
  match L, h.length_eq, h with
  | [u, v], _, h =>
    have hu : u ∈ [x, y] := h.mem_iff.mp List.mem_cons_self
    rcases List.mem_cons.mp hu with e | e
    · subst e
      have h2 := List.perm_singleton.mp (List.Perm.cons_inv h)
      exact .inl (by rw [h2])
    · have e := List.mem_singleton.mp e
      subst e
      have h2 := List.perm_singleton.mp (List.Perm.cons_inv (h.trans (List.Perm.swap ..)))
      exact .inr (by rw [h2])
structure Ded (ms T : List Ln) : Prop where
  nd : ms.Nodup
  pw : ms.Pairwise leL
  mem : ∀ l, l ∈ ms ↔ l ∈ T
  last : ms.getLast? = T.getLast?
theorem Ded.nil : Ded [] [] := ⟨.nil, .nil, fun _ => Iff.rfl, rfl⟩
theorem Ded.skip {ms T : List Ln} {x : Ln} (h : Ded ms T) (e : ms.getLast? = some x) : Ded ms (T ++ [x]) := by
  refine ⟨h.nd, h.pw, fun l => ?_, by rw [e, List.getLast?_append, List.getLast?_singleton]; rfl⟩
  rw [List.mem_append, List.mem_singleton, h.mem]
  refine ⟨.inl, fun z => ?_⟩
  rcases z with z | rfl
  · exact z
  · rw [h.last] at e
    exact List.mem_of_getLast? e
theorem Ded.add {ms T : List Ln} {x : Ln} (h : Ded ms T) (hs : (T ++ [x]).Pairwise leL) (e : ms.getLast? ≠ some x) : Ded (ms ++ [x]) (T ++ [x]) := by
  obtain ⟨p1, _, p2⟩ := List.pairwise_append.mp hs
  have le : ∀ l ∈ T, leL l x := fun l hl => p2 l hl x (List.mem_singleton.mpr rfl)
  have nx : x ∉ ms := fun hx => by
    have hx := (h.mem x).mp hx
    rw [h.last] at e
    cases hT : T.getLast? with
    | none => rw [List.getLast?_eq_none_iff] at hT; rw [hT] at hx; cases hx
    | some z =>
      rw [hT] at e
      obtain ⟨T', rfl⟩ := List.getLast?_eq_some_iff.mp hT
      rcases List.mem_append.mp hx with w | w
      · have l1 : leL x z := (List.pairwise_append.mp p1).2.2 x w z (List.mem_singleton.mpr rfl)
        have l2 := le z (List.mem_append.mpr (.inr (List.mem_singleton.mpr rfl)))
        exact e (by rw [leL_antisymm l1 l2])
      · exact e (by rw [List.mem_singleton.mp w])
  refine ⟨List.nodup_append.mpr ⟨h.nd, List.pairwise_singleton _ _, fun a ha b hb z => nx ?_⟩, List.pairwise_append.mpr ⟨h.pw, List.pairwise_singleton _ _, fun a ha b hb => ?_⟩, fun l => ?_, ?_⟩
  · rw [List.mem_singleton.mp hb] at z
    rw [← z]
    exact ha
  · rw [List.mem_singleton.mp hb]
    exact le a ((h.mem a).mp ha)
  · rw [List.mem_append, List.mem_append, h.mem]
  · rw [List.getLast?_append, List.getLast?_append, List.getLast?_singleton]
    rfl
theorem cut_last27 (ws : List V) : cutV ws (some (-1)) none = ws.getLast?.toList := by
  unfold cutV
  have e : HT.sIx ws.length 0 (some (-1)) = ws.length - 1 := by
    unfold HT.sIx
    simp only []
    split <;> omega
  rw [e, HT.sIx_none]
  cases h : ws.getLast? with
  | none => rw [List.getLast?_eq_none_iff] at h; subst h; rfl
  | some z =>
    obtain ⟨T', rfl⟩ := List.getLast?_eq_some_iff.mp h
    rw [List.length_append, List.length_singleton, Nat.add_sub_cancel, List.drop_left, Nat.add_sub_cancel_left]
    rfl
theorem last_all {α : Type} {R : V → α → Prop} : ∀ {ws : List V} {ls : List α}, AllAt R ws ls → AllAt R ws.getLast?.toList ls.getLast?.toList
  | _, _, .nil => .nil
  | _, _, .cons h .nil => .cons h .nil
  | _, _, .cons h (.cons h2 t) => by
    have := last_all (AllAt.cons h2 t)
    rw [List.getLast?_cons_cons, List.getLast?_cons_cons]
    exact this
theorem eqv_dl (r s : Ln) : PyData.eqv (dl r) (dl s) = decide (r = s) := by
  obtain ⟨⟨a, b⟩, c, d⟩ := r
  obtain ⟨⟨a', b'⟩, c', d'⟩ := s
  rw [Bool.eq_iff_iff]
  simp [dl, pd, PyData.eqv, PyData.eqvAll, and_assoc]
theorem eqv_last (o : Option Ln) (x : Ln) : PyData.eqv (.list (o.toList.map dl)) (.list [dl x]) = decide (o = some x) := by
  cases o with
  | none => rfl
  | some z =>
    show (PyData.eqv (dl z) (dl x) && true) = _
    rw [eqv_dl, Bool.and_true]
    simp
theorem mem_halves {ps : List Pt} {x y : Pt} : (x, y) ∈ halvesP ps ↔ ∃ i, ps[i]? = some x ∧ ps[i + 1]? = some y := by
  unfold halvesP
  rw [List.mem_iff_getElem?]
  refine exists_congr fun i => ?_
  rw [List.getElem?_zip_eq_some, List.getElem?_drop, Nat.add_comm 1 i]
theorem mem_linksP {pss : List (List Pt)} {l : Ln} : l ∈ linksP pss ↔ ∃ ps ∈ pss, ∃ x y, (x, y) ∈ halvesP ps ∧ linkP (x, y) = l := by
  unfold linksP
  rw [List.mem_flatMap]
  refine exists_congr fun ps => and_congr_right fun _ => ?_
  rw [List.mem_map]
  exact ⟨fun ⟨⟨x, y⟩, h1, h2⟩ => ⟨x, y, h1, h2⟩, fun ⟨x, y, h1, h2⟩ => ⟨(x, y), h1, h2⟩⟩
theorem links_sub {pss qss : List (List Pt)} (h : ∀ ps ∈ pss, ps ∈ qss) {l : Ln} (hl : l ∈ linksP pss) : l ∈ linksP qss := by
  obtain ⟨ps, hp, z⟩ := mem_linksP.mp hl
  exact mem_linksP.mpr ⟨ps, h ps hp, z⟩
theorem links_mem {pss qss : List (List Pt)} (h : ∀ ps, ps ∈ pss ↔ ps ∈ qss) (l : Ln) : l ∈ linksP pss ↔ l ∈ linksP qss :=
  ⟨links_sub fun ps hp => (h ps).mp hp, links_sub fun ps hp => (h ps).mpr hp⟩
theorem halves_rev {ps : List Pt} {x y : Pt} (h : (x, y) ∈ halvesP ps.reverse) : (y, x) ∈ halvesP ps := by
  obtain ⟨i, h1, h2⟩ := mem_halves.mp h
  have l2 : i + 1 < ps.reverse.length := (List.getElem?_eq_some_iff.mp h2).1
  rw [List.length_reverse] at l2
  rw [List.getElem?_reverse (by omega)] at h1
  rw [List.getElem?_reverse l2] at h2
  exact mem_halves.mpr ⟨ps.length - 1 - (i + 1), h2, by rw [show ps.length - 1 - (i + 1) + 1 = ps.length - 1 - i by omega]; exact h1⟩
theorem links_rev (pss : List (List Pt)) (l : Ln) : l ∈ linksP (pss.map List.reverse) ↔ l ∈ linksP pss := by
  rw [mem_linksP, mem_linksP]
  constructor
  · rintro ⟨qs, hq, x, y, h1, h2⟩
    obtain ⟨ps, hp, rfl⟩ := List.mem_map.mp hq
    exact ⟨ps, hp, y, x, halves_rev h1, by rw [linkP_swap]; exact h2⟩
  · rintro ⟨ps, hp, x, y, h1, h2⟩
    exact ⟨ps.reverse, List.mem_map.mpr ⟨ps, hp, rfl⟩, y, x, halves_rev (by rw [List.reverse_reverse]; exact h1), by rw [linkP_swap]; exact h2⟩
theorem links_ones (pss : List (List Pt)) : linksP (pss.map (List.take 1)) = [] := by
  induction pss with
  | nil => rfl
  | cons ps pss ih =>
    show (halvesP (ps.take 1)).map linkP ++ linksP (pss.map (List.take 1)) = []
    rw [ih, List.append_nil]
    cases ps <;> rfl
end Cl

set_option maxHeartbeats 0
namespace Cl
open PySem PySem.Spec PyProof.Rows L2
open GxR (TabB TabG)

theorem op_ge2 {X : Cx} (hu : X.A.units + 64 < cLine) : OpR X (compareOp .GtE) (rCmp2 X.K fun p q => !llt p q) := by
  intro pins s σ H x y v u Q I rx ry ⟨p, q, hp, hq, h⟩
  obtain ⟨as, r1⟩ := Dp.reads I _ x v hp.dp rx
  obtain ⟨bs, r2⟩ := Dp.reads I _ y u hq.dp ry
  exact PySem.W.ge_data r1 r2 (alike_pd p q) (fun z => nomatch z) (by show X.A.units + min 1 1 < cLine; omega) ⟨.bl _, H, I, rfl, by rw [lt_pd]; exact h⟩
def sd (l : Ln) (p : Pt) : Int := trn (less l.2 l.1) (less p l.1)
def prtB (l r : Ln) : Bool := decide (sd l r.1 * sd l r.2 < 0)
def acB (l r : Ln) : Bool := prtB l r && prtB r l
theorem sd_bd {l : Ln} {p : Pt} (bl : BdL l) (bp : BdC p) : (sd l p).natAbs < 2 ^ 122 := trn_lt (bd_less bl.2 bl.1) (bd_less bp bl.1)
def spPart (K : PySem.W.Frag) (f : Ln → Ln → Bool) : Sp := fun vs H Q _ => ∃ u v l r, vs = [u, v] ∧ AtL K H u l ∧ AtL K H v r ∧ BdL l ∧ BdL r ∧ ∀ H', Same H H' → Q (.bl (f l r)) H'

section
variable {P : Program} {w : World} {K : PySem.W.Frag} {mg : Str → Option Value} {base : Heap}

theorem okparts {f : Addr} {fd : FuncData} (F : Fun K "parts" "parts" sparts f fd) (T : Bt mg) (Dside_of : Def P w K mg base 2 "side_of" ["line", "point"] (spSide K)) :
    FnG P w K mg base CX0 3 f fd ["link", "other"] (spPart K prtB) := by
  refine okG (k := 2) F scparts (fun vs H Q E h => ?_) (fun cdv A outer s H vs Q E hr h => ?_)
  · obtain ⟨u, v, l, r, rfl, _⟩ := h
    rfl
  · obtain ⟨u, v, l, r, rfl, hL, hR, bl, br, q⟩ := h
    refine ⟨_, (pss_one (ps_ret (pe_cmpR op_lt (pe_op op_mulW (callD Dside_of (hr.mono (by decide)) (pa_cons (pv 0) (pa_cons (pe_ix ix_tup (pv 1) pe_int (fun _ _ => rfl)) pa_nil))) (callD Dside_of (hr.mono (by decide)) (pa_cons (pv 0) (pa_cons (pe_ix ix_tup (pv 1) pe_int (fun _ _ => rfl)) pa_nil)))) pe_int (nomark _)))), ?_⟩
    obtain ⟨b, x, y, rfl, hS, hx, hy⟩ := id hR
    have b1 := sd_bd bl br.1
    have b2 := sd_bd bl br.2
    refine ⟨_, rfl, _, rfl, b, _, 0, x, rfl, rfl, hS, rfl, u, x, l, r.1, rfl, hL, hx, bl, fun H1 s1 => ?_⟩
    refine ⟨_, rfl, _, rfl, b, _, 1, y, rfl, rfl, seT s1 hS, rfl, u, y, l, r.2, rfl, hL.same s1, hy.same s1, bl, fun H2 s2 => ?_⟩
    exact ⟨_, _, rfl, rfl, wide_mul (a := 122) (b := 122) b1 b2 (by decide) (by decide) (by decide), _, _, rfl, rfl, q H2 (s1.trans s2)⟩

theorem okare_across {f : Addr} {fd : FuncData} (F : Fun K "are_across" "are_across" sare_across f fd) (T : Bt mg) (Dparts : Def P w K mg base 3 "parts" ["link", "other"] (spPart K prtB)) :
    FnG P w K mg base CX0 4 f fd ["one", "other"] (spPart K acB) := by
  refine okG (k := 3) F scare_across (fun vs H Q E h => ?_) (fun cdv A outer s H vs Q E hr h => ?_)
  · obtain ⟨u, v, l, r, rfl, _⟩ := h
    rfl
  · obtain ⟨u, v, l, r, rfl, hL, hR, bl, br, q⟩ := h
    refine ⟨_, (pss_one (ps_ret (pe_and (callD Dparts (hr.mono (by decide)) (pa_cons (pv 0) (pa_cons (pv 1) pa_nil))) (pe_one (callD Dparts (hr.mono (by decide)) (pa_cons (pv 1) (pa_cons (pv 0) pa_nil))))))), ?_⟩
    refine ⟨_, rfl, _, rfl, u, v, l, r, rfl, hL, hR, bl, br, fun H1 s1 => ⟨_, rfl, ?_⟩⟩
    unfold acB at q
    cases e : prtB l r with
    | true =>
      rw [e] at q
      exact iteT ⟨_, rfl, _, rfl, v, u, r, l, rfl, hR.same s1, hL.same s1, br, bl, fun H2 s2 => q H2 (s1.trans s2)⟩
    | false =>
      rw [e] at q
      exact iteF (q H1 s1)

end
end Cl

set_option maxHeartbeats 0
namespace Cl
open PySem PySem.Spec PyProof.Rows L2
open GxR (TabB TabG)

theorem cutV_drop (xs : List V) (k : Nat) : cutV xs (some (k : Nat)) none = xs.drop k := by
  unfold cutV
  rw [HT.sIx_none, show HT.sIx xs.length 0 (some ((k : Nat) : Int)) = min k xs.length from HT.sIx_nat _ _ k]
  by_cases h : k ≤ xs.length
  · rw [Nat.min_eq_left h, List.take_of_length_le (by rw [List.length_drop]; exact Nat.le_refl _)]
  · rw [Nat.min_eq_right (by omega), Nat.sub_self, List.take_zero, List.drop_eq_nil_of_le (by omega)]

def firstP (f : Ln → Ln → Bool) : List Ln → Option (Ln × Ln)
  | [] => none
  | l :: ls => match ls.find? (f l) with
    | some r => some (l, r)
    | none => firstP f ls
def hitP (l r : Ln) : Bool := llt r.1 l.2 && acB l r
/-- what is told of two links, or None -/
def AtCr (K : PySem.W.Frag) (H : Hp) (v : V) : Option (Ln × Ln) → Prop
  | none => v = .non
  | some (l, r) => ∃ a u x, v = .ref a ∧ SqT K H a [.str "cross", u, x] ∧ AtL K H u l ∧ AtL K H x r
def SrtL (ls : List Ln) : Prop := ls.Pairwise fun l r => llt r.1 l.1 = false
def spTA (K : PySem.W.Frag) : Sp := fun vs H Q _ => ∃ a xs ls, vs = [.ref a] ∧ SqT K H a xs ∧ AllAt (AtL K H) xs ls ∧ (∀ l ∈ ls, BdL l) ∧ SrtL ls ∧ ls.length ≤ 2000 ∧
  ∀ v H', Same H H' → AtCr K H' v (firstP hitP ls) → Q v H'
theorem allAt_drop {α : Type} {R : V → α → Prop} : ∀ {vs : List V} {xs : List α} (n : Nat), AllAt R vs xs → AllAt R (vs.drop n) (xs.drop n)
  | _, _, 0, h => h
  | _, _, _ + 1, .nil => .nil
  | _, _, n + 1, .cons _ t => allAt_drop n t
theorem llt_tr {a b c : Pt} (h1 : llt a b = false) (h2 : llt b c = false) : llt a c = false := by
  unfold llt at *
  simp only [decide_eq_false_iff_not] at *
  omega

section
variable {P : Program} {w : World} {K : PySem.W.Frag} {mg : Str → Option Value} {base : Heap}

theorem oktrouble_across {f : Addr} {fd : FuncData} (F : Fun K "trouble_across" "trouble_across" strouble_across f fd) (T : Bt mg) (Dare_across : Def P w K mg base 4 "are_across" ["one", "other"] (spPart K acB)) :
    FnG P w K mg base CX0 5 f fd ["links"] (spTA K) := by
  refine okG (k := 4) F sctrouble_across (fun vs H Q E h => ?_) (fun cdv A outer s H vs Q E hr h => ?_)
  · obtain ⟨a, xs, ls, rfl, _⟩ := h
    rfl
  · obtain ⟨a, xs, ls, rfl, hS, hall, bd, srt, hlen, q⟩ := h
    refine ⟨_, (pss_cons (ps_for PassesOwn.never rfl (pi_enumT (by rfl) T.enumerate (pa_cons (pv 0) pa_nil)) (pg_tup (by rfl) (pgs_cons (pg_name (i := 1) sctrouble_across.nd rfl (.inl rfl)) (pgs_cons (pg_name (i := 2) sctrouble_across.nd rfl (.inl rfl)) pgs_nil))) (pss_one (ps_for PassesOwn.never rfl (pi_tup (pe_slice sl_tupB (pv 0) (po_some (pe_op op_add (pv 1) pe_int)) po_none)) (pg_name (i := 3) sctrouble_across.nd rfl (.inl rfl)) (pss_cons (ps_if (pt_cmpR (op_ge2 hr.room.units) (pe_ix ix_tup (pv 3) pe_int (fun _ _ => rfl)) (pe_ix ix_tup (pv 2) pe_int (fun _ _ => rfl)) (nomark _)) (pss_one ps_break) pss_nil)
      (pss_one (ps_if (pt_val (callD Dare_across (hr.mono (by decide)) (pa_cons (pv 2) (pa_cons (pv 3) pa_nil)))) (pss_one (ps_ret (tupN (pa_cons pe_str (pa_cons (pv 2) (pa_cons (pv 3) pa_nil)))))) pss_nil))))))
      (pss_one (ps_ret pe_non))), ?_⟩
    have lx := hall.length
    refine ⟨_, rfl, a, xs, rfl, hS, for_enumT (K := K) (a := a) (xs := xs) (fun i σ H' => ∃ y1 y2 y3, σ = [some (.ref a), y1, y2, y3] ∧ Same H H' ∧ firstP hitP ls = firstP hitP (ls.drop i)) ?_ (fun i σ H' z => ?_) (fun i x T σ H1 hx z nT => ?_) (fun σ H1 z => ?_)⟩
    · exact ⟨_, _, _, rfl, .refl _, rfl⟩
    · obtain ⟨_, _, _, _, z, _⟩ := z
      exact seT z hS
    · obtain ⟨y1, y2, y3, rfl, t1, e1⟩ := z
      obtain ⟨l, hl, hxl⟩ := hall.get hx
      have li : i < ls.length := (List.getElem?_eq_some_iff.mp hl).1
      have sT := same_new (o := .tup [.int (i : Nat), x]) nT
      have t2 := t1.trans sT
      have ed : ls.drop i = l :: ls.drop (i + 1) := by
        rw [List.drop_eq_getElem_cons li]
        congr 1
        rw [List.getElem?_eq_getElem li] at hl
        exact Option.some.inj hl
      refine ⟨T, _, rfl, .inl (.inl upd_same), rfl, _, _, rfl, _, _, rfl, rfl, ?_⟩
      refine ⟨_, rfl, _, rfl, _, _, rfl, rfl, ((i + 1 : Nat) : Int), by rw [Int.natCast_add]; rfl, a, xs, rfl, seT t2 hS, fun pS H2 s2 g2 => ?_⟩
      rw [cutV_drop] at g2
      have t3 := t2.trans s2
      have bl := bd l (List.mem_of_getElem? hl)
      have hxl3 := hxl.same t3
      obtain ⟨cx, ux, vx, rfl, hcx, hux, hvx⟩ := id hxl3
      have srt2 : (l :: ls.drop (i + 1)).Pairwise fun l r => llt r.1 l.1 = false := by rw [← ed]; exact List.Pairwise.drop srt
      have done : (ls.drop (i + 1)).find? (hitP l) = none → firstP hitP ls = firstP hitP (ls.drop (i + 1)) := fun e => by
        rw [e1, ed]
        show (match (ls.drop (i + 1)).find? (hitP l) with | some r => some (l, r) | none => firstP hitP (ls.drop (i + 1))) = _
        rw [e]
      have hall2 : AllAt (AtL K H2) (xs.drop (i + 1)) (ls.drop (i + 1)) := allAt_drop (i + 1) (hall.map fun _ _ z => z.same t3)
      refine ⟨pS, rfl, ⟨_, g2⟩, for_tup (K := K) (a := pS) (xs := xs.drop (i + 1)) (fun j σ H' => ∃ y3, σ = [some (.ref a), some (.int (i : Nat)), some (.ref cx), y3] ∧ Same H2 H' ∧ (ls.drop (i + 1)).find? (hitP l) = ((ls.drop (i + 1)).drop j).find? (hitP l)) ?_ (fun j σ H' _ z => ?_) (fun j y σ H3 hy z => ?_) (fun σ H3 z => ?_)⟩
      · exact ⟨_, rfl, .refl _, rfl⟩
      · obtain ⟨_, _, z, _⟩ := z
        exact seT z g2
      · obtain ⟨y3, rfl, t4, e4⟩ := z
        obtain ⟨r, hr_, hyr⟩ := hall2.get hy
        have rm : r ∈ ls.drop (i + 1) := List.mem_of_getElem? hr_
        have rm2 := List.mem_of_mem_drop rm
        have lj : j < (ls.drop (i + 1)).length := (List.getElem?_eq_some_iff.mp hr_).1
        have ej : (ls.drop (i + 1)).drop j = r :: (ls.drop (i + 1)).drop (j + 1) := by
          rw [List.drop_eq_getElem_cons lj]
          congr 1
          rw [List.getElem?_eq_getElem lj] at hr_
          exact Option.some.inj hr_
        have hyr4 := hyr.same t4
        obtain ⟨cy, uy, vy, rfl, hcy, huy, hvy⟩ := id hyr4
        refine ⟨_, rfl, cy, _, 0, uy, rfl, rfl, hcy, rfl, _, rfl, cx, _, 1, vx, rfl, rfl, seT t4 hcx, rfl, r.1, l.2, huy, hvx.same t4, _, rfl, ?_⟩
        show if (!llt r.1 l.2) = true then _ else _
        cases hc : llt r.1 l.2 with
        | false =>
          refine iteT ⟨_, _, _, rfl, t3.trans t4, done ?_⟩
          rw [e4, List.find?_eq_none]
          intro r' hr' hh
          have srt3 : ((ls.drop (i + 1)).drop j).Pairwise fun l r => llt r.1 l.1 = false := List.Pairwise.drop (List.pairwise_cons.mp srt2).2
          have h2 : llt r'.1 l.2 = false := by
            rw [ej] at hr' srt3
            rcases List.mem_cons.mp hr' with z | z
            · rw [z]; exact hc
            · exact llt_tr ((List.pairwise_cons.mp srt3).1 r' z) hc
          unfold hitP at hh
          rw [h2] at hh
          cases hh
        | true =>
          refine iteF ⟨_, rfl, _, rfl, .ref cx, .ref cy, l, r, rfl, hxl3.same t4, hyr4, bl, bd r rm2, fun H5 s5 => ⟨_, rfl, ?_⟩⟩
          have eh : hitP l r = acB l r := by unfold hitP; rw [hc, Bool.true_and]
          cases ha : acB l r with
          | true =>
            refine iteT ⟨_, rfl, _, rfl, (by show 3 ≤ sizeLine; decide), fun p6 H6 n6 s6 g6 => ?_⟩
            have s56 := s5.trans s6
            refine q _ H6 (((t3.trans t4).trans s5).trans s6) ?_
            have ef : firstP hitP ls = some (l, r) := by
              rw [e1, ed]
              show (match (ls.drop (i + 1)).find? (hitP l) with | some r => some (l, r) | none => firstP hitP (ls.drop (i + 1))) = _
              rw [e4, ej, List.find?_cons_of_pos (by rw [eh]; exact ha)]
            rw [ef]
            exact ⟨p6, .ref cx, .ref cy, rfl, .inl (.inl g6), (hxl3.same t4).same s56, hyr4.same s56⟩
          | false =>
            refine iteF ⟨_, rfl, t4.trans s5, ?_⟩
            rw [e4, ej, List.find?_cons_of_neg (by rw [eh, ha]; exact Bool.false_ne_true)]
      · obtain ⟨y3, rfl, t4, e4⟩ := z
        refine ⟨_, _, _, rfl, t3.trans t4, done ?_⟩
        rw [e4, hall2.length, List.drop_length]
        rfl
    · obtain ⟨y1, y2, y3, rfl, t1, e1⟩ := z
      rw [lx, List.drop_length] at e1
      exact q _ _ t1 (by rw [e1]; rfl)

end
end Cl

set_option maxHeartbeats 0
namespace Cl
open PySem PySem.Spec PyProof.Rows L2
open GxR (TabB TabG)

/-! spots as elements of sets and of sorted lists -/
def key2 (s : Pt) : List Int := [s.1, s.2]
def unkey2 : List Int → Pt
  | [a, b] => (a, b)
  | _ => (0, 0)
theorem unkey2_key (s : Pt) : unkey2 (key2 s) = s := rfl
def leC (s t : Pt) : Prop := SG.leG SG.encF ((0 : Addr), key2 s) ((0 : Addr), key2 t)
theorem leC_antisymm {s t : Pt} (h1 : leC s t) (h2 : leC t s) : s = t := by
  unfold leC SG.leG PySem.W.dataLe PySem.W.sortLe at h1 h2
  have e := (listOrd itemOrd).total (PySem.W.keyToks (SG.encF (key2 t))) (PySem.W.keyToks (SG.encF (key2 s))) (by simpa using h1) (by simpa using h2)
  obtain ⟨a, b⟩ := s
  obtain ⟨a', b'⟩ := t
  have e2 : ([.inl 1, .inl a', .inl 1, .inl b', .inl 0] : List (Int ⊕ List Nat)) = [.inl 1, .inl a, .inl 1, .inl b, .inl 0] := e
  simp at e2
  obtain ⟨x1, x2⟩ := e2
  rw [x1, x2]
theorem s2_unique {ls ms : List Pt} (n1 : ls.Nodup) (n2 : ms.Nodup) (s1 : ls.Pairwise leC) (s2 : ms.Pairwise leC) (h : ∀ l, l ∈ ls ↔ l ∈ ms) : ls = ms :=
  List.Perm.eq_of_pairwise (fun a b _ _ h1 h2 => leC_antisymm h1 h2) s1 s2 ((List.perm_ext_iff_of_nodup n1 n2).mpr h)
theorem s2_ks {K : PySem.W.Frag} {H : Hp} : ∀ {ws : List V} {ss : List Pt}, AllAt (At2 K H) ws ss → ∃ ks : List (Addr × List Int), ws = ks.map (fun p => V.ref p.1) ∧ ks.map (·.2) = ss.map key2 ∧ ∀ p ∈ ks, SG.elF K H p.1 p.2
  | _, _, .nil => ⟨[], rfl, rfl, fun _ z => nomatch z⟩
  | _, _, .cons (x := s) h t => by
    obtain ⟨ks, e1, e2, e3⟩ := s2_ks t
    obtain ⟨b, rfl, hb⟩ := h
    refine ⟨(b, key2 s) :: ks, by rw [e1]; rfl, by rw [List.map_cons, List.map_cons, e2], fun p hp => ?_⟩
    rcases List.mem_cons.mp hp with z | z
    · rw [z]; exact hb
    · exact e3 p z
theorem ks_s2 {K : PySem.W.Frag} {H : Hp} : ∀ (ks : List (Addr × List Int)), (∀ p ∈ ks, SG.elF K H p.1 p.2 ∧ ∃ s, p.2 = key2 s) → AllAt (At2 K H) (ks.map fun p => V.ref p.1) (ks.map fun p => unkey2 p.2)
  | [], _ => .nil
  | p :: ks, h => by
    obtain ⟨h1, l, e⟩ := h p List.mem_cons_self
    refine .cons ?_ (ks_s2 ks fun q hq => h q (List.mem_cons_of_mem _ hq))
    show At2 K H (.ref p.1) (unkey2 p.2)
    rw [e] at h1 ⊢
    exact ⟨p.1, rfl, h1⟩
theorem elF_same2 {K : PySem.W.Frag} {H H' : Hp} {b : Addr} {k : List Int} (h : SG.elF K H b k) (s : Same H H') : SG.elF K H' b k := seT s h
theorem keyed {ks : List (Addr × List Int)} {ss : List Pt} (e : ks.map (·.2) = ss.map key2) : ∀ p ∈ ks, ∃ s ∈ ss, p.2 = key2 s := fun p hp => by
  have : p.2 ∈ ss.map key2 := by rw [← e]; exact List.mem_map.mpr ⟨p, hp, rfl⟩
  obtain ⟨s, h1, h2⟩ := List.mem_map.mp this
  exact ⟨s, h1, h2.symm⟩
theorem alike2 {ds : List PyData} (h : ∀ d ∈ ds, ∃ s, d = SG.encF (key2 s)) : PySem.W.AllAlike ds ∧ PySem.W.Sortable ds := by
  refine ⟨fun d hd d' hd' => ?_, .inl fun d hd => ?_⟩
  · obtain ⟨s, e⟩ := h d hd
    obtain ⟨s', e'⟩ := h d' hd'
    rw [e, e']
    rfl
  · obtain ⟨s, e⟩ := h d hd
    exact ⟨_, _, by rw [e]; rfl⟩
theorem leG_leC {p r : Addr × List Int} {s t : Pt} (e : p.2 = key2 s) (e' : r.2 = key2 t) (h : SG.leG SG.encF p r) : leC s t := by
  unfold SG.leG at h
  unfold leC SG.leG
  have f : ∀ x y : Addr × List Int, PySem.W.dataLe false (fun q : Addr × List Int => SG.encF q.2) x y = PySem.W.dataLe false (fun q : Addr × List Int => SG.encF q.2) ((0 : Addr), x.2) ((0 : Addr), y.2) := fun _ _ => rfl
  rw [f, e, e'] at h
  exact h
theorem nodup_of_map2 {α β : Type} {f : α → β} : ∀ {l : List α}, (l.map f).Nodup → l.Nodup
  | [], _ => .nil
  | a :: l, h => by
    rw [List.map_cons] at h
    obtain ⟨h1, h2⟩ := List.nodup_cons.mp h
    exact List.nodup_cons.mpr ⟨fun z => h1 (List.mem_map.mpr ⟨a, z, rfl⟩), nodup_of_map2 h2⟩
theorem pts_out {K : PySem.W.Frag} {H : Hp} {ks L L' : List (Addr × List Int)} {ss0 : List Pt} (e2 : ks.map (·.2) = ss0.map key2) (e3 : ∀ p ∈ ks, SG.elF K H p.1 p.2) (nd : (L.map (·.2)).Nodup) (sub : ∀ p ∈ L, p ∈ ks) (sup : ∀ p ∈ ks, p.2 ∈ L.map (·.2))
    (pm : L'.Perm L) (pw : L'.Pairwise (SG.leG SG.encF)) : ∃ ss : List Pt, AllAt (At2 K H) (L'.map fun q => V.ref q.1) ss ∧ ss.Nodup ∧ ss.Pairwise leC ∧ ∀ s, s ∈ ss ↔ s ∈ ss0 := by
  have key : ∀ p ∈ L', ∃ s ∈ ss0, p.2 = key2 s := fun p hp => keyed e2 p (sub p (pm.mem_iff.mp hp))
  refine ⟨L'.map fun p => unkey2 p.2, ks_s2 L' fun p hp => ?_, ?_, ?_, fun s => ⟨fun hs => ?_, fun hs => ?_⟩⟩
  · obtain ⟨s, _, h2⟩ := key p hp
    exact ⟨e3 p (sub p (pm.mem_iff.mp hp)), s, h2⟩
  · have nd2 : (L'.map (·.2)).Nodup := (pm.map (·.2)).nodup_iff.mpr nd
    have : L'.map (·.2) = (L'.map fun p => unkey2 p.2).map key2 := by
      rw [List.map_map]
      refine List.map_congr_left fun p hp => ?_
      obtain ⟨s, _, h2⟩ := key p hp
      show p.2 = key2 (unkey2 p.2)
      rw [h2]
      rfl
    rw [this] at nd2
    exact nodup_of_map2 nd2
  · refine List.pairwise_map.mpr (List.Pairwise.imp_of_mem (fun {p r} hp hr hle => ?_) pw)
    obtain ⟨s, _, h2⟩ := key p hp
    obtain ⟨t, _, h3⟩ := key r hr
    rw [h2, h3]
    exact leG_leC h2 h3 hle
  · obtain ⟨p, hp, e⟩ := List.mem_map.mp hs
    obtain ⟨s', h1, h2⟩ := key p hp
    rw [h2] at e
    rw [← e]
    exact h1
  · have : key2 s ∈ ks.map (·.2) := by rw [e2]; exact List.mem_map.mpr ⟨s, hs, rfl⟩
    obtain ⟨p, hp, e⟩ := List.mem_map.mp this
    obtain ⟨p', hp3, e'⟩ := List.mem_map.mp (sup p hp)
    refine List.mem_map.mpr ⟨p', pm.mem_iff.mpr hp3, ?_⟩
    show unkey2 p'.2 = s
    rw [e', e]
    rfl

end Cl

set_option maxHeartbeats 0
namespace Cl
open PySem PySem.Spec PyProof.Rows L2
open GxR (TabB TabG)

def onP (c : Pt) (l : Ln) : Bool := llt l.1 c && (llt c l.2 && decide (sd l c = 0))
def firstOn (f : Pt → Ln → Bool) (ls : List Ln) : List Pt → Option (Pt × Ln)
  | [] => none
  | c :: cs => match ls.find? (f c) with
    | some l => some (c, l)
    | none => firstOn f ls cs
def AtOn (K : PySem.W.Frag) (H : Hp) (v : V) : Option (Pt × Ln) → Prop
  | none => v = .non
  | some (c, l) => ∃ a u x, v = .ref a ∧ SqT K H a [.str "on", u, x] ∧ At2 K H u c ∧ AtL K H x l
/-- the corners of paths, rising, each once -/
def CrnOf (pss : List (List Pt)) (cs : List Pt) : Prop := cs.Nodup ∧ cs.Pairwise leC ∧ ∀ c, c ∈ cs ↔ c ∈ pss.flatMap id
def spTO (K : PySem.W.Frag) : Sp := fun vs H Q _ => ∃ a xs pss b ys ls, vs = [.ref a, .ref b] ∧ SqT K H a xs ∧ AllAt (AtPath K H) xs pss ∧ (∀ ps ∈ pss, ps.length ≤ 100 ∧ ∀ p ∈ ps, BdC p) ∧ pss.length ≤ 20 ∧
  SqT K H b ys ∧ AllAt (AtL K H) ys ls ∧ (∀ l ∈ ls, BdL l) ∧ SrtL ls ∧ ls.length ≤ 2000 ∧ ∀ v H' cs, Same H H' → CrnOf pss cs → AtOn K H' v (firstOn onP ls cs) → Q v H'
theorem flat_len : ∀ {pss : List (List Pt)}, (∀ ps ∈ pss, ps.length ≤ 100) → (pss.flatMap id).length ≤ 100 * pss.length
  | [], _ => Nat.le_refl _
  | p :: pss, h => by
    rw [List.flatMap_cons, List.length_append, List.length_cons]
    have h1 : (id p).length ≤ 100 := h p List.mem_cons_self
    have := flat_len fun q hq => h q (List.mem_cons_of_mem _ hq)
    omega

section
variable {P : Program} {w : World} {K : PySem.W.Frag} {mg : Str → Option Value} {base : Heap}

theorem oktrouble_on {f : Addr} {fd : FuncData} (F : Fun K "trouble_on" "trouble_on" strouble_on f fd) (T : Bt mg) (Dside_of : Def P w K mg base 2 "side_of" ["line", "point"] (spSide K)) :
    FnG P w K mg base CX0 3 f fd ["paths", "links"] (spTO K) := by
  refine okG (k := 2) F sctrouble_on (fun vs H Q E h => ?_) (fun cdv A outer s H vs Q E hr h => ?_)
  · obtain ⟨a, xs, pss, b, ys, ls, rfl, _⟩ := h
    rfl
  · obtain ⟨a, xs, pss, b, ys, ls, rfl, hS, hall, hp, hlen, hL, hlall, bd, srt, hll, q⟩ := h
    refine ⟨_, (pss_cons (ps_for PassesOwn.never rfl (pi_list (pe_callB (SG.cr_sortedG (knd := SG.flatK _ _) (el := SG.elF K) (enc := SG.encF) (dd := 1) rfl hr.room.units (by decide) (fun h => SG.readF (P := P) (w := w) h) (fun I h => SG.elF_is I h)) (by rfl) T.sorted (by decide +kernel) (pa_cons (pe_callTy (SG.cr_setG (knd := SG.flatK _ _) (el := SG.elF K) rfl hr.room.units (by show 0 ≤ 50; decide) (fun I h => SG.elF_is I h)) (by rfl) T.set (by decide +kernel) (pa_cons (pe_lc2 (own := [("path", 3), ("corner", 2)]) (vs1 := [2]) (g := gName 3) (g1 := gName 2) (tt := tYes) (tt1 := tYes) (by rfl) sctrouble_on.nd (pi_tup (pv 0)) (blkOk_by (own := [("path", 3), ("corner", 2)]) (N := ["paths", "links", "corner", "path", "link"]) (sc := defScope strouble_on) (by decide +kernel)) (by decide) (fun _ _ _ _ _ => (pg_name (i := 3) sctrouble_on.nd rfl (.inl rfl))) (fun _ _ _ _ _ => pts_nil) (fun _ _ _ _ _ => (pi_tupk (K := K) rfl (pv 3))) (fun _ _ _ _ _ => (pg_name (i := 2) sctrouble_on.nd rfl (.inl rfl))) (fun _ _ _ _ _ => pts_nil) (fun _ _ _ _ _ => (pv 2))) pa_nil)) pa_nil))) (pg_name (i := 2) sctrouble_on.nd rfl (.inl rfl)) (pss_one (ps_for PassesOwn.never rfl (pi_tup (pv 1)) (pg_name (i := 4) sctrouble_on.nd rfl (.inl rfl)) (pss_cons (ps_if (pt_cmpR (op_ge2 hr.room.units) (pe_ix ix_tup (pv 4) pe_int (fun _ _ => rfl)) (pv 2) (nomark _)) (pss_one ps_break) pss_nil)
      (pss_one (ps_if (PW.pt (pw_and (pt_cmpR (op_lt2 hr.room.units) (pv 2) (pe_ix ix_tup (pv 4) pe_int (fun _ _ => rfl)) (nomark _)) (pw_and1 (pt_cmpR op_eq (callD Dside_of (hr.mono (by decide)) (pa_cons (pv 4) (pa_cons (pv 2) pa_nil))) pe_int (nomark _))))) (pss_one (ps_ret (tupN (pa_cons pe_str (pa_cons (pv 2) (pa_cons (pv 4) pa_nil)))))) pss_nil))))))
      (pss_one (ps_ret pe_non))), ?_⟩
    have lx := hall.length
    have ly := hlall.length
    refine ⟨_, rfl, a, rfl, ⟨xs, hS⟩, fun pD nD => ?_⟩
    refine genT (xs := xs) (fun i H' => Same H H' ∧ ∃ ws, H' pD = some (.lst ws) ∧ AllAt (At2 K H') ws ((pss.take i).flatMap id)) ⟨same_new nD, [], upd_same, .nil⟩ (fun i H1 _ z => seT z.1 hS) (fun i x H1 hx z => ?_) (fun H1 z => ?_)
    · obtain ⟨t1, ws, t2, t3⟩ := z
      obtain ⟨ps, hps, c, us, rfl, hc, hu⟩ := hall.get hx
      obtain ⟨lps, _⟩ := hp ps (List.mem_of_getElem? hps)
      have lpr : ((pss.take i).flatMap id).length ≤ 2000 := by
        have := flat_len fun q hq => (hp q (List.mem_of_mem_take (i := i) hq)).1
        have : (pss.take i).length ≤ pss.length := by rw [List.length_take]; exact Nat.min_le_right ..
        omega
      refine ⟨rfl, _, rfl, c, rfl, ⟨us, seT t1 hc⟩, ?_⟩
      refine genT (xs := us) (fun j H' => Same H H' ∧ SqT K H' c us ∧ AllAt (At2 K H') us ps ∧ ∃ ws, H' pD = some (.lst ws) ∧ AllAt (At2 K H') ws (((pss.take i).flatMap id) ++ ps.take j)) ⟨t1, seT t1 hc, hu.map fun _ _ z => z.same t1, ws, t2, ?_⟩ (fun j H3 _ z => z.2.1) (fun j y H3 hy3 z => ?_) (fun H3 z => ?_)
      · rw [List.take_zero, List.append_nil]
        exact t3
      · obtain ⟨u1, uc, ua, ws3, u2, u3⟩ := z
        obtain ⟨sp, hsp, hy⟩ := ua.get hy3
        refine ⟨rfl, y, rfl, ws3, u2, ?_, fun b o e => ?_, updT u2 uc, ua.map fun _ _ z => z.upd u2, ws3 ++ [y], upd_same, ?_⟩
        · rw [u3.length, List.length_append, List.length_take, sizeLine_eq]
          omega
        · rw [upd_ne (ne_of_none e nD)]; exact u1 _ _ e
        · rw [List.take_succ, hsp, Option.toList_some, ← List.append_assoc]
          exact (u3.map fun _ _ z => z.upd u2).app (.cons (hy.upd u2) .nil)
      · obtain ⟨u1, uc, ua, ws3, u2, u3⟩ := z
        refine ⟨u1, ws3, u2, ?_⟩
        rw [hu.length, List.take_length] at u3
        rw [List.take_succ, hps, Option.toList_some, List.flatMap_append, List.flatMap_singleton]
        exact u3
    obtain ⟨t1, ws, t2, t3⟩ := z
    rw [lx, List.take_length] at t3
    obtain ⟨ks, e1, e2, e3⟩ := s2_ks t3
    have lk : ks.length ≤ 2000 := by
      have := congrArg List.length e2
      rw [List.length_map, List.length_map] at this
      have := flat_len fun q hq => (hp q hq).1
      omega
    refine ⟨pD, ks, rfl, .inl (.inl (by rw [t2, e1])), e3, by omega, fun aS HS L sS nS gS ndL sub sup => ?_⟩
    have al := alike2 (ds := L.map fun p => SG.encF p.2) fun d hd => by
      obtain ⟨p, hp, rfl⟩ := List.mem_map.mp hd
      obtain ⟨s, _, e⟩ := keyed e2 p (sub p hp)
      exact ⟨s, by rw [e]⟩
    refine ⟨aS, L, rfl, gS, fun p hp2 => elF_same2 (e3 p (sub p hp2)) sS, al.1, al.2, fun p _ => by rw [SG.depthF]; exact Nat.le_refl _, fun L' pm pw few nd pT HT nT sT gT => ?_⟩
    have sHT := sS.trans sT
    obtain ⟨cs, hcs, ndc, pwc, mem⟩ := pts_out (H := HT) e2 (fun p hp => elF_same2 (e3 p hp) sHT) nd sub sup pm pw
    have t0 := t1.trans sHT
    have crn : CrnOf pss cs := ⟨ndc, pwc, mem⟩
    have bdc : ∀ c ∈ cs, BdC c := fun c hc => by
      obtain ⟨ps, h1, h2⟩ := List.mem_flatMap.mp ((mem c).mp hc)
      exact (hp ps h1).2 c h2
    have hL0 := seT t0 hL
    have hl0 := hlall.map fun _ _ z => z.same t0
    clear e1 e2 e3 sub sup al lk
    have lcs := hcs.length
    refine ⟨pT, rfl, ⟨_, .inl (.inl gT)⟩, for_list (K := K) (a := pT) (xs := L'.map fun q => V.ref q.1) (fun i σ H' => ∃ y2 y3 y4, σ = [some (.ref a), some (.ref b), y2, y3, y4] ∧ Same HT H' ∧ firstOn onP ls cs = firstOn onP ls (cs.drop i)) ?_ (fun i σ H' _ z => ?_) (fun i x σ H2 hx z => ?_) (fun σ H2 z => ?_)⟩
    · exact ⟨_, _, _, rfl, .refl _, rfl⟩
    · obtain ⟨_, _, _, _, z, _⟩ := z
      exact .inl (.inl (z _ _ gT))
    · obtain ⟨y2, y3, y4, rfl, u1, f1⟩ := z
      obtain ⟨cn, hcn, hxc⟩ := hcs.get hx
      have li : i < cs.length := (List.getElem?_eq_some_iff.mp hcn).1
      have ed : cs.drop i = cn :: cs.drop (i + 1) := by
        rw [List.drop_eq_getElem_cons li]
        congr 1
        rw [List.getElem?_eq_getElem li] at hcn
        exact Option.some.inj hcn
      have bc := bdc cn (List.mem_of_getElem? hcn)
      have done : ls.find? (onP cn) = none → firstOn onP ls cs = firstOn onP ls (cs.drop (i + 1)) := fun e => by
        rw [f1, ed]
        show (match ls.find? (onP cn) with | some r => some (cn, r) | none => firstOn onP ls (cs.drop (i + 1))) = _
        rw [e]
      have hx2 := hxc.same u1
      refine ⟨_, rfl, b, rfl, ⟨_, seT u1 hL0⟩, for_tup (K := K) (a := b) (xs := ys) (fun j σ H' => ∃ y3 y4, σ = [some (.ref a), some (.ref b), some x, y3, y4] ∧ Same H2 H' ∧ ls.find? (onP cn) = (ls.drop j).find? (onP cn)) ?_ (fun j σ H' _ z => ?_) (fun j y σ H3 hy z => ?_) (fun σ H3 z => ?_)⟩
      · exact ⟨_, _, rfl, .refl _, rfl⟩
      · obtain ⟨_, _, _, z, _⟩ := z
        exact seT (u1.trans z) hL0
      · obtain ⟨y3, y4, rfl, u4, f4⟩ := z
        obtain ⟨r, hr_, hyr⟩ := (hl0.map fun _ _ z => (z.same u1).same u4).get hy
        have rm : r ∈ ls := List.mem_of_getElem? hr_
        have lj : j < ls.length := (List.getElem?_eq_some_iff.mp hr_).1
        have ej : ls.drop j = r :: ls.drop (j + 1) := by
          rw [List.drop_eq_getElem_cons lj]
          congr 1
          rw [List.getElem?_eq_getElem lj] at hr_
          exact Option.some.inj hr_
        have br := bd r rm
        have hx4 := hx2.same u4
        obtain ⟨cy, uy, vy, rfl, hcy, huy, hvy⟩ := id hyr
        refine ⟨_, rfl, cy, _, 0, uy, rfl, rfl, hcy, rfl, _, rfl, r.1, cn, huy, hx4, _, rfl, ?_⟩
        show if (!llt r.1 cn) = true then _ else _
        cases hc : llt r.1 cn with
        | false =>
          refine iteT ⟨_, _, _, rfl, u1.trans u4, done ?_⟩
          rw [f4, List.find?_eq_none]
          intro r' hr' hh
          have srt3 : (ls.drop j).Pairwise fun l r => llt r.1 l.1 = false := List.Pairwise.drop srt
          have h2 : llt r'.1 cn = false := by
            rw [ej] at hr' srt3
            rcases List.mem_cons.mp hr' with z | z
            · rw [z]; exact hc
            · exact llt_tr ((List.pairwise_cons.mp srt3).1 r' z) hc
          unfold onP at hh
          rw [h2] at hh
          cases hh
        | true =>
          have eh : onP cn r = (llt cn r.2 && decide (sd r cn = 0)) := by unfold onP; rw [hc, Bool.true_and]
          have next : onP cn r = false → ls.find? (onP cn) = (ls.drop (j + 1)).find? (onP cn) := fun e => by
            rw [f4, ej, List.find?_cons_of_neg (by rw [e]; exact Bool.false_ne_true)]
          refine iteF ⟨_, rfl, _, rfl, cy, _, 1, vy, rfl, rfl, hcy, rfl, cn, r.2, hx4, hvy, _, rfl, ?_⟩
          show if llt cn r.2 = true then _ else _
          cases hd : llt cn r.2 with
          | false =>
            rw [hd, Bool.false_and] at eh
            exact iteF (iteF ⟨_, _, rfl, u4, next eh⟩)
          | true =>
            rw [hd, Bool.true_and] at eh
            refine iteT ⟨_, rfl, _, rfl, .ref cy, x, r, cn, rfl, hyr, hx4, br, fun H5 s5 => ?_⟩
            refine ⟨rfl, _, rfl, ?_⟩
            show if decide (V.int (sd r cn) = V.int 0) = true then _ else _
            by_cases h0 : sd r cn = 0
            · rw [decide_eq_true h0] at eh
              rw [h0, decide_eq_true rfl]
              refine iteT ⟨_, rfl, _, rfl, (by show 3 ≤ sizeLine; decide), fun p6 H6 n6 s6 g6 => ?_⟩
              have s56 := s5.trans s6
              refine q _ H6 cs (((t0.trans u1).trans u4).trans s56) crn ?_
              have ef : firstOn onP ls cs = some (cn, r) := by
                rw [f1, ed]
                show (match ls.find? (onP cn) with | some r => some (cn, r) | none => firstOn onP ls (cs.drop (i + 1))) = _
                rw [f4, ej, List.find?_cons_of_pos eh]
              rw [ef]
              exact ⟨p6, x, .ref cy, rfl, .inl (.inl g6), hx4.same s56, hyr.same s56⟩
            · rw [decide_eq_false h0] at eh
              rw [decide_eq_false (fun z => h0 (V.int.inj z))]
              exact iteF ⟨_, _, rfl, u4.trans s5, next eh⟩
      · obtain ⟨y3, y4, rfl, u4, f4⟩ := z
        refine ⟨_, _, _, rfl, u1.trans u4, done ?_⟩
        rw [f4, ly, List.drop_length]
        rfl
    · obtain ⟨y2, y3, y4, rfl, u1, f1⟩ := z
      rw [lcs, List.drop_length] at f1
      exact q _ _ cs (t0.trans u1) crn (by rw [f1]; rfl)

end
end Cl

set_option maxHeartbeats 0
/-! a or b, a None or a tuple with an item -/
namespace Cl
open PySem PySem.Spec PyProof.Rows L2
def tOrN (K : PySem.W.Frag) (ta tb : TE) : TE := fun σ H Q => ta σ H fun x H1 => (x = .non ∧ tb σ H1 Q) ∨ ∃ a ys, x = .ref a ∧ SqT K H1 a ys ∧ ys ≠ [] ∧ ys.length ≤ 1000 ∧ Q x H1
theorem pe_orN {X : Cx} {a b : Expr} {rest : List Expr} {pos : Pos} {ta tb : TE} (ha : PE X a ta) (hb : PE X (.BoolOp .Or (b :: rest) pos) tb) : PE X (.BoolOp .Or (a :: b :: rest) pos) (tOrN X.K ta tb) := by
  refine ⟨fun pins s σ H Q I h => ?_⟩
  refine BoolOp_or (thn (ha.run pins s σ H _ I h) fun v s1 ⟨x, H1, I1, r1, q1⟩ => ?_)
  rcases q1 with ⟨rfl, q1⟩ | ⟨c, ys, rfl, hs, hne, hl, q1⟩
  · cases r1
    exact truthy_none (hb.run pins s1 σ H1 Q I1 q1)
  · cases r1
    obtain ⟨its, rv, ⟨o, ho, hc, n, hd⟩, hz⟩ := I1.tuple hs
    have ln := rv.length
    have hpos : 0 < ys.length := List.length_pos_iff.mpr hne
    refine truthy_tuple (t := c) (items := its.toArray) ?_ ?_ ?_
    · exact ⟨o, ho, hc, n, by simpa using hd⟩
    · rw [List.size_toArray]; omega
    · have e : (!its.toArray.isEmpty) = true := by
        rw [List.isEmpty_toArray]
        cases its with
        | nil => exact absurd ln (by rw [List.length_nil]; omega)
        | cons => rfl
      rw [e]
      exact ⟨.ref c, H1, I1.tok _, rfl, q1⟩
end Cl

set_option maxHeartbeats 0
namespace Cl
open PySem PySem.Spec PyProof.Rows L2
open GxR (TabB TabG)

theorem AtPath.same {K : PySem.W.Frag} {H H' : Hp} {v : V} {ps : List Pt} (h : AtPath K H v ps) (s : Same H H') : AtPath K H' v ps := by
  obtain ⟨a, xs, e, h1, h2⟩ := h
  exact ⟨a, xs, e, seT s h1, h2.map fun _ _ z => z.same s⟩
theorem leL_first {l m : Ln} (h : leL l m) : llt m.1 l.1 = false := by
  cases e : llt m.1 l.1 with
  | false => rfl
  | true =>
    exfalso
    have h2 : PyProof.Rows.lexLt itemOrd (PySem.W.keyToks (SG.encN (keyL m))) (PySem.W.keyToks (SG.encN (keyL l))) = false := by
      unfold leL SG.leG PySem.W.dataLe PySem.W.sortLe at h
      simpa using h
    obtain ⟨⟨a, b⟩, c, d⟩ := l
    obtain ⟨⟨a', b'⟩, c', d'⟩ := m
    have h3 : PyProof.Rows.lexLt itemOrd [.inl 1, .inl 1, .inl a', .inl 1, .inl b', .inl 0, .inl 1, .inl 1, .inl c', .inl 1, .inl d', .inl 0, .inl 0] [.inl 1, .inl 1, .inl a, .inl 1, .inl b, .inl 0, .inl 1, .inl 1, .inl c, .inl 1, .inl d, .inl 0, .inl 0] = false := h2
    rw [lex_self (O := itemOrd), lex_self (O := itemOrd)] at h3
    unfold llt at e
    simp only [decide_eq_true_eq] at e
    rcases e with e | ⟨e, e2⟩
    · rw [lex_diff (O := itemOrd) (by intro z; injection z with z; omega)] at h3
      have : decide (a' < a) = false := h3
      exact of_decide_eq_false this e
    · subst e
      rw [lex_self (O := itemOrd), lex_self (O := itemOrd), lex_diff (O := itemOrd) (by intro z; injection z with z; omega)] at h3
      have : decide (b' < b) = false := h3
      exact of_decide_eq_false this e2
def AtTr (K : PySem.W.Frag) (H : Hp) (v : V) (o : Option (Pt × Ln)) (o2 : Option (Ln × Ln)) : Prop := match o with
  | some _ => AtOn K H v o
  | none => AtCr K H v o2
def spTr (K : PySem.W.Frag) : Sp := fun vs H Q _ => ∃ a xs pss, vs = [.ref a] ∧ SqT K H a xs ∧ AllAt (AtPath K H) xs pss ∧ (∀ ps ∈ pss, ps ≠ [] ∧ ps.length ≤ 100 ∧ ∀ p ∈ ps, BdC p) ∧ pss.length ≤ 20 ∧
  ∀ v H' cs ls, Same H H' → CrnOf pss cs → ls.Nodup → ls.Pairwise leL → (∀ l, l ∈ ls ↔ l ∈ linksP pss) → AtTr K H' v (firstOn onP ls cs) (firstP hitP ls) → Q v H'
theorem link_pts {pss : List (List Pt)} {l : Ln} (h : l ∈ linksP pss) : ∃ ps ∈ pss, l.1 ∈ ps ∧ l.2 ∈ ps := by
  obtain ⟨ps, hp, x, y, hh, e⟩ := mem_linksP.mp h
  obtain ⟨i, h1, h2⟩ := mem_halves.mp hh
  have m1 := List.mem_of_getElem? h1
  have m2 := List.mem_of_getElem? h2
  refine ⟨ps, hp, ?_⟩
  rw [← e]
  unfold linkP
  split
  · exact ⟨m1, m2⟩
  · exact ⟨m2, m1⟩

section
variable {P : Program} {w : World} {K : PySem.W.Frag} {mg : Str → Option Value} {base : Heap}

theorem oktrouble_of {f : Addr} {fd : FuncData} (F : Fun K "trouble_of" "trouble_of" strouble_of f fd) (T : Bt mg) (Dlinks_of : Def P w K mg base 2 "links_of" ["paths"] (spLinks K)) (Dtrouble_on : Def P w K mg base 3 "trouble_on" ["paths", "links"] (spTO K)) (Dtrouble_across : Def P w K mg base 5 "trouble_across" ["links"] (spTA K)) :
    FnG P w K mg base CX0 6 f fd ["paths"] (spTr K) := by
  refine okG (k := 5) F sctrouble_of (fun vs H Q E h => ?_) (fun cdv A outer s H vs Q E hr h => ?_)
  · obtain ⟨a, xs, pss, rfl, _⟩ := h
    rfl
  · obtain ⟨a, xs, pss, rfl, hS, hall, hp, hlen, q⟩ := h
    refine ⟨_, (pss_cons (ps_set (i := 1) sctrouble_of.nd rfl (.inl rfl) (callD Dlinks_of (hr.mono (by decide)) (pa_cons (pv 0) pa_nil)))
      (pss_one (ps_ret (pe_orN (callD Dtrouble_on (hr.mono (by decide)) (pa_cons (pv 0) (pa_cons (pv 1) pa_nil))) (pe_one (callD Dtrouble_across (hr.mono (by decide)) (pa_cons (pv 1) pa_nil))))))), ?_⟩
    refine ⟨_, rfl, a, xs, pss, rfl, hS, hall, fun ps hps => ⟨(hp ps hps).1, (hp ps hps).2.1⟩, hlen, fun pL ys ls H1 s1 gL hls nd pw mem => ?_⟩
    have bdl : ∀ l ∈ ls, BdL l := fun l hl => by
      obtain ⟨ps, h1, h2, h3⟩ := link_pts ((mem l).mp hl)
      exact ⟨(hp ps h1).2.2 _ h2, (hp ps h1).2.2 _ h3⟩
    have srt : SrtL ls := pw.imp fun h => leL_first h
    have lls : ls.length ≤ 2000 := by
      have h1 := nodup_len ls _ nd fun l => (mem l).mp
      have h2 := len_links pss fun ps hps => (hp ps hps).2.1
      omega
    refine ⟨_, rfl, _, rfl, a, xs, pss, pL, ys, ls, rfl, seT s1 hS, hall.map fun _ _ z => AtPath.same z s1, fun ps hps => ⟨(hp ps hps).2.1, (hp ps hps).2.2⟩, hlen, .inl (.inl gL), hls, bdl, srt, lls, fun v H2 cs s2 crn at2 => ?_⟩
    cases e : firstOn onP ls cs with
    | none =>
      rw [e] at at2
      refine .inl ⟨at2, _, rfl, pL, ys, ls, rfl, .inl (.inl (s2 _ _ gL)), hls.map fun _ _ z => AtL.same (K := K) z s2, bdl, srt, lls, fun v2 H3 s3 at3 => ?_⟩
      refine q v2 H3 cs ls ((s1.trans s2).trans s3) crn nd pw mem ?_
      rw [e]
      exact at3
    | some o =>
      rw [e] at at2
      obtain ⟨cn, l⟩ := o
      obtain ⟨c, u, x, rfl, hc, hu, hx⟩ := id at2
      refine .inr ⟨c, _, rfl, hc, by simp, by show 3 ≤ 1000; decide, ?_⟩
      refine q _ H2 cs ls (s1.trans s2) crn nd pw mem ?_
      rw [e]
      exact at2

end
end Cl

set_option maxHeartbeats 0
/-! list(d), d a dict whose keys are tuples of flat tuples -/
namespace Cl
open PySem PySem.Spec PyProof.Rows L2
theorem call_list_dN {X : Cx} (hc : X.calm = true) : CallR X (.type "list") (fun xs H Q => ∃ d L, xs = [V.ref d] ∧ H d = some (SG.DNO X.prog X.w d L) ∧ New H (.lst (L.map fun q => V.ref q.1)) Q) := by
  intro pins s σ H xs us Q I r h
  obtain ⟨d, L, rfl, hd, q⟩ := h
  obtain ⟨u, rfl, rx⟩ := r.one
  cases rx
  obtain ⟨⟨lo, hz0, o, es, ep, ho, hx, hdt, he, hn⟩, _, _⟩ := I.hok d _ hd
  have l1 : es.size = L.length := by rw [size_of_entries he]; exact List.length_map _
  refine PySem.W.kdl_call (kdl_raw lo hx hdt) (I.ok.hd hc) ho (by omega) fun h' tk acc' c' kp e it => ?_
  have eL : acc'.toList = L.map fun q => Value.ref q.1 := by
    apply List.ext_getElem?
    intro j
    have lt1 : acc'.toList.length = L.length := by rw [Array.length_toList, it.1, l1]
    by_cases hj : j < L.length
    · obtain ⟨en, hen, hv⟩ := it.2 j _ (Array.getElem?_eq_getElem (by rw [it.1, l1]; exact hj))
      have qe := entry_at he j
      unfold SG.rowsN at qe
      rw [hen, List.getElem?_map, List.getElem?_eq_getElem hj] at qe
      rw [Array.getElem?_toList, Array.getElem?_eq_getElem (by rw [it.1, l1]; exact hj), List.getElem?_map, List.getElem?_eq_getElem hj, hv, Option.some.inj qe]
      rfl
    · rw [List.getElem?_eq_none (by omega), List.getElem?_eq_none (by rw [List.length_map]; omega)]
  have vr : ∀ M : List (Addr × List (List Int)), Vals (M.map fun q => V.ref q.1) (M.map fun q => Value.ref q.1) := fun M => by
    induction M with
    | nil => exact .nil
    | cons q M ih => exact .cons rfl ih
  have hfr := I.hok.fresh (a := s.heap.objs.size) (Nat.le_refl _)
  refine ⟨.ref s.heap.objs.size, _, I.laid kp (Nat.le_refl _) (o := .lst (L.map fun q => V.ref q.1)) ?_, rfl, q.go _ hfr⟩
  refine ⟨by rw [List.length_map]; exact hz0, acc'.toList, c', by rw [eL]; exact vr L, ?_⟩
  rw [Array.toArray_toList]
  exact e
end Cl

set_option maxHeartbeats 0
namespace Cl
open PySem PySem.Spec PyProof.Rows L2
open GxR (TabB TabG)

theorem updTE {K : PySem.W.Frag} {H : Hp} {M b : Addr} {o : HO} {φ : Heap → Prop} {ys : List V} (e : H M = some (.ext φ)) (h : SqT K H b ys) : SqT K (upd H M o) b ys := by
  rcases h with (h | ⟨oo, h⟩) | h
  · exact .inl (.inl (by rw [upd_ne (ne_of h e (by intro z; cases z))]; exact h))
  · exact .inl (.inr ⟨oo, by rw [upd_ne (ne_of h e (by intro z; cases z))]; exact h⟩)
  · exact .inr h
theorem elN_updE {K : PySem.W.Frag} {H : Hp} {M b : Addr} {o : HO} {φ : Heap → Prop} {k : List (List Int)} (e : H M = some (.ext φ)) (h : SG.elN K H b k) : SG.elN K (upd H M o) b k := by
  obtain ⟨bs, h1, h2, h3⟩ := h
  exact ⟨bs, updTE e h1, h2, fun i c k hc hk => updTE e (h3 i c k hc hk)⟩
theorem lst_updE {H : Hp} {M b : Addr} {o : HO} {φ : Heap → Prop} {xs : List V} (e : H M = some (.ext φ)) (h : H b = some (.lst xs)) : (upd H M o) b = some (.lst xs) := by
  rw [upd_ne (ne_of h e (by intro z; cases z))]; exact h
def DNk (P : Program) (w : World) (K : PySem.W.Frag) (H : Hp) (d : Addr) (C : List (Ln) → Prop) : Prop := ∃ (L : List (Addr × List (List Int))) (ps : List (Ln)), H d = some (SG.DNO P w d L) ∧ (∀ p ∈ L, SG.elN K H p.1 p.2) ∧ L.map (·.2) = ps.map keyL ∧ ps.Nodup ∧ C ps
theorem keyL_inj {p q : Ln} (h : keyL p = keyL q) : p = q := by
  have := congrArg unkey h
  rw [unkey_key, unkey_key] at this
  exact this
theorem put_key {L : List (Addr × List (List Int))} {ps : List (Ln)} {b : Addr} {q : Ln} (e : L.map (·.2) = ps.map keyL) (nd : ps.Nodup) : ∃ ps' : List (Ln), (SG.putN L b (keyL q)).map (·.2) = ps'.map keyL ∧ ps'.Nodup ∧ (∀ p, p ∈ ps' ↔ p ∈ ps ∨ p = q) ∧ ps'.length ≤ ps.length + 1 := by
  unfold SG.putN
  by_cases h : keyL q ∈ L.map (·.2)
  · rw [if_pos h]
    rw [e] at h
    obtain ⟨p, hp, e2⟩ := List.mem_map.mp h
    have e3 := keyL_inj e2
    subst e3
    exact ⟨ps, e, nd, fun x => ⟨.inl, fun z => z.elim id fun y => by rw [y]; exact hp⟩, by omega⟩
  · rw [if_neg h]
    rw [e] at h
    refine ⟨ps ++ [q], by rw [List.map_append, List.map_append, e]; rfl, List.nodup_append.mpr ⟨nd, List.pairwise_singleton _ _, fun a ha c hc e3 => h (List.mem_map.mpr ⟨a, ha, by rw [e3, List.mem_singleton.mp hc]⟩)⟩, fun p => by rw [List.mem_append, List.mem_singleton], by rw [List.length_append]; exact Nat.le_refl _⟩
theorem At2.updE {K : PySem.W.Frag} {H : Hp} {M : Addr} {o : HO} {φ : Heap → Prop} {v : V} {s : Pt} (h : At2 K H v s) (e : H M = some (.ext φ)) : At2 K (L2.upd H M o) v s := by
  obtain ⟨a, rfl, h⟩ := h
  exact ⟨a, rfl, updTE e h⟩
theorem mn_mx (p q : Pt) : (mn p q, mx p q) = linkP (p, q) := by
  unfold mn mx linkP
  cases e : llt p q with
  | true =>
    rw [llt_not e]
    simp [e]
  | false =>
    cases e2 : llt q p with
    | true => simp [e]
    | false =>
      have := llt_both e2 e
      subst this
      simp
def spLLk (K : PySem.W.Frag) : Sp := fun vs H Q _ => ∃ a xs pss, vs = [.ref a] ∧ SqT K H a xs ∧ AllAt (AtPath K H) xs pss ∧ (∀ ps ∈ pss, ps.length ≤ 100) ∧ pss.length ≤ 20 ∧
  ∀ p ws ls H', Same H H' → H' p = some (.lst ws) → AllAt (AtLink K H') ws ls → ls.Nodup → ls.Pairwise leL → (∀ l, l ∈ ls ↔ l ∈ linksP pss) → Q (.ref p) H'

section
variable {P : Program} {w : World} {K : PySem.W.Frag} {mg : Str → Option Value} {base : Heap}

theorem ok_law_links {f : Addr} {fd : FuncData} (F : Fun K "_law_links" "_law_links" s_law_links f fd) (T : Bt mg) :
    FnG P w K mg base CX0 1 f fd ["_law_paths_here"] (spLLk K) := by
  refine okG (k := 0) F sc_law_links (fun vs H Q E h => ?_) (fun cdv A outer s H vs Q E hr h => ?_)
  · obtain ⟨a, xs, pss, rfl, _⟩ := h
    rfl
  · obtain ⟨a, xs, pss, rfl, hS, hall, hp, hlen, q⟩ := h
    refine ⟨_, (pss_cons (ps_set (i := 1) sc_law_links.nd rfl (.inl rfl) SG.pe_dnewN)
      (pss_cons (ps_for PassesOwn.never rfl (pi_tup (pv 0)) (pg_name (i := 2) sc_law_links.nd rfl (.inl rfl)) (pss_one (ps_for PassesOwn.never rfl (RZ.pi_zipA (by rfl) T.zip (pa_cons (pe_slice sl_tupB (pv 2) po_none (po_some (pe_un un_neg pe_int))) (pa_cons (pe_slice sl_tupB (pv 2) (po_some pe_int) po_none) pa_nil))) (pg_tup (by rfl) (pgs_cons (pg_name (i := 3) sc_law_links.nd rfl (.inl rfl)) (pgs_cons (pg_name (i := 4) sc_law_links.nd rfl (.inl rfl)) pgs_nil))) (pss_one (SG.ps_dputN hr.room.units (pv 1) (tupN (pa_cons (pe_callB (cr_min2 rfl hr.room.units) (by rfl) T.min (by decide +kernel) (pa_cons (pv 3) (pa_cons (pv 4) pa_nil))) (pa_cons (pe_callB (cr_max2 rfl hr.room.units) (by rfl) T.max (by decide +kernel) (pa_cons (pv 3) (pa_cons (pv 4) pa_nil))) pa_nil))) pe_bl (by rfl))))))
      (pss_one (ps_ret (pe_callB (SG.cr_sortedQ (knd := SG.nestK _ _) (el := SG.elN K) (enc := SG.encN) (dd := 2) rfl hr.room.units (by decide) (fun h => SG.readN h) (fun I h => SG.elN_is I h)) (by rfl) T.sorted (by decide +kernel) (pa_cons (pe_callTy (call_list_dN rfl) (by rfl) T.list (by decide +kernel) (pa_cons (pv 1) pa_nil)) pa_nil)))))), ?_⟩
    have lx := hall.length
    intro pD nD
    have s0 := same_new (o := SG.DNO P w pD []) nD
    have SM : ∀ {H' : Hp} {o : HO}, Same H H' → Same H (upd H' pD o) := fun {H' o} t b ob e => by
      rw [upd_ne (ne_of_none e nD)]; exact t b ob e
    refine ⟨_, rfl, a, rfl, ⟨xs, seT s0 hS⟩, for_tup (K := K) (a := a) (xs := xs) (fun i σ H' => ∃ y2 y3 y4, σ = [some (.ref a), some (.ref pD), y2, y3, y4] ∧ Same H H' ∧ DNk P w K H' pD (fun ps => ps.length ≤ 100 * i ∧ ∀ q, q ∈ ps ↔ q ∈ linksP (pss.take i))) ?_ (fun i σ H' _ z => ?_) (fun i x σ H2 hx z => ?_) (fun σ H2 z => ?_)⟩
    · exact ⟨_, _, _, rfl, s0, [], [], upd_same, (fun _ z => nomatch z), rfl, .nil, Nat.zero_le _, fun q => by simp [linksP]⟩
    · obtain ⟨_, _, _, _, z, _⟩ := z
      exact seT z hS
    · obtain ⟨y2, y3, y4, rfl, t1, dk⟩ := z
      obtain ⟨R, hR, c, ws, rfl, hc, hws0⟩ := hall.get hx
      have lR := hp R (List.mem_of_getElem? hR)
      have lps : i < pss.length := (List.getElem?_eq_some_iff.mp hR).1
      have lw := hws0.length
      have hc2 := seT t1 hc
      refine ⟨_, rfl, 1, rfl, -1, rfl, c, ws, rfl, hc2, fun p4 H4 s4 g4 => ?_⟩
      refine ⟨_, rfl, 1, rfl, c, ws, rfl, seT s4 hc2, fun p5 H5 s5 g5 => ?_⟩
      rw [cut_init] at g4
      rw [cut_rest] at g5
      have s35 := s4.trans s5
      have hws5 := hws0.map fun _ _ z => (z.same t1).same s35
      refine ⟨p4, p5, ws.dropLast, ws.drop 1, rfl, .inr ⟨seT s5 g4, g5, RZ.for_zipT (K := K) (xs := ws.dropLast) (ys := ws.drop 1) (by rw [List.length_dropLast, List.length_drop]) (fun m σ H' => ∃ y2 y3 y4, σ = [some (.ref a), some (.ref pD), y2, y3, y4] ∧ Same H H' ∧ SqT K H' p4 ws.dropLast ∧ SqT K H' p5 (ws.drop 1) ∧ AllAt (At2 K H') ws R ∧
        DNk P w K H' pD (fun ps => ps.length ≤ 100 * i + m ∧ ∀ q, q ∈ ps ↔ q ∈ linksP (pss.take i) ∨ q ∈ ((halvesP R).take m).map linkP)) ?_ (fun m σ H' z => ?_) (fun m x y T σ H6 hx6 hy6 z nT => ?_) (fun σ H6 z => ?_)⟩⟩
      · obtain ⟨L, ps, d1, d2, d3, d4, d5, d6⟩ := dk
        exact ⟨_, _, _, rfl, t1.trans s35, seT s5 g4, g5, hws5, L, ps, s35 _ _ d1, fun p hp => el_same (d2 p hp) s35, d3, d4, d5, fun q => by rw [d6 q]; simp⟩
      · obtain ⟨_, _, _, _, _, e4, e5, _⟩ := z
        exact ⟨e4, e5⟩
      · obtain ⟨y2, y3, y4, rfl, t6, e4, e5, hws6, L, ps, d1, d2, d3, d4, d5, d6⟩ := z
        have hm : m < ws.length - 1 := by
          have := (List.getElem?_eq_some_iff.mp hx6).1
          rwa [List.length_dropLast] at this
        have hx7 : ws[m]? = some x := by
          rw [List.getElem?_dropLast] at hx6
          rw [if_pos hm] at hx6
          exact hx6
        have hy7 : ws[m + 1]? = some y := by
          rw [List.getElem?_drop, Nat.add_comm] at hy6
          exact hy6
        have sT := same_new (o := .tup [x, y]) nT
        obtain ⟨sp, hsp, hxs⟩ := hws6.get hx7
        obtain ⟨tp, htp, hyt⟩ := hws6.get hy7
        refine ⟨T, _, rfl, .inl (.inl upd_same), rfl, _, _, rfl, _, _, rfl, rfl, ?_⟩
        refine ⟨_, rfl, _, rfl, _, rfl, x, y, sp, tp, rfl, hxs.same sT, hyt.same sT, fun u1 _ hu1 => ⟨_, rfl, _, rfl, x, y, sp, tp, rfl, hxs.same sT, hyt.same sT, fun u2 _ hu2 => ⟨(by show 2 ≤ sizeLine; decide), fun p8 H8 n8 s8 g8 => ?_⟩⟩⟩
        have sT8 := sT.trans s8
        have elK : SG.elN K H8 p8 (keyL (linkP (sp, tp))) := by
          obtain ⟨b, e1, e2⟩ := link_el (K := K) (H := H8) (v := .ref p8) (l := linkP (sp, tp)) (by
            rw [← mn_mx]
            exact ⟨p8, u1, u2, rfl, .inl (.inl g8), hu1.same s8, hu2.same s8⟩)
          cases e1
          exact e2
        have d1' := sT8 _ _ d1
        have lL : L.length = ps.length := by
          have := congrArg List.length d3
          rwa [List.length_map, List.length_map] at this
        obtain ⟨ps', f1, f2, f3, f4⟩ := put_key (b := p8) (q := linkP (sp, tp)) d3 d4
        refine ⟨pD, p8, keyL (linkP (sp, tp)), L, rfl, rfl, rfl, d1', elK, fun p hp => el_same (d2 p hp) sT8, by rw [lL, sizeLine_eq]; omega, ?_⟩
        refine ⟨_, _, _, rfl, SM (t6.trans sT8), updTE d1' (seT sT8 e4), updTE d1' (seT sT8 e5), hws6.map fun v s h => At2.updE (At2.same h sT8) d1', _, ps', upd_same, fun p hp => ?_, f1, f2, by omega, fun q' => ?_⟩
        · refine elN_updE d1' ?_
          unfold SG.putN at hp
          split at hp
          · exact el_same (d2 p hp) sT8
          · rcases List.mem_append.mp hp with z | z
            · exact el_same (d2 p z) sT8
            · rw [List.mem_singleton.mp z]; exact elK
        · have hh : (halvesP R)[m]? = some (sp, tp) := List.getElem?_zip_eq_some.mpr ⟨hsp, by rw [List.getElem?_drop, Nat.add_comm]; exact htp⟩
          rw [f3, d6, List.take_succ, hh, Option.toList_some, List.map_append, List.mem_append, List.map_cons, List.map_nil, List.mem_singleton, or_assoc]
      · obtain ⟨y2, y3, y4, rfl, t6, e4, e5, hws6, L, ps, d1, d2, d3, d4, d5, d6⟩ := z
        rw [List.length_dropLast] at d5 d6
        refine ⟨_, _, _, rfl, t6, L, ps, d1, d2, d3, d4, by omega, fun q' => ?_⟩
        rw [d6 q', List.take_succ, hR, Option.toList_some]
        have lh : (halvesP R).length ≤ ws.length - 1 := by
          unfold halvesP
          rw [List.length_zip, List.length_drop, lw]
          omega
        rw [List.take_of_length_le lh]
        unfold linksP
        rw [List.flatMap_append, List.flatMap_singleton, List.mem_append]
    · obtain ⟨y2, y3, y4, rfl, t1, L, ps, d1, d2, d3, d4, d5, d6⟩ := z
      rw [lx] at d5 d6
      rw [List.take_length] at d6
      have isK : ∀ p ∈ L, ∃ l ∈ ps, p.2 = keyL l := fun p hp => by
        have : p.2 ∈ ps.map keyL := by rw [← d3]; exact List.mem_map.mpr ⟨p, hp, rfl⟩
        obtain ⟨l, h1, h2⟩ := List.mem_map.mp this
        exact ⟨l, h1, h2.symm⟩
      have lL : L.length = ps.length := by
        have := congrArg List.length d3
        rwa [List.length_map, List.length_map] at this
      refine ⟨_, rfl, pD, L, rfl, d1, fun p6 H6 n6 s6 g6 => ⟨p6, L, rfl, .inl (.inl (.inl g6)), by omega, fun p hp => el_same (d2 p hp) s6, fun e he e' he' => ?_, .inl fun e he => ?_, fun p _ => SG.depthN p.2, fun L' pm pw p7 H7 n7 s7 g7 => ?_⟩⟩
      · obtain ⟨p, hp, rfl⟩ := List.mem_map.mp he
        obtain ⟨p', hp', rfl⟩ := List.mem_map.mp he'
        obtain ⟨l, _, h2⟩ := isK p hp
        obtain ⟨l', _, h2'⟩ := isK p' hp'
        rw [h2, h2']
        rfl
      · obtain ⟨p, hp, rfl⟩ := List.mem_map.mp he
        obtain ⟨l, _, h2⟩ := isK p hp
        exact ⟨_, _, by rw [h2]; rfl⟩
      have s78 := s6.trans s7
      have isK' : ∀ p ∈ L', ∃ l ∈ ps, p.2 = keyL l := fun p hp => isK p (pm.mem_iff.mp hp)
      have eU : (L'.map fun p => unkey p.2).map keyL = L'.map (·.2) := by
        rw [List.map_map]
        refine List.map_congr_left fun p hp => ?_
        obtain ⟨l, _, h2⟩ := isK' p hp
        show keyL (unkey p.2) = p.2
        rw [h2]
        rfl
      have nkL : (ps.map keyL).Nodup := List.Pairwise.map keyL (fun a b hab h => hab (keyL_inj h)) d4
      refine q p7 _ (L'.map fun p => unkey p.2) H7 (t1.trans s78) g7 (ks_links L' fun p hp => ?_) ?_ ?_ fun q' => ?_
      · obtain ⟨l, _, h2⟩ := isK' p hp
        exact ⟨el_same (d2 p (pm.mem_iff.mp hp)) s78, l, h2⟩
      · refine nodup_of_map2 (f := keyL) ?_
        rw [eU]
        refine (pm.map (·.2)).nodup_iff.mpr ?_
        rw [d3]
        exact nkL
      · refine List.pairwise_map.mpr (List.Pairwise.imp_of_mem (fun {p r} hp hr hle => ?_) pw)
        obtain ⟨l, _, h2⟩ := isK' p hp
        obtain ⟨m, _, h3⟩ := isK' r hr
        unfold SG.leG at hle
        unfold leL SG.leG
        rw [h2, h3]
        have f : ∀ x y : Addr × List (List Int), PySem.W.dataLe false (fun q : Addr × List (List Int) => SG.encN q.2) x y = PySem.W.dataLe false (fun q : Addr × List (List Int) => SG.encN q.2) ((0 : Addr), x.2) ((0 : Addr), y.2) := fun _ _ => rfl
        rw [f, h2, h3] at hle
        exact hle
      · rw [← d6 q']
        constructor
        · intro hq'
          obtain ⟨p, hp, e⟩ := List.mem_map.mp hq'
          obtain ⟨l, h1, h2⟩ := isK' p hp
          rw [h2] at e
          rw [← e]
          exact h1
        · intro hq'
          have : keyL q' ∈ L'.map (·.2) := by
            refine (pm.map (·.2)).mem_iff.mpr ?_
            rw [d3]
            exact List.mem_map.mpr ⟨q', hq', rfl⟩
          obtain ⟨p, hp, e⟩ := List.mem_map.mp this
          refine List.mem_map.mpr ⟨p, hp, ?_⟩
          show unkey p.2 = q'
          rw [e]
          rfl

end
end Cl

set_option maxHeartbeats 0
namespace Cl
open PySem PySem.Spec PyProof.Rows L2
open GxR (TabB TabG)

def un3 (s : S3) : S3 := sp3 s.1 s.2.1 s.2.2
theorem un3_one (p : Pt) : un3 (one3 p) = one3 p := by
  obtain ⟨k, k0, e1, e2, e3, e4, e5⟩ := spot_pos (n := p.1) (m := p.2) (d := 1) Int.zero_lt_one
  have ek : k = 1 := Int.eq_one_of_dvd_one (by omega) ⟨_, by rw [Int.mul_comm]; exact e3⟩
  rw [ek, Int.mul_one] at e1 e2 e3
  show (p.1 / spP p.1 p.2 1, p.2 / spP p.1 p.2 1, (1 : Int) / spP p.1 p.2 1) = (p.1, p.2, 1)
  rw [← e1, ← e2, ← e3]
def spCmn6 (K : PySem.W.Frag) : Sp := fun vs H Q _ => ∃ u v l r, vs = [u, v] ∧ AtL K H u l ∧ AtL K H v r ∧ BdL l ∧ BdL r ∧
  ∀ (a : Addr) (ws : List V) (ss : List S3) (H' : Hp), Same H H' → H' a = some (.lst ws) → AllAt (At3 K H') ws ss → (∀ s ∈ ss, 0 < s.2.2 ∧ s.2.2.natAbs < 2 ^ 200) → ss.map un3 = cmn l r → ss.length ≤ 2 → Q (.ref a) H'

section
variable {P : Program} {w : World} {K : PySem.W.Frag} {mg : Str → Option Value} {base : Heap}

theorem ok_law_common {f : Addr} {fd : FuncData} (F : Fun K "_law_common" "_law_common" s_law_common f fd) (T : Bt mg) (D_law_less : Def P w K mg base 1 "_law_less" ["_law_one", "_law_other"] (spLess K)) (D_law_turn : Def P w K mg base 1 "_law_turn" ["_law_one", "_law_other"] (spTurn K)) :
    FnG P w K mg base CX0 2 f fd ["_law_one", "_law_other"] (spCmn6 K) := by
  refine okG (k := 1) F sc_law_common (fun vs H Q E h => ?_) (fun cdv A outer s H vs Q E hr h => ?_)
  · obtain ⟨u, v, l, r, rfl, _⟩ := h
    rfl
  · obtain ⟨u, v, l, r, rfl, hL, hR, bl, br, q⟩ := h
    refine ⟨_, (pss_cons (ps_asg (tupN (pa_cons (pv 0) (pa_cons (pv 1) pa_nil))) (pg_tup (by rfl) (pgs_cons (pg_tup (by rfl) (pgs_cons (pg_name (i := 2) sc_law_common.nd rfl (.inl rfl)) (pgs_cons (pg_name (i := 3) sc_law_common.nd rfl (.inl rfl)) pgs_nil))) (pgs_cons (pg_tup (by rfl) (pgs_cons (pg_name (i := 4) sc_law_common.nd rfl (.inl rfl)) (pgs_cons (pg_name (i := 5) sc_law_common.nd rfl (.inl rfl)) pgs_nil))) pgs_nil))))
      (pss_cons (ps_par3 (i := 6) (j := 7) (l := 8) (by rfl) sc_law_common.nd rfl rfl rfl (by decide) (by decide) (by decide) rfl rfl rfl (pa_cons (callD D_law_less (hr.mono (by decide)) (pa_cons (pv 3) (pa_cons (pv 2) pa_nil))) (pa_cons (callD D_law_less (hr.mono (by decide)) (pa_cons (pv 5) (pa_cons (pv 4) pa_nil))) (pa_cons (callD D_law_less (hr.mono (by decide)) (pa_cons (pv 4) (pa_cons (pv 2) pa_nil))) pa_nil))) (by rfl))
      (pss_cons (ps_set (i := 9) sc_law_common.nd rfl (.inl rfl) (callD D_law_turn (hr.mono (by decide)) (pa_cons (pv 6) (pa_cons (pv 7) pa_nil))))
      (pss_cons (ps_if (pt_cmpR op_eq (pv 9) pe_int (nomark _)) (pss_cons (ps_if (pt_cmpR op_ne (callD D_law_turn (hr.mono (by decide)) (pa_cons (pv 8) (pa_cons (pv 6) pa_nil))) pe_int (nomark _)) (pss_one (ps_ret (lstN pa_nil))) pss_nil)
      (pss_cons (ps_set (i := 10) sc_law_common.nd rfl (.inr rfl) (pe_callB (cr_max2 rfl hr.room.units) (by rfl) T.max (by decide +kernel) (pa_cons (pe_callB (cr_min2 rfl hr.room.units) (by rfl) T.min (by decide +kernel) (pa_cons (pv 2) (pa_cons (pv 3) pa_nil))) (pa_cons (pe_callB (cr_min2 rfl hr.room.units) (by rfl) T.min (by decide +kernel) (pa_cons (pv 4) (pa_cons (pv 5) pa_nil))) pa_nil))))
      (pss_cons (ps_set (i := 11) sc_law_common.nd rfl (.inr rfl) (pe_callB (cr_min2 rfl hr.room.units) (by rfl) T.min (by decide +kernel) (pa_cons (pe_callB (cr_max2 rfl hr.room.units) (by rfl) T.max (by decide +kernel) (pa_cons (pv 2) (pa_cons (pv 3) pa_nil))) (pa_cons (pe_callB (cr_max2 rfl hr.room.units) (by rfl) T.max (by decide +kernel) (pa_cons (pv 4) (pa_cons (pv 5) pa_nil))) pa_nil))))
      (pss_one (ps_ret (pe_lc (own := [("_law_point", 12)]) (g := gName 12) (by rfl) sc_law_common.nd (pi_list (pe_slice sl_listN (lstN (pa_cons (pv 10) (pa_cons (pv 11) pa_nil))) (po_some (pe_callTy call_int1 (by rfl) T.int (by decide +kernel) (pa_cons (pe_cmpR (op_eqD hr.room.units) (pv 10) (pv 11) (nomark _)) pa_nil))) po_none)) (blkOk_by (own := [("_law_point", 12)]) (N := ["_law_one", "_law_other", "_law_a", "_law_b", "_law_c", "_law_e", "_law_way", "_law_there", "_law_far", "_law_whole", "_law_first", "_law_last", "_law_point", "_law_sign", "_law_share"]) (sc := defScope s_law_common) (by decide +kernel)) (fun _ _ _ _ _ => (pg_name (i := 12) sc_law_common.nd rfl (.inl rfl))) (fun _ _ _ _ _ => (pts_one (pt_cmpR (op_le2k (K := K) rfl hr.room.units) (pv 10) (pv 11) (nomark _)))) (fun _ _ _ _ _ => (pe_op (op_catTNk (K := K) rfl) (pv 12) (tupN (pa_cons pe_int pa_nil)))))))))) pss_nil)
      (pss_cons (ps_set (i := 13) sc_law_common.nd rfl (.inl rfl) (pe_ix ix_list (lstN (pa_cons (pe_un un_neg pe_int) (pa_cons pe_int pa_nil))) (pe_callTy call_int1 (by rfl) T.int (by decide +kernel) (pa_cons (pe_cmpR op_gt (pv 9) pe_int (nomark _)) pa_nil)) (fun _ _ => rfl)))
      (pss_cons (ps_set (i := 9) sc_law_common.nd rfl (.inl rfl) (pe_op op_mul (pv 9) (pv 13)))
      (pss_cons (ps_set (i := 14) sc_law_common.nd rfl (.inl rfl) (pe_op op_mul (callD D_law_turn (hr.mono (by decide)) (pa_cons (pv 8) (pa_cons (pv 7) pa_nil))) (pv 13)))
      (pss_cons (ps_if (PW.pt (pw_or (pt_not (pt_chain op_le op_le pe_int (pv 14) (pv 9))) (pw_or1 (pt_not (pt_chain op_le op_le pe_int (pe_op op_mul (callD D_law_turn (hr.mono (by decide)) (pa_cons (pv 8) (pa_cons (pv 6) pa_nil))) (pv 13)) (pv 9)))))) (pss_one (ps_ret (lstN pa_nil))) pss_nil)
      (pss_one (ps_ret (lstN (pa_cons (tupN (pa_cons (pe_op op_add (pe_op op_mul (pe_ix ix_tup (pv 2) pe_int (fun _ _ => rfl)) (pv 9)) (pe_op op_mul (pe_ix ix_tup (pv 6) pe_int (fun _ _ => rfl)) (pv 14))) (pa_cons (pe_op op_add (pe_op op_mul (pe_ix ix_tup (pv 2) pe_int (fun _ _ => rfl)) (pv 9)) (pe_op op_mul (pe_ix ix_tup (pv 6) pe_int (fun _ _ => rfl)) (pv 14))) (pa_cons (pv 9) pa_nil)))) pa_nil)))))))))))), ?_⟩
    have b1 := bd_less bl.2 bl.1
    have b2 := bd_less br.2 br.1
    have b3 := bd_less br.1 bl.1
    have t1 := trn_lt b1 b2
    have ba := bl.1
    obtain ⟨a, x, y, ea, hS, hx, hy⟩ := id hL
    obtain ⟨b, x', y', eb, hS', hx', hy'⟩ := id hR
    subst ea eb
    refine ⟨_, rfl, _, rfl, (by show 2 ≤ sizeLine; decide), fun p1 H1 n1 s1 g1 => ⟨p1, _, rfl, .inl (.inl g1), rfl, _, _, rfl, a, _, rfl, seT s1 hS, rfl, _, _, rfl, _, _, rfl, rfl, _, _, rfl, b, _, rfl, seT s1 hS', rfl, _, _, rfl, _, _, rfl, rfl, rfl, ?_⟩⟩
    refine ⟨_, rfl, _, rfl, y, x, l.2, l.1, rfl, hy.same s1, hx.same s1, fun w1 H2 s2 e2 => ⟨_, rfl, _, rfl, y', x', r.2, r.1, rfl, (hy'.same s1).same s2, (hx'.same s1).same s2, fun w2 H3 s3 e3 => ?_⟩⟩
    have s13 := (s1.trans s2).trans s3
    refine ⟨_, rfl, _, rfl, x', x, r.1, l.1, rfl, hx'.same s13, hx.same s13, fun w3 H4 s4 e4 => ⟨_, _, _, rfl, ?_⟩⟩
    have s14 := s13.trans s4
    have f1 := (e2.same s3).same s4
    have f2 := e3.same s4
    have x4 := hx.same s14
    have y4 := hy.same s14
    have x4' := hx'.same s14
    have y4' := hy'.same s14
    refine ⟨_, rfl, _, rfl, w1, w2, _, _, rfl, f1, f2, b1, ?_⟩
    refine ⟨_, rfl, rfl, _, rfl, ?_⟩
    unfold cmn at q
    by_cases h0 : trn (less l.2 l.1) (less r.2 r.1) = 0
    · rw [if_neg (fun z => z h0)] at q
      rw [h0]
      refine iteT ⟨_, rfl, _, rfl, w3, w1, _, _, rfl, e4, f1, b3, rfl, _, rfl, ?_⟩
      rw [trn_neg]
      by_cases h1 : trn (less l.2 l.1) (less r.1 l.1) = 0
      · rw [if_neg (fun z => z h1)] at q
        rw [h1]
        refine iteF ?_
        refine ⟨_, rfl, _, rfl, x, y, l.1, l.2, rfl, x4, y4, fun m1 _ em1 => ⟨_, rfl, _, rfl, x', y', r.1, r.2, rfl, x4', y4', fun m2 _ em2 => ⟨m1, m2, _, _, rfl, em1, em2, fun wl _ el => ?_⟩⟩⟩
        refine ⟨_, rfl, _, rfl, x, y, l.1, l.2, rfl, x4, y4, fun m3 _ em3 => ⟨_, rfl, _, rfl, x', y', r.1, r.2, rfl, x4', y4', fun m4 _ em4 => ⟨m3, m4, _, _, rfl, em3, em4, fun wh _ eh => ?_⟩⟩⟩
        have el : At2 K H4 wl (lo l r) := el
        have eh : At2 K H4 wh (hi l r) := eh
        clear em1 em2 em3 em4
        refine ⟨_, rfl, _, rfl, (by show 2 ≤ sizeLine; decide), fun p5 H5 n5 s5 g5 => ?_⟩
        have el5 := el.same s5
        have eh5 := eh.same s5
        refine ⟨_, rfl, _, rfl, _, _, el5.dp, eh5.dp, rfl, rfl, .inr ⟨_, rfl, _, rfl, p5, _, rfl, .inl (.inl g5), fun p6 H6 n6 s6 g6 => ?_⟩⟩
        obtain ⟨B, eB⟩ : ∃ B, B = PyData.eqv (pd (lo l r)) (pd (hi l r)) := ⟨_, rfl⟩
        rw [← eB] at g6
        have bE : B = decide (lo l r = hi l r) := by
          rw [eB]
          by_cases heq : lo l r = hi l r
          · rw [heq, SeqAt.eqv_refl _ rfl, decide_eq_true rfl]
          · rw [decide_eq_false heq]
            cases hz : PyData.eqv (pd (lo l r)) (pd (hi l r)) with
            | false => rfl
            | true =>
              exfalso
              apply heq
              simp [pd, PyData.eqv, PyData.eqvAll] at hz
              exact Prod.ext hz.1 hz.2
        clear eB
        obtain ⟨VS, PS, gV, aV, lV, eP⟩ : ∃ (VS : List V) (PS : List Pt), H6 p6 = some (.lst VS) ∧ AllAt (At2 K H6) VS PS ∧ PS.length ≤ 2 ∧ PS = (if lo l r = hi l r then [lo l r] else [lo l r, hi l r]) := by
          by_cases heq : lo l r = hi l r
          · rw [bE, decide_eq_true heq] at g6
            refine ⟨[wh], [hi l r], g6, .cons (eh5.same s6) .nil, by simp, by rw [if_pos heq, heq]⟩
          · rw [bE, decide_eq_false heq] at g6
            refine ⟨[wl, wh], [lo l r, hi l r], g6, .cons (el5.same s6) (.cons (eh5.same s6) .nil), by simp, by rw [if_neg heq]⟩
        clear g6
        have s46 := s5.trans s6
        have lVS := aV.length
        refine ⟨p6, rfl, ⟨_, .inl (.inl gV)⟩, fun pD nD => ?_⟩
        refine lcL (K := K) (a := p6) (xs := VS) (fun i H' => Same H6 H' ∧ ∃ ws, H' pD = some (.lst ws) ∧ AllAt (At3 K H') ws ((if llt (hi l r) (lo l r) = true then [] else PS.take i).map one3)) nD (fun H' e1 e2 => ⟨e1, [], e2, by cases llt (hi l r) (lo l r) <;> exact .nil⟩) (fun i H' _ z => .inl (.inl (by exact z.1 _ _ gV))) (fun i z H' hz w => ?_) (fun H7 z => ?_)
        · obtain ⟨t1, ws, t2, t3⟩ := w
          obtain ⟨pt, hpt, c, rfl, hc⟩ := aV.get hz
          refine ⟨rfl, _, rfl, _, rfl, _, _, (el5.same s6).same t1, (eh5.same s6).same t1, _, rfl, ?_⟩
          show if (!llt (hi l r) (lo l r)) = true then _ else _
          have e8 : (PS.take (i + 1)).map one3 = (PS.take i).map one3 ++ [one3 pt] := by rw [List.take_add_one, hpt, List.map_append]; rfl
          cases hlt : llt (hi l r) (lo l r) with
          | true =>
            rw [hlt] at t3
            exact iteF ⟨t1, ws, t2, t3⟩
          | false =>
            rw [hlt] at t3
            refine iteT ⟨_, rfl, (by show 1 ≤ sizeLine; decide), fun p11 H11 n11 s11 g11 => ⟨c, p11, _, _, rfl, rfl, seT (t1.trans s11) hc, .inl (.inl g11), by simp, by simp, (by show 3 ≤ sizeLine; decide), fun p12 H12 n12 s12 g12 => ?_⟩⟩
            have t3' : AllAt (At3 K H') ws ((PS.take i).map one3) := t3
            have := acc3 (K := K) (t := one3 pt) nD (t1.trans s11) (s11 _ _ t2) (t3'.map fun v s h => h.same s11) s12 n12 g12 (by rw [List.length_map, List.length_take]; omega)
            rw [← e8] at this
            exact this
        · obtain ⟨t1, ws, t2, t3⟩ := z
          have e9 : ((if llt (hi l r) (lo l r) = true then [] else PS.take VS.length).map one3) = alo l r := by
            rw [lVS, List.take_length, eP]
            unfold alo
            split
            · rfl
            · split <;> rfl
          rw [e9] at t3
          refine q pD ws _ H7 ((s14.trans s46).trans t1) t2 t3 (fun s hs => ?_) ?_ ?_
          · have : s.2.2 = 1 := by
              rw [← e9] at hs
              obtain ⟨p, _, rfl⟩ := List.mem_map.mp hs
              rfl
            rw [this]
            decide
          · rw [← e9, List.map_map]
            exact List.map_congr_left fun p _ => un3_one p
          · rw [← e9, List.length_map]
            split
            · exact Nat.zero_le _
            · rw [List.length_take]; omega
      · rw [if_pos h1] at q
        have e0 : (!decide (V.int (-trn (less l.2 l.1) (less r.1 l.1)) = V.int 0)) = true := by rw [decide_eq_false (fun z => h1 (by have := V.int.inj z; omega))]; rfl
        rw [e0]
        exact iteT ⟨Nat.zero_le _, fun p6 H6 n6 s6 g6 => q p6 [] [] _ (s14.trans s6) g6 .nil (fun _ z => nomatch z) rfl (Nat.zero_le _)⟩
    · rw [if_pos h0] at q
      have e0 : decide (V.int (trn (less l.2 l.1) (less r.2 r.1)) = V.int 0) = false := decide_eq_false (fun z => h0 (V.int.inj z))
      rw [e0]
      refine iteF ⟨1, rfl, (by show 2 ≤ sizeLine; decide), fun pm H5 n5 s5 g5 => ⟨_, rfl, _, _, rfl, rfl, .inr ⟨_, rfl, pm, _, _, .int (kfs l r), rfl, rfl, .inl (.inl g5), ?_, ?_⟩⟩⟩
      · by_cases hp : 0 < trn (less l.2 l.1) (less r.2 r.1)
        · have ek : kfs l r = 1 := if_neg (by omega)
          rw [decide_eq_true hp, ek]
          rfl
        · have ek : kfs l r = -1 := if_pos (by omega)
          rw [decide_eq_false hp, ek]
          rfl
      have kb : -(2 ^ 64) < kfs l r ∧ kfs l r < 2 ^ 64 := by unfold kfs; split <;> omega
      have s15 := s14.trans s5
      have hpos : 0 < trn (less l.2 l.1) (less r.2 r.1) * kfs l r := klm_pos l r h0
      have hb : (trn (less l.2 l.1) (less r.2 r.1) * kfs l r).natAbs < 2 ^ 200 := by
        unfold kfs
        split <;> omega
      have key : ∀ (M N L S : Int), M = trn (less l.2 l.1) (less r.2 r.1) → N = trn (less r.1 l.1) (less r.2 r.1) → L = trn (less r.1 l.1) (less l.2 l.1) → S = kfs l r →
          ((0 ≤ N * S ∧ N * S ≤ M * S) ∧ (0 ≤ L * S ∧ L * S ≤ M * S) → acr l r = [sp3 (M * S * l.1.1 + N * S * (l.2.1 - l.1.1)) (M * S * l.1.2 + N * S * (l.2.2 - l.1.2)) (M * S)]) ∧
          (¬ ((0 ≤ N * S ∧ N * S ≤ M * S) ∧ (0 ≤ L * S ∧ L * S ≤ M * S)) → acr l r = []) := by
        rintro _ _ _ _ rfl rfl rfl rfl
        exact ⟨fun z => if_pos z, fun z => if_neg z⟩
      clear e0 t1
      generalize hS : kfs l r = S at kb hpos hb ⊢
      generalize hM : trn (less l.2 l.1) (less r.2 r.1) = M at hpos hb h0 ⊢
      refine ⟨_, rfl, _, rfl, _, _, rfl, rfl, .inr (by omega), ?_⟩
      refine ⟨_, rfl, _, rfl, w3, w2, _, _, rfl, e4.same s5, f2.same s5, b3, ?_⟩
      generalize hN : trn (less r.1 l.1) (less r.2 r.1) = N
      refine ⟨_, rfl, _, _, rfl, rfl, .inr (by omega), ?_⟩
      have fin : ∀ {H6 : Hp}, H6 = H5 → acr l r = [] → (0 : Nat) ≤ sizeLine ∧ New H6 (.lst []) Q := fun {H6} e ea => ⟨Nat.zero_le _, fun p6 H7 n6 s6 g6 => q p6 [] [] _ (s15.trans (by rw [← e]; exact s6)) g6 .nil (fun _ z => nomatch z) (by rw [ea]; rfl) (Nat.zero_le _)⟩
      have key2 := fun L (hL : L = trn (less r.1 l.1) (less l.2 l.1)) => key M N L S hM.symm hN.symm hL hS.symm
      clear key
      by_cases c1 : 0 ≤ N * S ∧ N * S ≤ M * S
      · refine ⟨_, rfl, _, _, rfl, rfl, _, rfl, ?_⟩
        rw [decide_eq_true c1.1]
        refine iteT ⟨_, rfl, _, _, rfl, rfl, _, rfl, ?_⟩
        rw [decide_eq_true c1.2]
        refine iteF ⟨_, rfl, _, rfl, w3, w1, _, _, rfl, e4.same s5, f1.same s5, b3, ?_⟩
        have key3 := key2 _ rfl
        revert key3
        generalize trn (less r.1 l.1) (less l.2 l.1) = L
        intro key3
        refine ⟨_, rfl, _, _, rfl, rfl, .inr (by omega), _, _, rfl, rfl, _, rfl, ?_⟩
        by_cases c2 : 0 ≤ L * S ∧ L * S ≤ M * S
        · have ea := key3.1 ⟨c1, c2⟩
          rw [ea] at q
          clear fin key3 key2
          rw [decide_eq_true c2.1]
          refine iteT ⟨_, rfl, _, _, rfl, rfl, _, rfl, ?_⟩
          rw [decide_eq_true c2.2]
          refine iteF ?_
          obtain ⟨c, ec, hc⟩ := (hx.same s15)
          obtain ⟨w, ew, hw⟩ := (f1.same s5)
          subst ec ew
          clear c1 c2 hN hM hS kb h0
          unfold BdP at b1
          unfold BdC at ba
          have m1 : CMul l.1.1 (M * S) := .inl (by omega)
          have m2 : CMul l.1.2 (M * S) := .inl (by omega)
          have m3 : CMul (less l.2 l.1).1 (N * S) := .inl (by omega)
          have m4 : CMul (less l.2 l.1).2 (N * S) := .inl (by omega)
          refine ⟨_, rfl, c, _, 0, _, rfl, rfl, hc, rfl, ?_⟩
          refine ⟨_, rfl, _, _, rfl, rfl, m1, ?_⟩
          refine ⟨_, rfl, w, _, 0, _, rfl, rfl, hw, rfl, ?_⟩
          refine ⟨_, rfl, _, _, rfl, rfl, m3, ?_⟩
          refine ⟨_, _, rfl, rfl, ?_⟩
          refine ⟨_, rfl, c, _, 1, _, rfl, rfl, hc, rfl, ?_⟩
          refine ⟨_, rfl, _, _, rfl, rfl, m2, ?_⟩
          refine ⟨_, rfl, w, _, 1, _, rfl, rfl, hw, rfl, ?_⟩
          refine ⟨_, rfl, _, _, rfl, rfl, m4, ?_⟩
          refine ⟨_, _, rfl, rfl, ?_⟩
          have e7 : sp3 (l.1.1 * (M * S) + (l.2.1 - l.1.1) * (N * S)) (l.1.2 * (M * S) + (l.2.2 - l.1.2) * (N * S)) (M * S) = sp3 (M * S * l.1.1 + N * S * (l.2.1 - l.1.1)) (M * S * l.1.2 + N * S * (l.2.2 - l.1.2)) (M * S) := by
            rw [Int.mul_comm l.1.1, Int.mul_comm l.1.2, Int.mul_comm _ (N * S), Int.mul_comm _ (N * S)]
          refine ⟨_, rfl, (by show 3 ≤ sizeLine; decide), fun p6 H6 n6 s6 g6 => ⟨(by show 1 ≤ sizeLine; decide), fun p7 H7 n7 s7 g7 => ?_⟩⟩
          refine q p7 _ [(l.1.1 * (M * S) + (l.2.1 - l.1.1) * (N * S), l.1.2 * (M * S) + (l.2.2 - l.1.2) * (N * S), M * S)] _ ((s15.trans s6).trans s7) g7 (.cons ⟨p6, rfl, .inl (.inl (s7 _ _ g6))⟩ .nil) (fun s hs => ?_) ?_ (by show 1 ≤ 2; decide)
          · rw [List.mem_singleton.mp hs]
            exact ⟨hpos, hb⟩
          · rw [← e7]
            rfl
        · have ea := key3.2 (fun z => c2 z.2)
          refine ite2 (fun e => ⟨_, rfl, _, _, rfl, rfl, _, rfl, ?_⟩) (fun e => ⟨_, rfl, iteT (fin rfl ea)⟩)
          rw [decide_eq_false (fun z => c2 ⟨of_decide_eq_true e, z⟩)]
          exact iteT (fin rfl ea)
      · have ea := (key2 _ rfl).2 (fun z => c1 z.1)
        refine ⟨_, rfl, _, _, rfl, rfl, _, rfl, ite2 (fun e => ⟨_, rfl, _, _, rfl, rfl, _, rfl, ?_⟩) (fun e => ⟨_, rfl, iteT (iteT (fin rfl ea))⟩)⟩
        rw [decide_eq_false (fun z => c1 ⟨of_decide_eq_true e, z⟩)]
        exact iteT (iteT (fin rfl ea))

end
end Cl

set_option maxHeartbeats 0
namespace Cl
open PySem PySem.Spec PyProof.Rows L2
open GxR (TabB TabG)

theorem sp3_eq {a b m c d n : Int} (hm : 0 < m) (hn : 0 < n) : sp3 a b m = sp3 c d n ↔ a * n - c * m = 0 ∧ b * n - d * m = 0 := by
  have key : ∀ {a b m c d n : Int}, 0 < m → 0 < n → sp3 a b m = sp3 c d n → a * n - c * m = 0 ∧ b * n - d * m = 0 := by
    intro a b m c d n hm hn h
    obtain ⟨p, hp, e1, e2, e3, e4, _⟩ := spot_pos (n := a) (m := b) hm
    obtain ⟨p', hp', f1, f2, f3, f4, _⟩ := spot_pos (n := c) (m := d) hn
    unfold sp3 at h
    obtain ⟨g1, g23⟩ := Prod.mk.inj h
    obtain ⟨g2, g3⟩ := Prod.mk.inj g23
    rw [← g1] at f1
    rw [← g2] at f2
    rw [← g3] at f3
    generalize a / spP a b m = x at *
    generalize b / spP a b m = y at *
    generalize m / spP a b m = z at *
    subst e1 e2 e3 f1 f2 f3
    constructor <;> grind
  constructor
  · exact key hm hn
  · rintro ⟨h1, h2⟩
    have e1 : a * n = c * m := by omega
    have e2 : b * n = d * m := by omega
    have := sp3_scale (n := a) (m := b) (d := m) (t := n) hn hm
    rw [e1, e2, Int.mul_comm m n] at this
    rw [← this, sp3_scale hm hn]
theorem eqv_pd (p q : Pt) : PyData.eqv (pd p) (pd q) = decide (p = q) := by
  obtain ⟨a, b⟩ := p
  obtain ⟨c, d⟩ := q
  rw [Bool.eq_iff_iff]
  simp [pd, PyData.eqv, PyData.eqvAll]
theorem dps_pts {K : PySem.W.Frag} {H : Hp} : ∀ {ws : List V} {ps : List Pt}, AllAt (At2 K H) ws ps → DpAll K H ws (ps.map pd)
  | _, _, .nil => .nil
  | _, _, .cons h t => .cons h.dp (dps_pts t)
theorem lay_pts : ∀ ps : List Pt, PyData.canLayAll0 (ps.map pd) = true
  | [] => rfl
  | p :: r => by
    show (PyData.canLay0 (pd p) && PyData.canLayAll0 (r.map pd)) = true
    rw [lay_pts r, show PyData.canLay0 (pd p) = true from rfl]
    rfl
theorem any_pts (p : Pt) : ∀ ps : List Pt, ((ps.map pd).any fun z => PyData.eqv z (pd p)) = decide (p ∈ ps)
  | [] => rfl
  | q :: r => by
    rw [List.map_cons, List.any_cons, any_pts p r, eqv_pd q p]
    by_cases e : q = p
    · simp [e]
    · have e' : ¬ p = q := fun z => e z.symm
      simp [e, e']
theorem lay {u m : Nat} {p : Pt} (hu : u + 64 < cLine) : u + 1 + min m (pd p).depth < cLine := by
  have h : (pd p).depth = 1 := rfl
  have := Nat.min_le_right m (pd p).depth
  omega
def rInP (K : PySem.W.Frag) : R2 := fun x y H Q => ∃ p ps a vs, At2 K H x p ∧ y = .ref a ∧ (SqL K H a vs ∨ SqT K H a vs) ∧ AllAt (At2 K H) vs ps ∧ Q (.bl (decide (p ∈ ps))) H
theorem op_inP {X : Cx} (hu : X.A.units + 64 < cLine) : OpR X (compareOp .In) (rInP X.K) := by
  intro pins s σ H x y v u Q I rx ry h
  obtain ⟨p, ps, a, vs, hp, rfl, hS, hall, q⟩ := h
  obtain ⟨as, r1⟩ := Dp.reads I (pd p) x v hp.dp rx
  rcases hS with hS | hS
  · obtain ⟨bs, r2⟩ := Dp.reads I (.list (ps.map pd)) _ u (.lst hS (dps_pts hall)) ry
    exact SeqAt.in_list_reads r2 r1 (lay_pts ps) rfl (lay hu) ⟨.bl _, H, I, rfl, by rw [any_pts]; exact q⟩
  · obtain ⟨bs, r2⟩ := Dp.reads I (.tuple (ps.map pd)) _ u (.tup hS (dps_pts hall)) ry
    exact SeqAt.in_tuple_reads r2 r1 (lay_pts ps) rfl (lay hu) ⟨.bl _, H, I, rfl, by rw [any_pts]; exact q⟩


theorem op_inPk {X : Cx} {K : PySem.W.Frag} (hK : X.K = K) (hu : X.A.units + 64 < cLine) : OpR X (compareOp .In) (rInP K) := hK ▸ op_inP hu
def isOn (c : Pt) (l : Ln) : Bool := decide (trn (less l.1 c) (less l.2 c) = 0) && decide ((less l.1 c).1 * (less l.2 c).1 + (less l.1 c).2 * (less l.2 c).2 < 0)
def endX (l r : Ln) (s : S3) : Bool := [l.1, l.2].any fun e => decide (e ∈ [r.1, r.2]) && decide (one3 e = s)
/-- whether two links have more in common than a corner at which both end -/
def dcB (l r : Ln) : Bool := match cmn l r with
  | [] => false
  | [s] => !endX l r s
  | _ => true
def E1 (r : Ln) (u : S3) (e : Pt) : Bool := decide (e ∈ [r.1, r.2]) && decide (one3 e = un3 u)
theorem none_endX (l r : Ln) (u : S3) : ([l.1, l.2].filter (E1 r u)).isEmpty = !endX l r (un3 u) := by
  show ([l.1, l.2].filter (E1 r u)).isEmpty = !([l.1, l.2].any (E1 r u))
  rw [List.any_cons, List.any_cons, List.any_nil]
  cases h1 : E1 r u l.1 <;> cases h2 : E1 r u l.2 <;> simp [List.filter, h1, h2]
theorem eqv_nil_pts (es : List Pt) : PyData.eqv (.list (es.map pd)) (.list []) = es.isEmpty := by
  cases es <;> rfl
theorem shaped_pts (es : List Pt) : SeqAt.shaped (.list (es.map pd)) = true := by
  have h2 : ∀ ls : List Pt, PyData.depthAll (ls.map pd) ≤ 1 := by
    intro ls
    induction ls with
    | nil => decide
    | cons n r ih =>
      simp only [List.map_cons, PyData.depthAll]
      have : (pd n).depth = 1 := by simp [pd, PyData.depth, PyData.depthAll]
      omega
  have h3 := h2 es
  simp [SeqAt.shaped, PyData.canLay0, PyData.depth, lay_pts]
  omega
def spIsOn (K : PySem.W.Frag) : Sp := fun vs H Q _ => ∃ u v c l, vs = [u, v] ∧ At2 K H u c ∧ AtL K H v l ∧ BdC c ∧ BdL l ∧ ∀ H', Same H H' → Q (.bl (isOn c l)) H'
theorem end_eq {e : Pt} {u : S3} (d0 : 0 < u.2.2) : decide (one3 e = un3 u) = decide ((e.1 * u.2.2, e.2 * u.2.2) = (u.1, u.2.1)) := by
  rw [decide_eq_decide, ← un3_one e]
  unfold un3
  rw [sp3_eq (show (0 : Int) < (one3 e).2.2 from Int.zero_lt_one) d0]
  show e.1 * u.2.2 - u.1 * 1 = 0 ∧ e.2 * u.2.2 - u.2.1 * 1 = 0 ↔ _
  rw [Int.mul_one, Int.mul_one]
  constructor
  · rintro ⟨h1, h2⟩
    exact Prod.ext (by show e.1 * u.2.2 = u.1; omega) (by show e.2 * u.2.2 = u.2.1; omega)
  · intro h
    have h1 : e.1 * u.2.2 = u.1 := congrArg Prod.fst h
    have h2 : e.2 * u.2.2 = u.2.1 := congrArg Prod.snd h
    exact ⟨by omega, by omega⟩

section
variable {P : Program} {w : World} {K : PySem.W.Frag} {mg : Str → Option Value} {base : Heap}

theorem ok_law_is_on {f : Addr} {fd : FuncData} (F : Fun K "_law_is_on" "_law_is_on" s_law_is_on f fd) (T : Bt mg) (D_law_less : Def P w K mg base 1 "_law_less" ["_law_one", "_law_other"] (spLess K)) (D_law_turn : Def P w K mg base 1 "_law_turn" ["_law_one", "_law_other"] (spTurn K)) :
    FnG P w K mg base CX0 2 f fd ["_law_corner", "_law_link"] (spIsOn K) := by
  refine okG (k := 1) F sc_law_is_on (fun vs H Q E h => ?_) (fun cdv A outer s H vs Q E hr h => ?_)
  · obtain ⟨u, v, c, l, rfl, _⟩ := h
    rfl
  · obtain ⟨u, v, c, l, rfl, hc, hL, bc, bl, q⟩ := h
    refine ⟨_, (pss_cons (ps_par (i := 2) (j := 3) (by rfl) sc_law_is_on.nd rfl rfl (by decide) rfl rfl (pa_cons (callD D_law_less (hr.mono (by decide)) (pa_cons (pe_ix ix_tup (pv 1) pe_int (fun _ _ => rfl)) (pa_cons (pv 0) pa_nil))) (pa_cons (callD D_law_less (hr.mono (by decide)) (pa_cons (pe_ix ix_tup (pv 1) pe_int (fun _ _ => rfl)) (pa_cons (pv 0) pa_nil))) pa_nil)) (by rfl))
      (pss_one (ps_ret (pe_and (pe_cmpR op_eq (callD D_law_turn (hr.mono (by decide)) (pa_cons (pv 2) (pa_cons (pv 3) pa_nil))) pe_int (nomark _)) (pe_one (pe_cmpR op_lt (pe_op op_add (pe_op op_mul (pe_ix ix_tup (pv 2) pe_int (fun _ _ => rfl)) (pe_ix ix_tup (pv 3) pe_int (fun _ _ => rfl))) (pe_op op_mul (pe_ix ix_tup (pv 2) pe_int (fun _ _ => rfl)) (pe_ix ix_tup (pv 3) pe_int (fun _ _ => rfl)))) pe_int (nomark _))))))), ?_⟩
    obtain ⟨a, x, y, rfl, hS, hx, hy⟩ := id hL
    have b1 := bd_less bl.1 bc
    refine ⟨_, rfl, a, _, 0, x, rfl, rfl, hS, rfl, _, rfl, x, u, l.1, c, rfl, hx, hc, fun w1 H1 s1 e1 => ?_⟩
    refine ⟨_, rfl, a, _, 1, y, rfl, rfl, seT s1 hS, rfl, _, rfl, y, u, l.2, c, rfl, hy.same s1, hc.same s1, fun w2 H2 s2 e2 => ⟨_, _, rfl, ?_⟩⟩
    have s12 := s1.trans s2
    have f1 := e1.same s2
    refine ⟨_, rfl, _, rfl, w1, w2, _, _, rfl, f1, e2, b1, rfl, _, rfl, ?_⟩
    obtain ⟨⟨x1, x2⟩, x3, x4⟩ := bl.1
    obtain ⟨⟨z1, z2⟩, z3, z4⟩ := bc
    unfold isOn at q
    by_cases h0 : trn (less l.1 c) (less l.2 c) = 0
    · have e0 : decide (V.int (trn (less l.1 c) (less l.2 c)) = V.int 0) = true := decide_eq_true (by rw [h0])
      rw [e0]
      rw [decide_eq_true h0, Bool.true_and] at q
      obtain ⟨p1, rfl, h1⟩ := f1
      obtain ⟨p2, rfl, h2⟩ := e2
      have cw : ∀ z : Int, CMul (less l.1 c).1 z := fun z => .inl (by show -(2 ^ 64) < l.1.1 - c.1 ∧ l.1.1 - c.1 < 2 ^ 64; omega)
      have cw2 : ∀ z : Int, CMul (less l.1 c).2 z := fun z => .inl (by show -(2 ^ 64) < l.1.2 - c.2 ∧ l.1.2 - c.2 < 2 ^ 64; omega)
      exact iteT ⟨_, rfl, p1, _, 0, _, rfl, rfl, h1, rfl, _, rfl, p2, _, 0, _, rfl, rfl, h2, rfl, _, _, rfl, rfl, cw _, _, rfl, p1, _, 1, _, rfl, rfl, h1, rfl, _, rfl, p2, _, 1, _, rfl, rfl, h2, rfl, _, _, rfl, rfl, cw2 _, _, _, rfl, rfl, _, _, rfl, rfl, q H2 s12⟩
    · have e0 : decide (V.int (trn (less l.1 c) (less l.2 c)) = V.int 0) = false := decide_eq_false (fun z => h0 (V.int.inj z))
      rw [e0]
      rw [decide_eq_false h0, Bool.false_and] at q
      exact iteF (q H2 s12)

theorem ok_law_do_cross {f : Addr} {fd : FuncData} (F : Fun K "_law_do_cross" "_law_do_cross" s_law_do_cross f fd) (T : Bt mg) (D_law_common : Def P w K mg base 2 "_law_common" ["_law_one", "_law_other"] (spCmn6 K)) :
    FnG P w K mg base CX0 3 f fd ["_law_link", "_law_other"] (spPart K dcB) := by
  refine okG (k := 2) F sc_law_do_cross (fun vs H Q E h => ?_) (fun cdv A outer s H vs Q E hr h => ?_)
  · obtain ⟨u, v, l, r, rfl, _⟩ := h
    rfl
  · obtain ⟨u, v, l, r, rfl, hL, hR, bl, br, q⟩ := h
    refine ⟨_, (pss_cons (ps_set (i := 2) sc_law_do_cross.nd rfl (.inl rfl) (callD D_law_common (hr.mono (by decide)) (pa_cons (pv 0) (pa_cons (pv 1) pa_nil))))
      (pss_cons (ps_if (pt_cmpR op_eq (pe_callB call_len_seq (by rfl) T.len (by decide +kernel) (pa_cons (pv 2) pa_nil)) pe_int (nomark _)) (pss_cons (ps_asg (pe_ix ix_list (pv 2) pe_int (fun _ _ => rfl)) (pg_tup (by rfl) (pgs_cons (pg_name (i := 3) sc_law_do_cross.nd rfl (.inr rfl)) (pgs_cons (pg_name (i := 4) sc_law_do_cross.nd rfl (.inr rfl)) (pgs_cons (pg_name (i := 5) sc_law_do_cross.nd rfl (.inr rfl)) pgs_nil)))))
      (pss_one (ps_ret (pe_cmpR (op_eqD hr.room.units) (pe_lc (own := [("_law_end", 6)]) (g := gName 6) (by rfl) sc_law_do_cross.nd (pi_tup (pv 0)) (blkOk_by (own := [("_law_end", 6)]) (N := ["_law_link", "_law_other", "_law_some", "_law_n", "_law_m", "_law_d", "_law_end"]) (sc := defScope s_law_do_cross) (by decide +kernel)) (fun _ _ _ _ _ => (pg_name (i := 6) sc_law_do_cross.nd rfl (.inl rfl))) (fun _ _ _ _ _ => (pts_one (PW.pt (pw_and (pt_cmpR (op_inPk (K := K) rfl hr.room.units) (pv 6) (pv 1) (by rfl)) (pw_and1 (pt_cmpR (op_eqDk (K := K) rfl hr.room.units) (tupN (pa_cons (pe_op op_mul (pe_ix (ix_tupk (K := K) rfl) (pv 6) pe_int (fun _ _ => rfl)) (pv 5)) (pa_cons (pe_op op_mul (pe_ix (ix_tupk (K := K) rfl) (pv 6) pe_int (fun _ _ => rfl)) (pv 5)) pa_nil))) (tupN (pa_cons (pv 3) (pa_cons (pv 4) pa_nil))) (nomark _))))))) (fun _ _ _ _ _ => (pv 6))) (lstN pa_nil) (nomark _))))) pss_nil)
      (pss_one (ps_ret (pe_cmpR (op_neD hr.room.units) (pv 2) (lstN pa_nil) (nomark _)))))), ?_⟩
    obtain ⟨a, x, y, rfl, hS, hx, hy⟩ := id hL
    obtain ⟨b, x', y', rfl, hS', hx', hy'⟩ := id hR
    refine ⟨_, rfl, _, rfl, .ref a, .ref b, l, r, rfl, hL, hR, bl, br, fun c ws ss H1 s1 g1 hws pos ecm lss => ?_⟩
    have lws := hws.length
    have q' : ∀ H', Same H1 H' → Q (.bl (dcB l r)) H' := fun H' s => q H' (s1.trans s)
    refine ⟨_, rfl, c, ws, rfl, .inl (.inl (.inl g1)), rfl, _, rfl, ?_⟩
    unfold dcB at q'
    match ss, ws, hws, lss, ecm, pos, g1 with
    | [], [], _, _, ecm, _, g1 =>
      have ecm : [] = cmn l r := ecm
      rw [← ecm] at q'
      refine iteF ⟨_, rfl, Nat.zero_le _, fun p6 H6 n6 s6 g6 => ⟨.list [], .list [], .lst (.inl (.inl (s6 _ _ g1))) .nil, .lst (.inl (.inl g6)) .nil, rfl, rfl, q' H6 s6⟩⟩
    | [u], [w], hws, _, ecm, pos, g1 =>
      have ecm : [un3 u] = cmn l r := ecm
      rw [← ecm] at q'
      obtain ⟨d0, b0⟩ := pos u (by simp)
      cases hws with
      | cons hw _ =>
      obtain ⟨cw, rfl, hw⟩ := hw
      have q2 : ∀ H', Same H1 H' → Q (.bl (!endX l r (un3 u))) H' := q'
      refine iteT ⟨_, rfl, c, _, 0, _, rfl, rfl, .inl (.inl g1), rfl, cw, _, rfl, hw, rfl, _, _, rfl, _, _, rfl, _, _, rfl, rfl, ?_⟩
      have hS1 := seT s1 hS
      have hS1' := seT s1 hS'
      have hall : AllAt (At2 K H1) [x, y] [l.1, l.2] := .cons (hx.same s1) (.cons (hy.same s1) .nil)
      have hall' : AllAt (At2 K H1) [x', y'] [r.1, r.2] := .cons (hx'.same s1) (.cons (hy'.same s1) .nil)
      have bds : ∀ e ∈ [l.1, l.2], BdC e := fun e he => by
        simp only [List.mem_cons, List.not_mem_nil, or_false] at he
        rcases he with rfl | rfl
        · exact bl.1
        · exact bl.2
      refine ⟨_, rfl, a, rfl, ⟨_, hS1⟩, fun pD nD => ?_⟩
      refine lcT (K := K) (a := a) (xs := [x, y]) (fun i H' => Same H1 H' ∧ ∃ vs, H' pD = some (.lst vs) ∧ AllAt (At2 K H') vs (([l.1, l.2].take i).filter (E1 r u))) nD (fun H' e1 e2 => ⟨e1, [], e2, .nil⟩) (fun i H' _ z => seT z.1 hS1) (fun i z H' hz w => ?_) (fun H2 z => ?_)
      · obtain ⟨t1, vs, t2, t3⟩ := w
        obtain ⟨e, he, hez⟩ := hall.get hz
        have hi : i < 2 := (List.getElem?_eq_some_iff.mp he).1
        have be := bds e (List.mem_of_getElem? he)
        obtain ⟨⟨e1, e2⟩, e3, e4⟩ := be
        have hez1 := hez.same t1
        have et : [l.1, l.2].take (i + 1) = [l.1, l.2].take i ++ [e] := by rw [List.take_succ, he]; rfl
        have lv : vs.length ≤ 2 := by
          rw [t3.length]
          refine Nat.le_trans (List.length_filter_le ..) ?_
          rw [List.length_take]
          exact Nat.min_le_right ..
        have keepN : E1 r u e = false → ∀ {H3 : Hp}, Same H' H3 → Same H1 H3 ∧ ∃ vs, H3 pD = some (.lst vs) ∧ AllAt (At2 K H3) vs (([l.1, l.2].take (i + 1)).filter (E1 r u)) := fun ef {H3} s3 => by
          refine ⟨t1.trans s3, vs, s3 _ _ t2, ?_⟩
          rw [et, List.filter_append, List.filter_cons_of_neg (by rw [ef]; exact Bool.false_ne_true), List.filter_nil, List.append_nil]
          exact t3.map fun _ _ w => w.same s3
        refine ⟨rfl, z, rfl, _, rfl, e, [r.1, r.2], b, [x', y'], hez1, rfl, .inr (seT t1 hS1'), hall'.map fun _ _ w => w.same t1, _, rfl, ?_⟩
        show if decide (e ∈ [r.1, r.2]) = true then _ else _
        cases hm : decide (e ∈ [r.1, r.2]) with
        | false =>
          refine iteF (iteF (keepN ?_ (.refl _)))
          unfold E1
          rw [hm]
          rfl
        | true =>
          obtain ⟨ce, rfl, hce⟩ := id hez1
          refine iteT ⟨_, rfl, ce, _, 0, _, rfl, rfl, hce, rfl, _, rfl, _, _, rfl, rfl, .inl (by omega), _, rfl, ce, _, 1, _, rfl, rfl, hce, rfl, _, rfl, _, _, rfl, rfl, .inl (by omega), (by show 2 ≤ sizeLine; decide), fun p6 H6 n6 s6 g6 => ⟨_, rfl, _, rfl, (by show 2 ≤ sizeLine; decide), fun p7 H7 n7 s7 g7 => ?_⟩⟩
          have s67 := s6.trans s7
          refine ⟨pd (e.1 * u.2.2, e.2 * u.2.2), pd (u.1, u.2.1), At2.dp ⟨p6, rfl, .inl (.inl (s7 _ _ g6))⟩, At2.dp ⟨p7, rfl, .inl (.inl g7)⟩, rfl, rfl, _, rfl, ?_⟩
          have ee : PyData.eqv (pd (e.1 * u.2.2, e.2 * u.2.2)) (pd (u.1, u.2.1)) = E1 r u e := by
            rw [eqv_pd, ← end_eq d0]
            unfold E1
            rw [hm, Bool.true_and]
          rw [ee]
          cases hE : E1 r u e with
          | false => exact iteF (keepN hE s67)
          | true =>
            have k7 := s67 _ _ t2
            refine iteT ⟨_, rfl, vs, k7, small1000 (by omega), fun b o z => ?_, vs ++ [.ref ce], upd_same, ?_⟩
            · rw [upd_ne (ne_of_none z nD)]; exact (t1.trans s67) _ _ z
            · rw [et, List.filter_append, List.filter_cons_of_pos hE, List.filter_nil]
              exact (t3.map fun _ _ w => (w.same s67).upd k7).app (.cons ((hez1.same s67).upd k7) .nil)
      · obtain ⟨t1, vs, t2, t3⟩ := z
        refine ⟨Nat.zero_le _, fun p6 H6 n6 s6 g6 => ?_⟩
        refine ⟨.list (([l.1, l.2].filter (E1 r u)).map pd), .list [], .lst (.inl (.inl (s6 _ _ t2))) (dps_pts (t3.map fun _ _ w => w.same s6)), .lst (.inl (.inl g6)) .nil, shaped_pts _, rfl, ?_⟩
        rw [eqv_nil_pts, none_endX]
        exact q2 H6 (t1.trans s6)
    | [u1, u2], [w1, w2], hws, _, ecm, _, g1 =>
      have ecm : [un3 u1, un3 u2] = cmn l r := ecm
      rw [← ecm] at q'
      cases hws with
      | cons hw1 h2 => cases h2 with
      | cons hw2 _ =>
      obtain ⟨c1, rfl, hw1⟩ := hw1
      obtain ⟨c2, rfl, hw2⟩ := hw2
      refine iteF ⟨_, rfl, Nat.zero_le _, fun p6 H6 n6 s6 g6 => ⟨.list [d3 u1, d3 u2], .list [], .lst (.inl (.inl (s6 _ _ g1))) (.cons (.tup (seT s6 hw1) (.cons (.int _) (.cons (.int _) (.cons (.int _) .nil)))) (.cons (.tup (seT s6 hw2) (.cons (.int _) (.cons (.int _) (.cons (.int _) .nil)))) .nil)), .lst (.inl (.inl g6)) .nil, rfl, rfl, q' H6 s6⟩⟩
    | _ :: _ :: _ :: _, _, _, lss, _, _, _ => simp at lss

end
end Cl

set_option maxHeartbeats 0
/-! sum(list of lists, []): the lists put together -/
namespace Cl
open PySem PySem.Spec PyProof.Rows L2
theorem args_sum2 (a b : Value) : argsOk "sum" ⟨[a, b], []⟩ := by unfold argsOk; kernel_rfl
theorem concat_lists {prog : Program} {w : World} {A : Around} {E : Value → Shared → Prop} {s : Shared} {l b : Addr} {its its2 : Array Value} {Q : Value → Shared → Prop}
    (hl : s.heap.IsList l its) (hb : s.heap.IsList b its2) (hsz : its.size + its2.size ≤ sizeLine)
    (h : Q (.ref s.heap.objs.size) { s with heap := s.heap.push { cls := .type "list", data := .seq (its ++ its2) } }) : wpAny (model prog w) A (binaryOp .Add (.ref l) (.ref b)) Q E s := by
  obtain ⟨⟨cls, dd, data, sl⟩, ho, hc, n, hd⟩ := id hl
  obtain ⟨⟨cls2, dd2, data2, sl2⟩, ho2, hc2, n2, hd2⟩ := id hb
  simp only at hc hd hc2 hd2
  subst hc hd hc2 hd2
  exact concat_meets ⟨_, ho, rfl⟩ ⟨_, ho2, rfl⟩ noFill_list_add seq_list_add PySem.F.slot_list_add PySem.F.entry_list_add (PySem.F.args_list_add_2 _ _) (list_addW l b its its2 n n2 dd dd2 sl sl2 hsz) ⟨ho, ho2, h⟩

/-- where the loop stands: the total so far at T -/
structure SumL (s0 : Shared) (b0 I ax S T : Addr) (acc : List Value) (i : Nat) (s : Shared) : Prop where
  old : ∀ b o, s0.heap.get? b = some o → s.heap.get? b = some o
  it : s.heap.IsListIter I ax i
  st : ∃ c, s.heap.get? S = some { cls := .type "list", dict := none, data := .seq #[.ref T] c, slots := #[] }
  tot : s.heap.IsList T acc.toArray
  wh : (T = b0 ∧ acc = []) ∨ (S < T ∧ ∃ c, s.heap.get? T = some { cls := .type "list", data := .seq acc.toArray c })
  gens : s.gens = s0.gens
  drawn : s.drawn = s0.drawn
  os : s.os = s0.os

section
variable {prog : Program} {w : World} {A : Around} {R : Result → Shared → Prop} {s0 : Shared} {b0 I ax S : Addr}
theorem sum_loopL (hh : A.handled = none) {as : List Addr} {val : List (List Value)} (hax : s0.heap.IsList ax (as.map Value.ref).toArray) (hb0 : s0.heap.IsList b0 #[])
    (hv : ∀ (i : Nat) (a : Addr), as[i]? = some a → ∃ l, val[i]? = some l ∧ s0.heap.IsList a l.toArray) (hlen : as.length = val.length) (hz : val.flatten.length ≤ sizeLine)
    (nI : s0.heap.get? I = none) (nS : s0.heap.get? S = none) (neSI : I < S) (le0 : s0.heap.objs.size ≤ S)
    (hR : ∀ s' T, (∀ b o, s0.heap.get? b = some o → s'.heap.get? b = some o) → s'.gens = s0.gens → s'.drawn = s0.drawn → s'.os = s0.os → ((T = b0 ∧ val.flatten = []) ∨ (S < T ∧ ∃ c, s'.heap.get? T = some { cls := .type "list", data := .seq val.flatten.toArray c })) → R (.ok (.ret (.ref T))) s') :
    ∀ (k i : Nat) (s : Shared) (T : Addr) (r : Int), as.length - i = k → i ≤ as.length → SumL s0 b0 I ax S T (val.take i).flatten i s → codeAny (model prog w) A (.builtin "sum.loop" ⟨[.ref I, .ref S, rawInt 2, rawInt 0], []⟩) R s := by
  have neSI' : S ≠ I := Nat.ne_of_gt neSI
  have axI : ax ≠ I := by
    rintro rfl
    obtain ⟨o, e, _⟩ := hax
    rw [nI] at e; cases e
  have b0I : b0 ≠ I := by
    rintro rfl
    obtain ⟨o, e, _⟩ := hb0
    rw [nI] at e; cases e
  have b0S : b0 ≠ S := by
    rintro rfl
    obtain ⟨o, e, _⟩ := hb0
    rw [nS] at e; cases e
  have W := Walks.list (prog := prog) (w := w) (A := A.in1) hh I ax axI (as.map Value.ref).toArray
  have wsz : (as.map Value.ref).toArray.size = as.length := by simp
  intro k
  induction k with
  | zero =>
    intro i s T r hk hi Z
    have hin : i = as.length := by omega
    subst hin
    obtain ⟨c, hS⟩ := Z.st
    refine codeAny_builtin F.entry_sum_loop ?_
    rw [Around.under_plainId F.plain_sum_loop _]
    show wpAny _ A.in1 (seqItems? (.ref S) >>= _) _ _ s
    refine wpAny_bind (wpAny_seqItems hS rfl ?_)
    show wpAny _ A.in1 (tryCatch (pyNext (.ref I)) _ >>= _) _ _ s
    refine wpAny_bind (wpAny_tryCatch (W.done s _ _ ⟨by rw [wsz]; exact Z.it, hax.at fun o e => Z.old _ _ e⟩ fun h' tk kp => ?_))
    refine wpAny_pure ?_
    have eT : (val.take as.length).flatten = val.flatten := by rw [hlen, List.take_length]
    have w0 := Z.wh
    rw [eT] at w0
    refine hR _ T (fun b o e => kp b o (fun z => ?_) (Z.old b o e)) Z.gens Z.drawn Z.os ?_
    · rw [List.mem_singleton.mp z, nI] at e; cases e
    · rcases w0 with w0 | ⟨h1, c, h2⟩
      · exact .inl w0
      · refine .inr ⟨h1, c, kp _ _ (fun z => ?_) h2⟩
        rw [List.mem_singleton.mp z] at h1
        exact Nat.lt_irrefl _ (Nat.lt_trans h1 neSI)
  | succ k ih =>
    intro i s T r hk hi Z
    have hlt : i < as.length := by omega
    obtain ⟨c, hS⟩ := Z.st
    refine codeAny_builtin F.entry_sum_loop ?_
    rw [Around.under_plainId F.plain_sum_loop _]
    show wpAny _ A.in1 (seqItems? (.ref S) >>= _) _ _ s
    refine wpAny_bind (wpAny_seqItems hS rfl ?_)
    show wpAny _ A.in1 (tryCatch (pyNext (.ref I)) _ >>= _) _ _ s
    refine wpAny_bind (wpAny_tryCatch (W.item i s _ _ (by rw [wsz]; exact hlt) ⟨Z.it, hax.at fun o e => Z.old _ _ e⟩ fun v h' tk hP hst kp => ?_))
    obtain ⟨a, ha⟩ : ∃ a, as[i]? = some a := ⟨_, List.getElem?_eq_getElem hlt⟩
    have ev : v = .ref a := by simpa [ha] using hP.symm
    subst ev
    obtain ⟨l, hl, hla⟩ := hv i a ha
    have notI : ∀ b, b ≠ I → b ∉ [I] := fun b h z => h (List.mem_singleton.mp z)
    have TI : T ≠ I := by
      rcases Z.wh with ⟨e, _⟩ | ⟨e, _⟩
      · rw [e]; exact b0I
      · rintro rfl; exact Nat.lt_irrefl _ (Nat.lt_trans e neSI)
    have TS : T ≠ S := by
      rcases Z.wh with ⟨e, _⟩ | ⟨e, _⟩
      · rw [e]; exact b0S
      · rintro rfl; exact Nat.lt_irrefl _ e
    have old1 : ∀ b o, s0.heap.get? b = some o → h'.get? b = some o := fun b o e => kp b o (notI b fun z => by rw [z, nI] at e; cases e) (Z.old b o e)
    have hT1 : h'.IsList T (val.take i).flatten.toArray := Z.tot.at fun o e => kp _ _ (notI _ TI) e
    have hS1 := kp _ _ (notI S neSI') hS
    have ha1 : h'.IsList a l.toArray := hla.at fun o e => old1 _ _ e
    have et : (val.take (i + 1)).flatten = (val.take i).flatten ++ l := by
      rw [List.take_succ, hl]; simp
    have szl : ((val.take i).flatten ++ l).length ≤ sizeLine := by
      rw [← et]
      refine Nat.le_trans ?_ hz
      have : val.flatten = (val.take (i + 1)).flatten ++ (val.drop (i + 1)).flatten := by
        rw [← List.flatten_append, List.take_append_drop]
      rw [this, List.length_append]; omega
    show wpAny _ A.in1 ((holding [Value.ref a] (binaryOp .Add (.ref T) (.ref a))).attempt >>= _) _ _ _
    refine wpAny_bind (wpAny_attempt (wpAny_holding (concat_lists hT1 ha1 (by simpa using szl) ?_)))
    generalize hT' : h'.objs.size = T'
    have ltS : S < T' := by rw [← hT']; exact Heap.lt_size hS1
    have hS2 : (h'.push { cls := .type "list", data := .seq ((val.take i).flatten.toArray ++ l.toArray) }).get? S = _ := Heap.get?_push_of_some _ hS1
    have gT : (h'.push { cls := .type "list", data := .seq ((val.take i).flatten.toArray ++ l.toArray) }).get? T' = some { cls := .type "list", data := .seq ((val.take i).flatten.toArray ++ l.toArray) } := by
      rw [← hT']; exact Heap.get?_push_size _ rfl
    show wpAny _ A.in1 (updateSeq S (fun _ => #[.ref T']) >>= _) _ _ _
    refine wpAny_bind (wpAny_updateSeq hS2 rfl ?_)
    have hS3 := Heap.get?_update_self (Obj.mapSeq fun _ => #[Value.ref T']) hS2 rfl
    refine wpAny_bind (wpAny_letGo ?_)
    refine wpAny_bind (wpAny_updateSeq hS3 rfl (wpAny_pure ⟨plainId_quiet F.plain_sum_loop _, ih (i + 1) _ T' 2 (by omega) hlt ?_⟩))
    have up : ∀ b o, b ≠ S → h'.get? b = some o → (((h'.push { cls := .type "list", data := .seq ((val.take i).flatten.toArray ++ l.toArray) }).update S (Obj.mapSeq fun _ => #[Value.ref T'])).update S (Obj.mapSeq fun _ => #[Value.ref T'])).get? b = some o := fun b o hb e =>
      (Heap.get?_update_other _ _ (Ne.symm hb)).trans ((Heap.get?_update_other _ _ (Ne.symm hb)).trans (Heap.get?_push_of_some _ e))
    have gT2 : (((h'.push { cls := .type "list", data := .seq ((val.take i).flatten.toArray ++ l.toArray) }).update S (Obj.mapSeq fun _ => #[Value.ref T'])).update S (Obj.mapSeq fun _ => #[Value.ref T'])).get? T' = some { cls := .type "list", data := .seq ((val.take i).flatten.toArray ++ l.toArray) } :=
      (Heap.get?_update_other _ _ (Nat.ne_of_lt ltS)).trans ((Heap.get?_update_other _ _ (Nat.ne_of_lt ltS)).trans gT)
    have eA : (val.take i).flatten.toArray ++ l.toArray = (val.take (i + 1)).flatten.toArray := by rw [et]; simp
    rw [eA] at gT2
    exact {
      old := fun b o e => up b o (fun z => by rw [z, nS] at e; cases e) (old1 b o e)
      it := hst.1.at fun o e => by rw [up _ _ (Ne.symm neSI') (by rw [eA] at *; exact e)]
      st := ⟨_, Heap.get?_update_self (Obj.mapSeq fun _ => #[Value.ref T']) hS3 rfl⟩
      tot := ⟨_, by rw [eA]; exact gT2, rfl, _, rfl⟩
      wh := .inr ⟨ltS, _, by rw [eA]; exact gT2⟩
      gens := Z.gens
      drawn := Z.drawn
      os := Z.os }
end
theorem call_sumL {prog : Program} {w : World} {A : Around} {E : Value → Shared → Prop} {s : Shared} (hh : A.handled = none) {ax b0 : Addr} {as : List Addr} {val : List (List Value)} {Q : Value → Shared → Prop}
    (hax : s.heap.IsList ax (as.map Value.ref).toArray) (hb0 : s.heap.IsList b0 #[])
    (hv : ∀ (i : Nat) (a : Addr), as[i]? = some a → ∃ l, val[i]? = some l ∧ s.heap.IsList a l.toArray) (hlen : as.length = val.length) (hz : val.flatten.length ≤ sizeLine)
    (hR : ∀ h' tk T, (∀ b o, s.heap.get? b = some o → h'.get? b = some o) → ((T = b0 ∧ val.flatten = []) ∨ (s.heap.objs.size ≤ T ∧ ∃ c, h'.get? T = some { cls := .type "list", data := .seq val.flatten.toArray c })) → Q (.ref T) { s with heap := h', toks := tk }) :
    wpAny (model prog w) A (call (.builtin "sum") [.ref ax, .ref b0]) Q E s := by
  refine call_function_tree F.kind_sum F.plain_sum F.entry_sum (args_sum2 _ _) ?_
  unfold Builtin.«sum»
  simp only [List.length_cons, List.length_nil]
  rw [if_neg (by decide)]
  refine wpAny_bind (wpAny_of_eq (show Builtin.Builtins.bindParams "sum" ["start"] 0 { pos := [.ref b0] } = pure [some (.ref b0)] from rfl) ?_)
  refine wpAny_bind (PySem.Flt.iter_list_ hax fun s₂ e st hfp hlI => ?_)
  refine wpAny_bind (wpAny_pure ?_)
  subst e
  have ib : (s.heap.push { cls := .type "list_iterator", data := .fields #[.ref ax, .int 0 0] }).IsList b0 #[] := hb0.push _
  have tyb : ∀ (sh : Shared), sh.heap.IsList b0 #[] → sh.TypeIs (.ref b0) "list" := fun sh ⟨o, e, c, _⟩ => ⟨o, e, c⟩
  simp only [List.forIn_cons, List.forIn_nil]
  refine wpAny_bind (wpAny_bind (wpAny_bind (wpAny_isInstance (T := "list") (b := false) (tyb _ ib) PySem.F.sub_list_str ?_)))
  simp only [Bool.false_eq_true, if_false]
  refine wpAny_pure (wpAny_bind (wpAny_bind (wpAny_isInstance (T := "list") (b := false) (tyb _ ib) PySem.F.sub_list_bytes ?_)))
  simp only [Bool.false_eq_true, if_false]
  refine wpAny_pure (wpAny_bind (wpAny_bind (wpAny_isInstance (T := "list") (b := false) (tyb _ ib) PySem.F.sub_list_bytearray ?_)))
  simp only [Bool.false_eq_true, if_false]
  refine wpAny_pure (wpAny_pure ?_)
  refine wpAny_bind (wpAny_newObj_type ?_)
  have sz1 : (s.heap.push { cls := .type "list_iterator", data := .fields #[.ref ax, .int 0 0] }).objs.size = s.heap.objs.size + 1 := Heap.size_push ..
  have nI : s.heap.get? s.heap.objs.size = none := by
    cases e : s.heap.get? s.heap.objs.size with
    | none => rfl
    | some o => exact absurd (Heap.lt_size e) (Nat.lt_irrefl _)
  have nS : s.heap.get? (s.heap.objs.size + 1) = none := by
    cases e : s.heap.get? (s.heap.objs.size + 1) with
    | none => rfl
    | some o => exact absurd (Heap.lt_size e) (by show ¬ s.heap.objs.size + 1 < s.heap.objs.size; omega)
  refine wpAny_pure ⟨plainId_quiet F.plain_sum_loop _, ?_⟩
  show codeAny _ A (.builtin "sum.loop" ⟨[.ref s.heap.objs.size, .ref (s.heap.push { cls := .type "list_iterator", data := .fields #[.ref ax, .int 0 0] }).objs.size, rawInt 2, rawInt 0], []⟩) _ _
  rw [sz1]
  refine sum_loopL (s0 := s) (b0 := b0) (I := s.heap.objs.size) (ax := ax) (S := s.heap.objs.size + 1) hh hax hb0 hv hlen hz nI nS (Nat.lt_succ_self _) (Nat.le_succ _) (fun s' T kp e1 e2 e3 w0 => ?_) as.length 0 _ b0 2 rfl (Nat.zero_le _) ?_
  · obtain ⟨hp, g, d, tk, os⟩ := s'
    subst e1 e2 e3
    refine hR hp tk T kp ?_
    rcases w0 with w0 | ⟨h1, h2⟩
    · exact .inl w0
    · exact .inr ⟨Nat.le_trans (Nat.le_succ _) (Nat.le_of_lt h1), h2⟩
  · have gS := Heap.get?_push_size (h := s.heap.push { cls := .type "list_iterator", data := .fields #[.ref ax, .int 0 0] }) (o := ({ cls := .type "list", data := .seq #[.ref b0] } : Obj)) rfl
    rw [sz1] at gS
    exact {
      old := fun b o e => Heap.get?_push_of_some _ (Heap.get?_push_of_some _ e)
      it := st.1.at fun o e => Heap.get?_push_of_some _ e
      st := ⟨_, gS⟩
      tot := ib.push _
      wh := .inl ⟨rfl, rfl⟩
      gens := rfl
      drawn := rfl
      os := rfl }
/-- sum(list of lists, []) -/
theorem cr_sumL {X : Cx} (hc : X.calm = true) : CallR X (.builtin "sum") (fun xs H Q => ∃ a b, ∃ as : List Addr, ∃ val : List (List V), xs = [V.ref a, V.ref b] ∧ H a = some (.lst (as.map V.ref)) ∧ H b = some (.lst []) ∧ as.length = val.length ∧ (∀ (i : Nat) (c : Addr), as[i]? = some c → ∃ l, val[i]? = some l ∧ H c = some (.lst l)) ∧ val.flatten.length ≤ sizeLine ∧
    ∀ r H', Same H H' → H' r = some (.lst val.flatten) → Q (.ref r) H') := by
  intro pins s σ H xs us Q I r h
  obtain ⟨a, b, as, val, rfl, ha, hb, hlen, hv, hz, q⟩ := h
  obtain ⟨u1, u2, rfl, r1, r2⟩ := r.two
  cases r1
  cases r2
  have rl : ∀ (c : Addr) (l : List V), H c = some (.lst l) → ∃ its : List Value, Vals l its ∧ s.heap.IsList c its.toArray := fun c l e => by
    obtain ⟨_, its, n, rv, _, g⟩ := I.lstM e
    exact ⟨its, rv, _, g, rfl, n, rfl⟩
  obtain ⟨ia, rva, la⟩ := rl a _ ha
  obtain ⟨ib, rvb, lb⟩ := rl b _ hb
  cases rvb
  have ea : ∀ (as : List Addr) (ia : List Value), Vals (as.map V.ref) ia → ia = as.map Value.ref := fun as => by
    induction as with
    | nil => intro ia h; cases h; rfl
    | cons c as ih =>
      intro ia h
      cases h with
      | cons h t =>
        cases h
        rw [ih _ t]; rfl
  rw [ea as ia rva] at la
  obtain ⟨vals, hvl, hval⟩ : ∃ vals : List (List Value), vals.length = val.length ∧ ∀ (i : Nat) (c : Addr), as[i]? = some c → ∃ l l', val[i]? = some l ∧ vals[i]? = some l' ∧ Vals l l' ∧ s.heap.IsList c l'.toArray := by
    clear la rva q hz ha
    induction as generalizing val with
    | nil =>
      cases val with
      | nil => exact ⟨[], rfl, fun i c h => by cases h⟩
      | cons _ _ => cases hlen
    | cons c as ih =>
      cases val with
      | nil => cases hlen
      | cons l val =>
        obtain ⟨vals, h1, h2⟩ := ih val (by simpa using hlen) (fun i c' h => hv (i + 1) c' h)
        obtain ⟨l0, e0, hl0⟩ := hv 0 c rfl
        cases e0
        obtain ⟨its, rv, g⟩ := rl c _ hl0
        refine ⟨its :: vals, by rw [List.length_cons, List.length_cons, h1], fun i c' h => ?_⟩
        cases i with
        | zero => cases h; exact ⟨_, _, rfl, rfl, rv, g⟩
        | succ i => exact h2 i c' h
  have fl : Vals val.flatten vals.flatten := by
    clear la rva q hz ha
    induction as generalizing val vals with
    | nil =>
      have : val = [] := List.eq_nil_of_length_eq_zero hlen.symm
      subst this
      have : vals = [] := List.eq_nil_of_length_eq_zero hvl
      subst this
      exact .nil
    | cons c as ih =>
      cases val with
      | nil => cases hlen
      | cons l val =>
        cases vals with
        | nil => cases hvl
        | cons l' vals =>
          obtain ⟨_, _, e1, e2, rv, _⟩ := hval 0 c rfl
          cases e1; cases e2
          have t := ih (val := val) (by simpa using hlen) (fun i c' h => hv (i + 1) c' h) vals (by simpa using hvl) (fun i c' h => hval (i + 1) c' h)
          rw [List.flatten_cons, List.flatten_cons]
          exact Vals.append rv t
  have lz : vals.flatten.length = val.flatten.length := fl.length.symm
  refine call_sumL (I.ok.hd hc) la lb (val := vals) (fun i c h => by obtain ⟨_, l', _, e, _, g⟩ := hval i c h; exact ⟨l', e, g⟩) (by rw [hvl, hlen]) (by rw [lz]; exact hz) fun h' tk T kp w0 => ?_
  rcases w0 with ⟨rfl, e⟩ | ⟨h1, c, g⟩
  · have e0 : val.flatten = [] := by
      cases h : val.flatten with
      | nil => rfl
      | cons x y => rw [e, h] at fl; cases fl
    exact ⟨.ref T, H, I.kept kp, rfl, q T H (Same.refl H) (by rw [e0]; exact hb)⟩
  · exact ⟨.ref T, _, I.laid kp h1 (o := .lst val.flatten) ⟨hz, vals.flatten, c, fl, g⟩, rfl, q T _ (same_new (I.hok.fresh h1)) upd_same⟩
end Cl

set_option maxHeartbeats 0
namespace Cl
open PySem PySem.Spec PyProof.Rows L2
open GxR (TabB TabG)

theorem AllAt.atX {α : Type} {R : V → α → Prop} : ∀ {vs : List V} {xs : List α} {i : Nat} {x : α}, AllAt R vs xs → xs[i]? = some x → ∃ v, vs[i]? = some v ∧ R v x
  | _, _, _, _, .nil, e => nomatch e
  | v :: _, _ :: _, 0, _, .cons h _, e => ⟨v, rfl, by rw [← Option.some.inj e]; exact h⟩
  | _ :: _, _ :: _, i + 1, _, .cons _ t, e => AllAt.atX (i := i) t e
/-- what the law tells: the same by its own look -/
def spLTr (K : PySem.W.Frag) : Sp := fun vs H Q _ => ∃ a xs pss, vs = [.ref a] ∧ SqT K H a xs ∧ AllAt (AtPath K H) xs pss ∧ (∀ ps ∈ pss, ps ≠ [] ∧ ps.length ≤ 100 ∧ ∀ p ∈ ps, BdC p) ∧ pss.length ≤ 20 ∧
  ∀ v H' cs ls, Same H H' → CrnOf pss cs → ls.Nodup → ls.Pairwise leL → (∀ l, l ∈ ls ↔ l ∈ linksP pss) → AtTr K H' v (firstOn isOn ls cs) (firstP dcB ls) → Q v H'
theorem call_list_ofk {X : Cx} {K : PySem.W.Frag} (hK : X.K = K) : CallR X (.type "list") (fun xs H Q => ∃ p ys, xs = [.ref p] ∧ (SqL K H p ys ∨ SqT K H p ys) ∧ New H (.lst ys) Q) := hK ▸ call_list_ofN
theorem flatten_id {α : Type} (xss : List (List α)) : xss.flatMap id = xss.flatten := by
  induction xss with
  | nil => rfl
  | cons x xss ih => rw [List.flatMap_cons, List.flatten_cons, ih]; rfl
theorem paths_flat {K : PySem.W.Frag} {H : Hp} : ∀ {xs : List V} {pss : List (List Pt)}, AllAt (AtPath K H) xs pss → ∃ uss : List (List V), uss.length = pss.length ∧ (∀ (i : Nat) (x : V), xs[i]? = some x → ∃ (c : Addr) (us : List V), x = V.ref c ∧ uss[i]? = some us ∧ SqT K H c us) ∧ AllAt (At2 K H) uss.flatten pss.flatten
  | _, _, .nil => ⟨[], rfl, (fun i x h => by simp at h), .nil⟩
  | _, _, .cons h t => by
    obtain ⟨c, us, rfl, h1, h2⟩ := h
    obtain ⟨uss, a, b, e⟩ := paths_flat t
    refine ⟨us :: uss, by rw [List.length_cons, List.length_cons, a], fun i x hx => ?_, ?_⟩
    · match i with
      | 0 => cases hx; exact ⟨c, us, rfl, rfl, h1⟩
      | i + 1 => exact b i x hx
    · rw [List.flatten_cons, List.flatten_cons]
      exact h2.app e

section
variable {P : Program} {w : World} {K : PySem.W.Frag} {mg : Str → Option Value} {base : Heap}

theorem ok_law_trouble {f : Addr} {fd : FuncData} (F : Fun K "_law_trouble" "_law_trouble" s_law_trouble f fd) (T : Bt mg) (D_law_links : Def P w K mg base 1 "_law_links" ["_law_paths_here"] (spLLk K)) (D_law_is_on : Def P w K mg base 2 "_law_is_on" ["_law_corner", "_law_link"] (spIsOn K)) (D_law_do_cross : Def P w K mg base 3 "_law_do_cross" ["_law_link", "_law_other"] (spPart K dcB)) :
    FnG P w K mg base CX0 4 f fd ["_law_paths_here"] (spLTr K) := by
  refine okG (k := 3) F sc_law_trouble (fun vs H Q E h => ?_) (fun cdv A outer s H vs Q E hr h => ?_)
  · obtain ⟨a, xs, pss, rfl, _⟩ := h
    rfl
  · obtain ⟨a, xs, pss, rfl, hS, hall, hp, hlen, q⟩ := h
    refine ⟨_, (pss_cons (ps_set (i := 1) sc_law_trouble.nd rfl (.inl rfl) (callD D_law_links (hr.mono (by decide)) (pa_cons (pv 0) pa_nil)))
      (pss_cons (ps_for PassesOwn.never rfl (pi_list (pe_callB (SG.cr_sortedG (knd := SG.flatK _ _) (el := SG.elF K) (enc := SG.encF) (dd := 1) rfl hr.room.units (by decide) (fun h => SG.readF (P := P) (w := w) h) (fun I h => SG.elF_is I h)) (by rfl) T.sorted (by decide +kernel) (pa_cons (pe_callTy (SG.cr_setG (knd := SG.flatK _ _) (el := SG.elF K) rfl hr.room.units (by show 0 ≤ 50; decide) (fun I h => SG.elF_is I h)) (by rfl) T.set (by decide +kernel) (pa_cons (pe_callB (cr_sumL rfl) (by rfl) T.sum (by decide +kernel) (pa_cons (pe_lc (own := [("_law_path", 3)]) (g := gName 3) (tt := tYes) (by rfl) sc_law_trouble.nd (pi_tup (pv 0)) (blkOk_by (own := [("_law_path", 3)]) (N := ["_law_paths_here", "_law_links_here", "_law_corner", "_law_path", "_law_link", "_law_k", "_law_other"]) (sc := defScope s_law_trouble) (by decide +kernel)) (fun _ _ _ _ _ => (pg_name (i := 3) sc_law_trouble.nd rfl (.inl rfl))) (fun _ _ _ _ _ => pts_nil) (fun _ _ _ _ _ => (pe_callTy (call_list_ofk (K := K) rfl) (by rfl) T.list (by decide +kernel) (pa_cons (pv 3) pa_nil)))) (pa_cons (lstN pa_nil) pa_nil))) pa_nil)) pa_nil))) (pg_name (i := 2) sc_law_trouble.nd rfl (.inl rfl)) (pss_one (ps_for PassesOwn.never rfl (pi_list (pv 1)) (pg_name (i := 4) sc_law_trouble.nd rfl (.inl rfl)) (pss_one (ps_if (pt_val (callD D_law_is_on (hr.mono (by decide)) (pa_cons (pv 2) (pa_cons (pv 4) pa_nil)))) (pss_one (ps_ret (tupN (pa_cons pe_str (pa_cons (pv 2) (pa_cons (pv 4) pa_nil)))))) pss_nil)))))
      (pss_cons (ps_for PassesOwn.never rfl (pi_range1 (by rfl) T.range (pa_cons (pe_callB call_len_seq (by rfl) T.len (by decide +kernel) (pa_cons (pv 1) pa_nil)) pa_nil)) (pg_name (i := 5) sc_law_trouble.nd rfl (.inl rfl)) (pss_one (ps_for PassesOwn.never rfl (pi_list (pe_slice sl_listN (pv 1) (po_some (pe_op op_add (pv 5) pe_int)) po_none)) (pg_name (i := 6) sc_law_trouble.nd rfl (.inl rfl)) (pss_one (ps_if (pt_val (callD D_law_do_cross (hr.mono (by decide)) (pa_cons (pe_ix ix_list (pv 1) (pv 5) (fun _ _ => rfl)) (pa_cons (pv 6) pa_nil)))) (pss_one (ps_ret (tupN (pa_cons pe_str (pa_cons (pe_ix ix_list (pv 1) (pv 5) (fun _ _ => rfl)) (pa_cons (pv 6) pa_nil)))))) pss_nil)))))
      (pss_one (ps_ret pe_non))))), ?_⟩
    have lx := hall.length
    refine ⟨.ref a, rfl, a, xs, pss, rfl, hS, hall, fun ps hps => (hp ps hps).2.1, hlen, fun pL ys ls H1 s1 gL hls nd pw mem => ?_⟩
    have bdl : ∀ l ∈ ls, BdL l := fun l hl => by
      obtain ⟨ps, h1, h2, h3⟩ := link_pts ((mem l).mp hl)
      exact ⟨(hp ps h1).2.2 _ h2, (hp ps h1).2.2 _ h3⟩
    have lls : ls.length ≤ 2000 := by
      have h1 := nodup_len ls _ nd fun l => (mem l).mp
      have h2 := len_links pss fun ps hps => (hp ps hps).2.1
      omega
    have ly := hls.length
    obtain ⟨uss, lu, hux, hfl⟩ := paths_flat (hall.map fun _ _ z => AtPath.same z s1)
    have hS1 := seT s1 hS
    refine ⟨_, rfl, a, rfl, ⟨xs, hS1⟩, fun pD nD => ?_⟩
    refine lcT (K := K) (a := a) (xs := xs) (fun i H' => Same H1 H' ∧ ∃ as : List Addr, H' pD = some (.lst (as.map V.ref)) ∧ as.length = i ∧ i ≤ xs.length ∧ ∀ (j : Nat) (c : Addr), as[j]? = some c → c ≠ pD ∧ ∃ l, uss[j]? = some l ∧ H' c = some (.lst l)) nD (fun H' e1 e2 => ⟨e1, [], e2, rfl, Nat.zero_le _, fun j c h => by cases h⟩) (fun i H' _ z => seT z.1 hS1) (fun i x H' hx z => ?_) (fun H2 z => ?_)
    · obtain ⟨t1, as, t2, t3, t4, t5⟩ := z
      obtain ⟨c, us, rfl, hu, hc⟩ := hux i x hx
      refine ⟨rfl, .ref c, rfl, c, us, rfl, .inr (seT t1 hc), fun pN HN nN sN gN => ?_⟩
      have kD := sN _ _ t2
      have nDN : pN ≠ pD := fun e => by rw [e, t2] at nN; cases nN
      have li : i < xs.length := (List.getElem?_eq_some_iff.mp hx).1
      refine ⟨as.map V.ref, kD, by rw [List.length_map, t3, sizeLine_eq]; omega, fun b o e => ?_, as ++ [pN], ?_, by rw [List.length_append, t3]; rfl, li, fun j c' hj => ?_⟩
      · rw [upd_ne (ne_of_none e nD)]; exact (t1.trans sN) _ _ e
      · rw [upd_same, List.map_append]; rfl
      · rcases Nat.lt_or_ge j as.length with z | z
        · rw [List.getElem?_append_left z] at hj
          obtain ⟨l0, l, l1, l2⟩ := t5 j c' hj
          refine ⟨l0, l, l1, ?_⟩
          rw [upd_ne l0]
          exact sN _ _ l2
        · rw [List.getElem?_append_right z] at hj
          have e0 : j - as.length = 0 := by
            have := (List.getElem?_eq_some_iff.mp hj).1
            simpa using this
          rw [e0] at hj
          cases hj
          have : j = i := by omega
          subst this
          exact ⟨nDN, us, hu, by rw [upd_ne nDN]; exact gN⟩
    obtain ⟨t1, as, t2, t3, t4, t5⟩ := z
    refine ⟨Nat.zero_le _, fun pE HE nE sE gE => ?_⟩
    have efl : uss.flatten.length = pss.flatten.length := hfl.length
    have lfl : pss.flatten.length ≤ 2000 := by
      have := flat_len fun q hq => (hp q hq).2.1
      rw [flatten_id] at this
      omega
    refine ⟨pD, pE, as, uss, rfl, sE _ _ t2, gE, by omega, fun j c hj => by
      obtain ⟨_, l, l1, l2⟩ := t5 j c hj
      have k := sE _ _ l2
      exact ⟨l, l1, k⟩, by rw [sizeLine_eq]; omega, fun pR HR sR gR => ?_⟩
    have sHR := (t1.trans sE).trans sR
    have t3' := hfl.map fun _ _ z => z.same sHR
    clear t5 t2 gE
    obtain ⟨ks, e1, e2, e3⟩ := s2_ks t3'
    have lk : ks.length ≤ 2000 := by
      have := congrArg List.length e2
      rw [List.length_map, List.length_map] at this
      omega
    refine ⟨pR, ks, rfl, .inl (.inl (by rw [gR, e1])), e3, by omega, fun aS HS L sS nS gS ndL sub sup => ?_⟩
    have al := alike2 (ds := L.map fun p => SG.encF p.2) fun d hd => by
      obtain ⟨p, hp, rfl⟩ := List.mem_map.mp hd
      obtain ⟨s, _, e⟩ := keyed e2 p (sub p hp)
      exact ⟨s, by rw [e]⟩
    refine ⟨aS, L, rfl, gS, fun p hp2 => elF_same2 (e3 p (sub p hp2)) sS, al.1, al.2, fun p _ => by rw [SG.depthF]; exact Nat.le_refl _, fun L' pm pw2 few nd2 pT HT nT sT gT => ?_⟩
    have sRT := sS.trans sT
    obtain ⟨cs, hcs, ndc, pwc, memc⟩ := pts_out (H := HT) e2 (fun p hp => elF_same2 (e3 p hp) sRT) nd2 sub sup pm pw2
    have t0 := sHR.trans sRT
    have crn : CrnOf pss cs := ⟨ndc, pwc, fun c => by rw [flatten_id]; exact memc c⟩
    have bdc : ∀ c ∈ cs, BdC c := fun c hc => by
      obtain ⟨ps, h1, h2⟩ := List.mem_flatMap.mp ((crn.2.2 c).mp hc)
      exact (hp ps h1).2.2 c h2
    have hL0 := t0 _ _ gL
    have hl0 := hls.map fun _ _ z => AtL.same (K := K) z t0
    have fin : ∀ v H', Same HT H' → AtTr K H' v (firstOn isOn ls cs) (firstP dcB ls) → Q v H' := fun v H' s z => q v H' cs ls ((s1.trans t0).trans s) crn nd pw mem z
    clear e1 e2 e3 sub sup al lk q t3' memc pwc ndc
    have lcs := hcs.length
    refine ⟨pT, rfl, ⟨_, .inl (.inl gT)⟩, for_list (K := K) (a := pT) (xs := L'.map fun q => V.ref q.1) (fun i σ H' => ∃ y2 y3 y4 y5 y6, σ = [some (.ref a), some (.ref pL), y2, y3, y4, y5, y6] ∧ Same HT H' ∧ firstOn isOn ls cs = firstOn isOn ls (cs.drop i)) ?_ (fun i σ H' _ z => ?_) (fun i x σ H2 hx z => ?_) (fun σ H2 z => ?_)⟩
    · exact ⟨_, _, _, _, _, rfl, .refl _, rfl⟩
    · obtain ⟨_, _, _, _, _, _, z, _⟩ := z
      exact .inl (.inl (z _ _ gT))
    · obtain ⟨y2, y3, y4, y5, y6, rfl, u1, f1⟩ := z
      obtain ⟨cn, hcn, hxc⟩ := hcs.get hx
      have li : i < cs.length := (List.getElem?_eq_some_iff.mp hcn).1
      have ed : cs.drop i = cn :: cs.drop (i + 1) := by
        rw [List.drop_eq_getElem_cons li]
        congr 1
        rw [List.getElem?_eq_getElem li] at hcn
        exact Option.some.inj hcn
      have bc := bdc cn (List.mem_of_getElem? hcn)
      have done : ls.find? (isOn cn) = none → firstOn isOn ls cs = firstOn isOn ls (cs.drop (i + 1)) := fun e => by
        rw [f1, ed]
        show (match ls.find? (isOn cn) with | some r => some (cn, r) | none => firstOn isOn ls (cs.drop (i + 1))) = _
        rw [e]
      have hx2 := hxc.same u1
      refine ⟨_, rfl, pL, rfl, ⟨_, .inl (.inl (u1 _ _ hL0))⟩, for_list (K := K) (a := pL) (xs := ys) (fun j σ H' => ∃ y3 y4 y5 y6, σ = [some (.ref a), some (.ref pL), some x, y3, y4, y5, y6] ∧ Same H2 H' ∧ ls.find? (isOn cn) = (ls.drop j).find? (isOn cn)) ?_ (fun j σ H' _ z => ?_) (fun j y σ H3 hy z => ?_) (fun σ H3 z => ?_)⟩
      · exact ⟨_, _, _, _, rfl, .refl _, rfl⟩
      · obtain ⟨_, _, _, _, _, z, _⟩ := z
        exact .inl (.inl ((u1.trans z) _ _ hL0))
      · obtain ⟨y3, y4, y5, y6, rfl, u4, f4⟩ := z
        obtain ⟨r, hr_, hyr⟩ := (hl0.map fun _ _ z => (z.same u1).same u4).get hy
        have rm : r ∈ ls := List.mem_of_getElem? hr_
        have lj : j < ls.length := (List.getElem?_eq_some_iff.mp hr_).1
        have ej : ls.drop j = r :: ls.drop (j + 1) := by
          rw [List.drop_eq_getElem_cons lj]
          congr 1
          rw [List.getElem?_eq_getElem lj] at hr_
          exact Option.some.inj hr_
        have br := bdl r rm
        have hx4 := hx2.same u4
        refine ⟨_, rfl, _, rfl, x, y, cn, r, rfl, hx4, hyr, bc, br, fun H5 s5 => ⟨_, rfl, ?_⟩⟩
        cases ho : isOn cn r with
        | true =>
          refine iteT ⟨_, rfl, _, rfl, (by show 3 ≤ sizeLine; decide), fun p6 H6 n6 s6 g6 => ?_⟩
          have s56 := s5.trans s6
          refine fin _ H6 ((u1.trans u4).trans s56) ?_
          have ef : firstOn isOn ls cs = some (cn, r) := by
            rw [f1, ed]
            show (match ls.find? (isOn cn) with | some r => some (cn, r) | none => firstOn isOn ls (cs.drop (i + 1))) = _
            rw [f4, ej, List.find?_cons_of_pos ho]
          rw [ef]
          exact ⟨p6, x, y, rfl, .inl (.inl g6), hx4.same s56, hyr.same s56⟩
        | false =>
          refine iteF ⟨_, _, _, _, rfl, u4.trans s5, ?_⟩
          rw [f4, ej, List.find?_cons_of_neg (by rw [ho]; exact Bool.false_ne_true)]
      · obtain ⟨y3, y4, y5, y6, rfl, u4, f4⟩ := z
        refine ⟨_, _, _, _, _, rfl, u1.trans u4, done ?_⟩
        rw [f4, ly, List.drop_length]
        rfl
    · obtain ⟨y2, y3, y4, y5, y6, rfl, u1, f1⟩ := z
      rw [lcs, List.drop_length] at f1
      have f1 : firstOn isOn ls cs = none := by rw [f1]; rfl
      have hl2 := hl0.map fun _ _ z => AtL.same (K := K) z u1
      have hL2 := u1 _ _ hL0
      rw [f1] at fin
      refine ⟨_, rfl, pL, ys, rfl, .inl (.inl (.inl hL2)), ?_⟩
      refine ⟨((ys.length : Nat) : Int), rfl, by omega, by omega, for_range (n := ys.length) (fun k σ H' => ∃ y2 y3 y4 y5 y6, σ = [some (.ref a), some (.ref pL), y2, y3, y4, y5, y6] ∧ Same H2 H' ∧ firstP dcB ls = firstP dcB (ls.drop k)) ?_ (fun k σ H' hk z => ?_) (fun σ H' z => ?_)⟩
      · exact ⟨_, _, _, _, _, rfl, .refl _, rfl⟩
      · obtain ⟨y2, y3, y4, y5, y6, rfl, w1, f2⟩ := z
        have lk : k < ls.length := by omega
        obtain ⟨l, hl_⟩ : ∃ l, ls[k]? = some l := ⟨_, List.getElem?_eq_getElem lk⟩
        obtain ⟨x, hxk, hxl⟩ := AllAt.atX (hl2.map fun _ _ z => AtL.same (K := K) z w1) hl_
        have bl := bdl l (List.mem_of_getElem? hl_)
        have ek : ls.drop k = l :: ls.drop (k + 1) := by
          rw [List.drop_eq_getElem_cons lk]
          congr 1
          rw [List.getElem?_eq_getElem lk] at hl_
          exact Option.some.inj hl_
        have hLk := w1 _ _ hL2
        have done : (ls.drop (k + 1)).find? (dcB l) = none → firstP dcB ls = firstP dcB (ls.drop (k + 1)) := fun e => by
          rw [f2, ek]
          show (match (ls.drop (k + 1)).find? (dcB l) with | some r => some (l, r) | none => firstP dcB (ls.drop (k + 1))) = _
          rw [e]
        refine ⟨_, rfl, _, rfl, _, _, rfl, rfl, ((k + 1 : Nat) : Int), by rw [Int.natCast_add, Int.zero_add]; rfl, pL, ys, rfl, .inl (.inl hLk), fun pS HS nS sS gS => ?_⟩
        rw [cutV_drop] at gS
        have hall2 : AllAt (AtL K HS) (ys.drop (k + 1)) (ls.drop (k + 1)) := allAt_drop (k + 1) (hl2.map fun _ _ z => AtL.same (K := K) z (w1.trans sS))
        have hLS := sS _ _ hLk
        have hxS := hxl.same sS
        have atk : atI ys (0 + (k : Int)) = some x := by rw [Int.zero_add]; exact atI_nat hxk
        refine ⟨pS, rfl, ⟨_, .inl (.inl gS)⟩, for_list (K := K) (a := pS) (xs := ys.drop (k + 1)) (fun j σ H' => ∃ y2 y3 y4 y6, σ = [some (.ref a), some (.ref pL), y2, y3, y4, some (.int (0 + (k : Int))), y6] ∧ Same HS H' ∧ (ls.drop (k + 1)).find? (dcB l) = ((ls.drop (k + 1)).drop j).find? (dcB l)) ?_ (fun j σ H' _ z => ?_) (fun j y σ H3 hy z => ?_) (fun σ H3 z => ?_)⟩
        · exact ⟨_, _, _, _, rfl, .refl _, rfl⟩
        · obtain ⟨_, _, _, _, _, z, _⟩ := z
          exact .inl (.inl (z _ _ gS))
        · obtain ⟨y2, y3, y4, y6, rfl, u4, f4⟩ := z
          obtain ⟨r, hr_, hyr⟩ := hall2.get hy
          have rm : r ∈ ls.drop (k + 1) := List.mem_of_getElem? hr_
          have br := bdl r (List.mem_of_mem_drop rm)
          have lj : j < (ls.drop (k + 1)).length := (List.getElem?_eq_some_iff.mp hr_).1
          have ej : (ls.drop (k + 1)).drop j = r :: (ls.drop (k + 1)).drop (j + 1) := by
            rw [List.drop_eq_getElem_cons lj]
            congr 1
            rw [List.getElem?_eq_getElem lj] at hr_
            exact Option.some.inj hr_
          have hyr4 := hyr.same u4
          have hL4 := u4 _ _ hLS
          refine ⟨_, rfl, _, rfl, pL, _, _, x, rfl, rfl, .inl (.inl hL4), atk, _, rfl, x, y, l, r, rfl, hxS.same u4, hyr4, bl, br, fun H5 s5 => ⟨_, rfl, ?_⟩⟩
          have hL5 := s5 _ _ hL4
          cases hd : dcB l r with
          | true =>
            refine iteT ⟨_, rfl, _, rfl, pL, _, _, x, rfl, rfl, .inl (.inl hL5), atk, _, rfl, (by show 3 ≤ sizeLine; decide), fun p6 H6 n6 s6 g6 => ?_⟩
            have s56 := s5.trans s6
            refine fin _ H6 ((((u1.trans w1).trans sS).trans u4).trans s56) ?_
            have ef : firstP dcB ls = some (l, r) := by
              rw [f2, ek]
              show (match (ls.drop (k + 1)).find? (dcB l) with | some r => some (l, r) | none => firstP dcB (ls.drop (k + 1))) = _
              rw [f4, ej, List.find?_cons_of_pos hd]
            rw [ef]
            exact ⟨p6, x, y, rfl, .inl (.inl g6), (hxS.same u4).same s56, hyr4.same s56⟩
          | false =>
            refine iteF ⟨_, _, _, _, rfl, u4.trans s5, ?_⟩
            rw [f4, ej, List.find?_cons_of_neg (by rw [hd]; exact Bool.false_ne_true)]
        · obtain ⟨y2, y3, y4, y6, rfl, u4, f4⟩ := z
          refine ⟨_, _, _, _, _, rfl, (w1.trans sS).trans u4, done ?_⟩
          rw [f4, hall2.length, List.drop_length]
          rfl
      · obtain ⟨y2, y3, y4, y5, y6, rfl, w1, f2⟩ := z
        rw [ly, List.drop_length] at f2
        exact fin _ _ (u1.trans w1) (by rw [f2]; rfl)

end
end Cl

/-! t[::k], k an expression that is 1 or -1 -/
namespace Cl
open PySem PySem.Spec PyProof.Rows L2 HT
theorem one_places (n : Nat) : Builtin.Slice.slicePlaces 0 (n : Int) 1 = n := by
  unfold Builtin.Slice.slicePlaces
  rw [if_pos (by decide)]
  split
  · rw [Int.ediv_one]; omega
  · omega
section
variable {prog : Program} {w : World} {A : Around} {E : Value → Shared → Prop} {s : Shared}
theorem getItem_tuple_one {t sl : Addr} {items : Array Value} {tk : Tok} {Q : Value → Shared → Prop} (ht : IsTup s.heap t items)
    (hs : s.heap.IsSliceOf sl .none .none (.int 1 tk))
    (h : Q (.ref t) s) :
    wpAny (model prog w) A (getItem (.ref t) (.ref sl)) Q E s := by
  obtain ⟨os, hos, hcs, hds⟩ := id hs
  have isS : s.TypeIs (.ref sl) "slice" := ⟨os, hos, hcs⟩
  unfold getItem
  try with_reducible refine wpAny_holding ?_
  first | refine wpAny_bind (wpAny_pure ?_) | skip
  refine wpAny_bind (wpAny_sequenceKey ht.typeIs (by decide) ?_)
  refine wpAny_bind (wpAny_callSpecial?_slot (name := Str.ofString "__getitem__") ht.typeIs PyProof.Rows.slot_tuple_getitem
    (wpAny_call_entry PyProof.Rows.slot_tuple_getitem ht.typeIs entry_tuple_getitem ?_ (args_tuple_getitem _ _)))
  show wpAny _ _ (Builtin.Tuple.tupleItemsOf (.ref t) >>= _) _ _ s
  refine wpAny_bind (tupleItemsOf_ ht ?_)
  refine wpAny_bind (wpAny_typeOf isS ?_)
  rw [if_pos (by decide)]
  have applied : ∀ (A' : Around) (E' : Value → Shared → Prop) (Q' : Int × Int × Nat → Shared → Prop), Q' (0, 1, items.size) s →
      wpAny (model prog w) A' (Builtin.Slice.sliceApplied (.ref sl) (pure (items.size : Int))) Q' E' s := fun A' E' Q' q => by
    unfold Builtin.Slice.sliceApplied Builtin.Slice.sliceFields
    refine wpAny_bind (wpAny_bind (wpAny_field hos hds (x := .none) rfl (wpAny_bind (wpAny_field hos hds (x := .none) rfl (wpAny_bind (wpAny_field hos hds (x := .int 1 tk) rfl (wpAny_pure ?_)))))))
    refine wpAny_bind (slicePart_ (.int 1 tk) ?_)
    show wpAny _ _ (if ((1 : Int) == 0) = true then _ else _) _ _ s
    rw [if_neg (by decide)]
    refine wpAny_bind (slicePart_ .none (wpAny_bind (slicePart_ .none (wpAny_bind (wpAny_pure ?_)))))
    show wpAny _ _ (match Builtin.Slice.sliceAdjust none none 1 (items.size : Int) with | (lo, hi) => pure (lo, (1 : Int), Builtin.Slice.slicePlaces lo hi 1)) _ _ s
    show wpAny _ _ (pure ((0 : Int), (1 : Int), Builtin.Slice.slicePlaces 0 (items.size : Int) 1)) _ _ s
    rw [one_places]
    exact wpAny_pure q
  refine wpAny_bind (applied _ _ _ ?_)
  have hyes : ((0 : Int) == 0 && (1 : Int) == 1 && items.size == items.size) = true := by simp
  show wpAny _ _ (if ((0 : Int) == 0 && (1 : Int) == 1 && items.size == items.size) = true then _ else _) _ _ s
  rw [if_pos hyes]
  refine wpAny_bind ?_
  show wpAny _ _ (typeOf (.ref t) >>= fun T => pure (T == .type "tuple")) _ _ s
  refine wpAny_bind (wpAny_typeOf ht.typeIs (wpAny_pure ?_))
  first
    | rw [if_pos (by decide)]
    | simp only [beq_self_eq_true, if_true]
  first
    | exact wpAny_bind (wpAny_rule (wpAny_pure ⟨_, rfl, wpAny_pure h⟩))
    | exact wpAny_bind (wpAny_rule (wpAny_bind (wpAny_pure (wpAny_pure ⟨_, rfl, wpAny_pure h⟩))))
end
section
variable {X : Cx} {e e2 : Expr} {te te2 : TE}
def tStepT (K : PySem.W.Frag) (te te2 : TE) : TE := fun σ H Q => te σ H fun x H1 => te2 σ H1 fun y H2 => ∃ a xs, x = .ref a ∧ SqT K H2 a xs ∧ ((y = .int 1 ∧ Q (.ref a) H2) ∨ (y = .int (-1) ∧ New H2 (.tup xs.reverse) Q))
theorem pe_stepT {p2 pos : Pos} (he : PE X e te) (he2 : PE X e2 te2) :
    PE X (.Subscript e (.Slice none none (some e2) p2) pos) (tStepT X.K te te2) := by
  constructor
  intro pins s σ H Q I h
  refine Subscript_ (thn (he.run pins s σ H _ I h) fun v s1 ⟨x, H1, I1, r1, q1⟩ => ?_)
  refine wpAny_Slice ?_
  rw [evalPart_none]
  refine wpAny_pure ?_
  refine wpAny_pure ?_
  rw [evalPart_some]
  refine thn (he2.run pins s1 σ H1 _ I1 q1) fun u s2 ⟨y, H2, I2, ry, a, xs, hx, hl, q⟩ => ?_
  subst hx
  cases r1
  rcases q with ⟨hy, q⟩ | ⟨hy, q⟩
  · subst hy
    obtain ⟨t, rfl⟩ := ry
    have I4 : Inv X pins σ H2 { s2 with heap := s2.heap.push { cls := .type "slice", data := .fields #[.none, .none, .int 1 t] } } :=
      I2.kept (t' := s2.toks) fun b ob z => Heap.get?_push_of_some _ z
    obtain ⟨its, r, ht, hz⟩ := I4.tuple hl
    refine tail_any ht.typeIs PyProof.Rows.slot_tuple_getitem.lookup ?_ (by with_unfolding_all rfl)
    exact getItem_tuple_one ht (Heap.IsSliceOf.new ..) ⟨.ref a, H2, I4, rfl, q⟩
  · subst hy
    obtain ⟨t, rfl⟩ := ry
    have I4 : Inv X pins σ H2 { s2 with heap := s2.heap.push { cls := .type "slice", data := .fields #[.none, .none, .int (-1) t] } } :=
      I2.kept (t' := s2.toks) fun b ob z => Heap.get?_push_of_some _ z
    obtain ⟨its, r, ht, hz⟩ := I4.tuple hl
    have nl := r.length
    refine tail_any ht.typeIs PyProof.Rows.slot_tuple_getitem.lookup ?_ (by with_unfolding_all rfl)
    refine getItem_tuple_rev ht (Heap.IsSliceOf.new ..) (by rw [List.size_toArray] <;> omega) ?_
    refine ⟨.ref _, _, I4.laid (t' := s2.toks) (o := .tup xs.reverse) (fun b ob z => Heap.get?_push_of_some _ z) (Nat.le_refl _) ?_, rfl, q.go _ (I4.hok.fresh (Nat.le_refl _))⟩
    exact ⟨by rw [List.length_reverse]; exact hz, _, valsRev r, IsTup.new _ _⟩
end
end Cl

set_option maxHeartbeats 0
namespace Cl
open PySem PySem.Spec PyProof.Rows L2
open GxR (TabB TabG)


theorem call_tuple_k27 {X : Cx} {K : PySem.W.Frag} (hK : X.K = K) : CallR X (.type "tuple") (fun xs H Q => ∃ p ys, xs = [.ref p] ∧ SqL K H p ys ∧ New H (.tup ys) Q) := hK ▸ call_tuple_ofN
def Good12 (pss : List (List Pt)) : Prop := pss.length ≤ 12 ∧ ∀ ps ∈ pss, (ps ≠ [] ∧ ps.length ≤ 60 ∧ ∀ p ∈ ps, BdN 10000000 p) ∧ ps.Nodup
def AtPaths (K : PySem.W.Frag) (H : Hp) (v : V) (pss : List (List Pt)) : Prop := ∃ (a : Addr) (xs : List V), v = .ref a ∧ SqT K H a xs ∧ AllAt (AtPath K H) xs pss
def spPaths28 (K : PySem.W.Frag) : Sp := fun vs H Q _ => ∃ (d l : Addr), vs = [.ref d] ∧ Deck H d l ∧ ∀ v pss H', Step d l H H' → AtPaths K H' v pss → Good12 pss → Q v H'
theorem AtPath.sameX {K : PySem.W.Frag} {H H' : Hp} {v : V} {ps : List Pt} (h : AtPath K H v ps) (s : Same H H') : AtPath K H' v ps := by
  obtain ⟨a, xs, e, h1, h2⟩ := h
  exact ⟨a, xs, e, seT s h1, h2.map fun _ _ z => z.same s⟩
theorem AtPath.upd {K : PySem.W.Frag} {H : Hp} {M : Addr} {xs : List V} {o : HO} {v : V} {ps : List Pt} (h : AtPath K H v ps) (e : H M = some (.lst xs)) : AtPath K (L2.upd H M o) v ps := by
  obtain ⟨a, us, e1, h1, h2⟩ := h
  exact ⟨a, us, e1, updT e h1, h2.map fun _ _ z => z.upd e⟩
theorem AtPath.step {K : PySem.W.Frag} {H H' : Hp} {d l : Addr} {v : V} {ps : List Pt} (h : AtPath K H v ps) (S : Step d l H H') (D : Deck H d l) : AtPath K H' v ps := by
  obtain ⟨a, xs, e, h1, h2⟩ := h
  exact ⟨a, xs, e, stT S D h1, h2.map fun _ _ z => z.step S D⟩
theorem AllAt.rev27 {α : Type} {R : V → α → Prop} : ∀ {vs : List V} {xs : List α}, AllAt R vs xs → AllAt R vs.reverse xs.reverse
  | _, _, .nil => .nil
  | _, _, .cons h t => by
    rw [List.reverse_cons, List.reverse_cons]
    exact (AllAt.rev27 t).app (.cons h .nil)
def dpth (ps : List Pt) : PyData := .tuple (ps.map pd)
theorem AtPath.dp {K : PySem.W.Frag} {H : Hp} {v : V} {ps : List Pt} (h : AtPath K H v ps) : Dp K H v (dpth ps) := by
  obtain ⟨a, xs, rfl, h1, h2⟩ := h
  refine .tup h1 ?_
  clear h1
  induction h2 with
  | nil => exact .nil
  | cons h t ih => exact .cons h.dp ih
theorem paths_dp {K : PySem.W.Frag} {H : Hp} : ∀ {ws : List V} {pss : List (List Pt)}, AllAt (AtPath K H) ws pss → DpAll K H ws (pss.map dpth)
  | _, _, .nil => .nil
  | _, _, .cons h t => .cons h.dp (paths_dp t)
theorem shapedPaths (pss : List (List Pt)) : SeqAt.shaped (.list (pss.map dpth)) = true := by
  have p1 : ∀ ps : List Pt, PyData.canLayAll0 (ps.map pd) = true := by
    intro ps
    induction ps with
    | nil => rfl
    | cons n r ih => simp [PyData.canLayAll0, PyData.canLay0, pd, ih]
  have p2 : ∀ ps : List Pt, PyData.depthAll (ps.map pd) ≤ 1 := by
    intro ps
    induction ps with
    | nil => decide
    | cons n r ih =>
      simp only [List.map_cons, PyData.depthAll]
      have : (pd n).depth = 1 := by simp [pd, PyData.depth, PyData.depthAll]
      omega
  have h1 : ∀ pss : List (List Pt), PyData.canLayAll0 (pss.map dpth) = true := by
    intro pss
    induction pss with
    | nil => rfl
    | cons n r ih => simp [PyData.canLayAll0, PyData.canLay0, dpth, p1, ih]
  have h2 : ∀ pss : List (List Pt), PyData.depthAll (pss.map dpth) ≤ 2 := by
    intro pss
    induction pss with
    | nil => decide
    | cons n r ih =>
      simp only [List.map_cons, PyData.depthAll]
      have := p2 n
      have : (dpth n).depth ≤ 2 := by simp [dpth, PyData.depth]; omega
      omega
  have h3 := h2 pss
  simp [SeqAt.shaped, PyData.canLay0, PyData.depth, h1]
  omega
theorem pickI {b e : Int} (cc : Bool) : atI [V.int b, V.int e] (if cc = true then (1 : Int) else 0) = some (.int (if cc = true then e else b)) := by cases cc <;> rfl
def shf (i j f : Int) (p : Pt) : Pt := (p.1 + i * f, p.2 + j * f)
theorem eqvNilPs (pss : List (List Pt)) : PyData.eqv (.list (pss.map dpth)) (.list []) = pss.isEmpty := by
  cases pss <;> simp [PyData.eqv, PyData.eqvAll]
def shf2 (i j : Int) (p : Pt) : Pt := (p.1 + i, p.2 + j)
theorem atI_last {ws : List V} {w : V} (h : ws.getLast? = some w) : atI ws (-1) = some w := by
  have ne : ws ≠ [] := by rintro rfl; cases h
  have lp : 0 < ws.length := List.length_pos_iff.mpr ne
  unfold atI ixN
  rw [if_neg (by decide), if_pos (by omega)]
  show ws[(-1 + (ws.length : Int)).toNat]? = some w
  rw [List.getLast?_eq_getElem?] at h
  rw [← h]
  congr 1
  omega

section
variable {P : Program} {w : World} {K : PySem.W.Frag} {mg : Str → Option Value} {base : Heap}

theorem ok_law_paths {f : Addr} {fd : FuncData} (F : Fun K "_law_paths" "_law_paths" s_law_paths f fd) (T : Bt mg) (D_law_draw : Def P w K mg base 1 "_law_draw" ["_law_deck_here", "_law_most"] spDraw) (D_law_row : Def P w K mg base 2 "_law_row" ["_law_deck_here", "_law_lots", "_law_wide"] (spRow K)) :
    FnG P w K mg base CX0 3 f fd ["_law_deck_here"] (spPaths28 K) := by
  refine okG (k := 2) F sc_law_paths (fun vs H Q E h => ?_) (fun cdv A outer s H vs Q E hr h => ?_)
  · obtain ⟨d, l, rfl, _⟩ := h
    rfl
  · obtain ⟨d, l, rfl, D, q⟩ := h
    refine ⟨_, (pss_cons (ps_set (i := 1) sc_law_paths.nd rfl (.inl rfl) (pe_op op_add pe_int (callD D_law_draw (hr.mono (by decide)) (pa_cons (pv 0) (pa_cons pe_int pa_nil)))))
      (pss_cons (ps_set (i := 2) sc_law_paths.nd rfl (.inl rfl) (lstN pa_nil))
      (pss_cons (ps_for PassesOwn.never rfl (pi_range1 (by rfl) T.range (pa_cons (callD D_law_draw (hr.mono (by decide)) (pa_cons (pv 0) (pa_cons pe_int pa_nil))) pa_nil)) (pg_name (i := 3) sc_law_paths.nd rfl (.inl rfl)) (pss_cons (ps_set (i := 4) sc_law_paths.nd rfl (.inl rfl) (pe_ix ix_list (lstN (pa_cons (pe_op op_add pe_int (callD D_law_draw (hr.mono (by decide)) (pa_cons (pv 0) (pa_cons pe_int pa_nil)))) (pa_cons pe_int pa_nil))) (pe_callTy call_int1 (by rfl) T.int (by decide +kernel) (pa_cons (pe_cmpR op_eq (callD D_law_draw (hr.mono (by decide)) (pa_cons (pv 0) (pa_cons pe_int pa_nil))) pe_int (nomark _)) pa_nil)) (fun _ _ => rfl)))
      (pss_cons (ps_set (i := 5) sc_law_paths.nd rfl (.inl rfl) (callD D_law_row (hr.mono (by decide)) (pa_cons (pv 0) (pa_cons (pv 4) (pa_cons (pv 1) pa_nil)))))
      (cutS (ps_if (PW.pt (pw_and (pt_cmpR (op_neD hr.room.units) (pv 2) (lstN pa_nil) (nomark _)) (pw_and1 (pt_cmpR op_eq (callD D_law_draw (hr.mono (by decide)) (pa_cons (pv 0) (pa_cons pe_int pa_nil))) pe_int (nomark _))))) (pss_one (ps_set (i := 5) sc_law_paths.nd rfl (.inl rfl) (pe_stepT (pe_ix ix_list (pv 2) (pe_un un_neg pe_int) (fun _ _ => rfl)) (pe_ix ix_list (lstN (pa_cons pe_int (pa_cons (pe_un un_neg pe_int) pa_nil))) (callD D_law_draw (hr.mono (by decide)) (pa_cons (pv 0) (pa_cons pe_int pa_nil))) (fun _ _ => rfl))))) pss_nil)
      (pss_one (ps_expr (pe_bm PySem.F.plainAttrs_list PySem.F.slot_list_append PySem.F.type_list_append mt_append (pv 2) (pa_cons (pv 5) pa_nil))))))))
      (pss_cons (ps_set (i := 6) sc_law_paths.nd rfl (.inl rfl) (callD D_law_draw (hr.mono (by decide)) (pa_cons (pv 0) (pa_cons pe_int pa_nil))))
      (pss_cons (ps_set (i := 7) sc_law_paths.nd rfl (.inr rfl) (pe_ix ix_list (lstN (pa_cons pe_int (pa_cons (pe_op op_sub (callD D_law_draw (hr.mono (by decide)) (pa_cons (pv 0) (pa_cons pe_int pa_nil))) (pe_op op_pow pe_int pe_int)) (pa_cons pe_int pa_nil)))) (pv 6) (fun _ _ => rfl)))
      (pss_cons (ps_set (i := 8) sc_law_paths.nd rfl (.inr rfl) (pe_ix ix_list (lstN (pa_cons pe_int (pa_cons pe_int (pa_cons (pe_op op_sub (callD D_law_draw (hr.mono (by decide)) (pa_cons (pv 0) (pa_cons pe_int pa_nil))) (pe_op op_pow pe_int pe_int)) pa_nil)))) (pv 6) (fun _ _ => rfl)))
      (pss_one (ps_ret (pe_callTy call_tuple_ofN (by rfl) T.tuple (by decide +kernel) (pa_cons (pe_lc (own := [("_law_path", 5)]) (g := gName 5) (tt := tYes) (by rfl) sc_law_paths.nd (pi_list (pv 2)) (blkOk_by (own := [("_law_path", 5)]) (N := ["_law_deck_here", "_law_wide", "_law_found", "_law_k", "_law_lots", "_law_path", "_law_far", "_law_i", "_law_j", "_law_x", "_law_y"]) (sc := defScope s_law_paths) (by decide +kernel)) (fun _ _ _ _ _ => (pg_name (i := 5) sc_law_paths.nd rfl (.inl rfl))) (fun _ _ _ _ _ => pts_nil) (fun _ _ _ _ _ => (pe_callTy (call_tuple_k27 (K := K) rfl) (by rfl) T.tuple (by decide +kernel) (pa_cons (pe_lc (own := [("_law_x", 9), ("_law_y", 10)]) (g := gTup K 2 (gCons (gName 9) (gCons (gName 10) gNil))) (tt := tYes) (by rfl) sc_law_paths.nd (pi_tupk (K := K) rfl (pv 5)) (blkOk_by (own := [("_law_x", 9), ("_law_y", 10)]) (N := ["_law_deck_here", "_law_wide", "_law_found", "_law_k", "_law_lots", "_law_path", "_law_far", "_law_i", "_law_j", "_law_x", "_law_y"]) (sc := _) (by rfl)) (fun _ _ _ _ _ => (pg_tup (by rfl) (pgs_cons (pg_name (i := 9) sc_law_paths.nd rfl (.inl rfl)) (pgs_cons (pg_name (i := 10) sc_law_paths.nd rfl (.inl rfl)) pgs_nil)))) (fun _ _ _ _ _ => pts_nil) (fun _ _ _ _ _ => (tupN (pa_cons (pe_op op_add (pv 9) (pv 7)) (pa_cons (pe_op op_add (pv 10) (pv 8)) pa_nil))))) pa_nil)))) pa_nil)))))))))), ?_⟩
    refine ⟨.ref d, rfl, d, l, 5, rfl, by decide, by decide, D, fun wd H1 w0 w1 S1 => ⟨_, _, rfl, rfl, Nat.zero_le _, fun pF HB nF sB gB => ?_⟩⟩
    have TA := Step.of S1.deck sB
    have np := S1.deck.nd nF
    refine ⟨.ref d, rfl, d, l, 5, rfl, by decide, by decide, TA.deck, fun mn H2 m0 m1 S2 => ?_⟩
    have TB := TA.trans S2
    have gB2 := S2.at np.1 np.2 gB
    refine ⟨mn, rfl, by omega, by omega, ?_⟩
    refine for_range (n := mn.toNat) (fun i σ H' => ∃ y3 y4 y5 y6 y7 y8 y9 y10, σ = [some (.ref d), some (.int (2 + wd)), some (.ref pF), y3, y4, y5, y6, y7, y8, y9, y10] ∧ Step d l H1 H' ∧
      ∃ ws pss, H' pF = some (.lst ws) ∧ AllAt (AtPath K H') ws pss ∧ pss.length = i ∧ ∀ ps ∈ pss, (ps ≠ [] ∧ ps.length ≤ 60 ∧ ∀ p ∈ ps, 0 ≤ p.1 ∧ p.1 < 1000 ∧ 0 ≤ p.2 ∧ p.2 < 1000) ∧ ps.Nodup) ?_ ?_ ?_
    · exact ⟨_, _, _, _, _, _, _, _, rfl, TB, [], [], gB2, .nil, rfl, fun _ z => nomatch z⟩
    · rintro i σ HC hi ⟨y3, y4, y5, y6, y7, y8, y9, y10, rfl, SC, ws, pss, gC, aC, lC, bC⟩
      refine ⟨.ref d, rfl, d, l, 4, rfl, by decide, by decide, SC.deck, fun b H2 b0 b1 S2 => ⟨_, _, rfl, rfl, (by show 2 ≤ sizeLine; decide), fun p3 H3 n3 s3 g3 => ?_⟩⟩
      have T3 := S2.trans (Step.of S2.deck s3)
      refine ⟨.ref d, rfl, d, l, 8, rfl, by decide, by decide, T3.deck, fun c H4 c0 c1 S4 => ⟨rfl, ?_⟩⟩
      have n3' := S2.deck.nd n3
      have g4 := S4.at n3'.1 n3'.2 g3
      have T4 := T3.trans S4
      generalize decide (V.int c = V.int 5) = cc
      refine .inr ⟨_, rfl, p3, _, _, _, rfl, rfl, .inl (.inl g4), pickI cc, ?_⟩
      have m0' : 1 ≤ (if cc = true then (12 : Int) else 1 + b) := by split <;> omega
      have m1' : (if cc = true then (12 : Int) else 1 + b) ≤ 60 := by split <;> omega
      generalize (if cc = true then (12 : Int) else 1 + b) = ln at m0' m1' ⊢
      clear g4 T3 S4 S2 g3 n3' c0 c1 b0 b1 s3 n3
      refine ⟨.ref d, rfl, .int ln, rfl, .int (2 + wd), rfl, d, l, ln, 2 + wd, rfl, m0', m1', by omega, by omega, T4.deck, fun v ps H5 S5 aP neP leP ndP boP => ?_⟩
      have T5 := T4.trans S5
      have k5 : H5 pF = some (.lst ws) := T5.at np.1 np.2 gC
      have a5 : AllAt (AtPath K H5) ws pss := aC.map fun _ _ z => z.step T5 SC.deck
      have l12 : pss.length ≤ 5 := by omega
      have lws := a5.length
      refine ⟨fun σ' H' => ∃ u qs y6 y7 y8 y9 y10, σ' = [some (.ref d), some (.int (2 + wd)), some (.ref pF), some (.int (0 + (i : Nat))), some (.int ln), some u, y6, y7, y8, y9, y10] ∧ Step d l HC H' ∧
        AtPath K H' u qs ∧ (qs ≠ [] ∧ qs.length ≤ 60 ∧ ∀ p ∈ qs, 0 ≤ p.1 ∧ p.1 < 1000 ∧ 0 ≤ p.2 ∧ p.2 < 1000) ∧ qs.Nodup, ?_, ?_⟩
      · have same : ∀ H', Step d l H5 H' → ∃ u qs y6' y7' y8' y9' y10', ([some (.ref d), some (.int (2 + wd)), some (.ref pF), some (.int (0 + (i : Nat))), some (.int ln), some v, y6, y7, y8, y9, y10] : L2.St) = [some (.ref d), some (.int (2 + wd)), some (.ref pF), some (.int (0 + (i : Nat))), some (.int ln), some u, y6', y7', y8', y9', y10'] ∧ Step d l HC H' ∧
          AtPath K H' u qs ∧ (qs ≠ [] ∧ qs.length ≤ 60 ∧ ∀ p ∈ qs, 0 ≤ p.1 ∧ p.1 < 1000 ∧ 0 ≤ p.2 ∧ p.2 < 1000) ∧ qs.Nodup := fun H' S' => ⟨v, ps, _, _, _, _, _, rfl, T5.trans S', aP.step S' T5.deck, ⟨neP, leP, boP⟩, ndP⟩
        refine ⟨.ref pF, rfl, Nat.zero_le _, fun p6 H6 n6 s6 g6 => ⟨.list (pss.map dpth), .list [], .lst (.inl (.inl (s6 _ _ k5))) (paths_dp (a5.map fun _ _ z => AtPath.same z s6)), .lst (.inl (.inl g6)) .nil, shapedPaths _, by decide, ?_⟩⟩
        have T6 := T5.trans (Step.of T5.deck s6)
        rw [eqvNilPs]
        refine ⟨_, rfl, ite2 (fun e => ?_) (fun e => ?_)⟩
        · have ne : 0 < pss.length := by
            cases pss with
            | nil => cases e
            | cons _ _ => exact Nat.succ_pos _
          refine ⟨.ref d, rfl, d, l, 6, rfl, by decide, by decide, T6.deck, fun o H7 o0 o1 S7 => ⟨rfl, _, rfl, ite2 (fun e3 => ?_) (fun e3 => ?_)⟩⟩
          · have T7 := T6.trans S7
            have k7 : H7 pF = some (.lst ws) := T7.at np.1 np.2 gC
            have a7 : AllAt (AtPath K H7) ws pss := aC.map fun _ _ z => z.step T7 SC.deck
            have hz : ws[ws.length - 1]? = some (ws[ws.length - 1]'(by omega)) := List.getElem?_eq_getElem _
            obtain ⟨qs, hq, aQ⟩ := a7.get hz
            have bq := bC qs (List.mem_of_getElem? hq)
            refine ⟨_, rfl, 1, rfl, pF, ws, -1, _, rfl, rfl, .inl (.inl k7), atI_last (by rw [List.getLast?_eq_getElem?]; exact hz), ?_⟩
            refine ⟨1, rfl, (by show 2 ≤ sizeLine; decide), fun p9 H9 n9 s9 g9 => ?_⟩
            have T9 := T7.trans (Step.of T7.deck s9)
            refine ⟨.ref d, rfl, d, l, 2, rfl, by decide, by decide, T9.deck, fun o2 HA o0 o1 SA => ?_⟩
            have n9' := T7.deck.nd n9
            have g9 := SA.at n9'.1 n9'.2 g9
            have T9 := T9.trans SA
            obtain ⟨b, us, eb, hb, hus⟩ := (AtPath.same aQ s9).step SA (Step.of T7.deck s9).deck
            have e9 : o2 = 0 ∨ o2 = 1 := by omega
            rcases e9 with rfl | rfl
            · refine ⟨p9, _, _, .int 1, rfl, rfl, .inl (.inl g9), rfl, b, us, eb, hb, .inl ⟨rfl, ?_⟩⟩
              exact ⟨_, qs, _, _, _, _, _, rfl, T9, ⟨b, us, rfl, hb, hus⟩, bq⟩
            · refine ⟨p9, _, _, .int (-1), rfl, rfl, .inl (.inl g9), rfl, b, us, eb, hb, .inr ⟨rfl, fun pR HR nR sR gR => ?_⟩⟩
              refine ⟨_, qs.reverse, _, _, _, _, _, rfl, T9.trans (Step.of T9.deck sR), ⟨pR, us.reverse, rfl, .inl (.inl gR), AllAt.rev27 (hus.map fun _ _ z => z.same sR)⟩, ⟨fun z => bq.1.1 (List.reverse_eq_nil_iff.mp z), by rw [List.length_reverse]; exact bq.1.2.1, fun p hp => bq.1.2.2 p (List.mem_reverse.mp hp)⟩, List.pairwise_reverse.mpr (bq.2.imp fun h => h.symm)⟩
          · exact same H7 ((Step.of T5.deck s6).trans S7)
        · exact same H6 (Step.of T5.deck s6)
      · rintro σ' H6 ⟨u, qs, y6, y7, y8, y9, y10, rfl, T6, aQ, bq⟩
        have k6 : H6 pF = some (.lst ws) := T6.at np.1 np.2 gC
        refine ⟨.ref pF, rfl, .inl ⟨rfl, ws, .inl (.inl k6)⟩, u, rfl, pF, ws, u, rfl, rfl, k6, by rw [sizeLine_eq]; omega, ?_⟩
        refine ⟨_, _, _, _, _, _, _, _, rfl, (SC.trans T6).updN np.1 np.2 nF, ws ++ [u], pss ++ [qs], upd_same, ((aC.map fun _ _ z => AtPath.upd (z.step T6 SC.deck) k6)).app (.cons (AtPath.upd aQ k6) .nil), by rw [List.length_append, lC]; rfl, fun p hp => ?_⟩
        rcases List.mem_append.mp hp with z | z
        · exact bC p z
        · rw [List.mem_singleton.mp z]; exact bq
    · rintro σ HC ⟨y3, y4, y5, y6, y7, y8, y9, y10, rfl, SC, ws, pss, gC, aC, lC, bC⟩
      refine ⟨.ref d, rfl, d, l, 3, rfl, by decide, by decide, SC.deck, fun fr HD c0 c1 SD => ?_⟩
      have TD := SC.trans SD
      refine ⟨.ref d, rfl, d, l, 1999001, rfl, by decide, by decide, TD.deck, fun i1 HE i0 i1b SE => ?_⟩
      refine ⟨10, 6, rfl, rfl, ⟨by decide, by decide, by decide⟩, _, _, rfl, rfl, (by show 3 ≤ sizeLine; decide), fun pI HF nI sI gI => ?_⟩
      refine ⟨.int fr, rfl, pI, _, fr, .int (if fr = 1 then i1 - 1000000 else 0), rfl, rfl, .inl (.inl gI), by (rcases (by omega : fr = 0 ∨ fr = 1 ∨ fr = 2) with rfl | rfl | rfl <;> rfl), ?_⟩
      have SF := SE.trans (Step.of SE.deck sI)
      have TF := TD.trans SF
      refine ⟨.ref d, rfl, d, l, 1999001, rfl, by decide, by decide, TF.deck, fun j1 HG j0 j1b SG => ?_⟩
      refine ⟨10, 6, rfl, rfl, ⟨by decide, by decide, by decide⟩, _, _, rfl, rfl, (by show 3 ≤ sizeLine; decide), fun pJ HH nJ sJ gJ => ?_⟩
      refine ⟨.int fr, rfl, pJ, _, fr, .int (if fr = 2 then j1 - 1000000 else 0), rfl, rfl, .inl (.inl gJ), by (rcases (by omega : fr = 0 ∨ fr = 1 ∨ fr = 2) with rfl | rfl | rfl <;> rfl), ?_⟩
      have SH := (SD.trans SF).trans (SG.trans (Step.of SG.deck sJ))
      have bi : -1000000 ≤ (if fr = 1 then i1 - 1000000 else 0) ∧ (if fr = 1 then i1 - 1000000 else 0) ≤ 1000000 := by split <;> omega
      have bj : -1000000 ≤ (if fr = 2 then j1 - 1000000 else 0) ∧ (if fr = 2 then j1 - 1000000 else 0) ≤ 1000000 := by split <;> omega
      generalize (if fr = 1 then i1 - 1000000 else 0) = si at bi ⊢
      generalize (if fr = 2 then j1 - 1000000 else 0) = sj at bj ⊢
      have gD : HH pF = some (.lst ws) := SH.at np.1 np.2 gC
      have aD : AllAt (AtPath K HH) ws pss := aC.map fun _ _ z => z.step SH SC.deck
      have lws := aD.length
      have l12 : pss.length ≤ 5 := by omega
      have TH := S1.trans (SC.trans SH)
      clear gJ gI nI nJ sI sJ SF SE SG TD TF SD aC gC
      refine ⟨.ref pF, rfl, pF, rfl, ⟨_, .inl (.inl gD)⟩, fun pO nO => ?_⟩
      refine lcL (K := K) (a := pF) (xs := ws) (fun i H' => Same HH H' ∧ ∃ vs, H' pO = some (.lst vs) ∧ AllAt (AtPath K H') vs ((pss.take i).map (List.map (shf2 si sj)))) nO (fun H' e1 e2 => ⟨e1, [], e2, .nil⟩) (fun i H' _ z => .inl (.inl (by exact z.1 _ _ gD))) (fun i x H2 hx z => ?_) (fun H2 z => ?_)
      · obtain ⟨t1, vs, t2, t3⟩ := z
        obtain ⟨ps, hps, b, us, rfl, hb, hu⟩ := aD.get hx
        have bp := bC ps (List.mem_of_getElem? hps)
        have hb2 := seT t1 hb
        have hu2 : AllAt (At2 K H2) us ps := hu.map fun _ _ z => z.same t1
        have lu := hu.length
        refine ⟨rfl, .ref b, rfl, b, rfl, ⟨_, hb2⟩, fun pE nE => ?_⟩
        refine lcT (K := K) (a := b) (xs := us) (fun j H' => Same H2 H' ∧ ∃ vs', H' pE = some (.lst vs') ∧ AllAt (At2 K H') vs' ((ps.take j).map (shf2 si sj))) nE (fun H' e1 e2 => ⟨e1, [], e2, .nil⟩) (fun j H' _ z => seT z.1 hb2) (fun j y H3 hx3 z => ?_) (fun H3 z => ?_)
        · obtain ⟨u1, vs', u2, u3⟩ := z
          obtain ⟨p, hp, c, rfl, hc⟩ := hu2.get hx3
          refine ⟨c, _, rfl, seT u1 hc, rfl, _, _, rfl, _, _, rfl, rfl, ?_⟩
          refine ⟨rfl, _, rfl, _, rfl, _, _, rfl, rfl, _, rfl, _, rfl, _, _, rfl, rfl, (by show 2 ≤ sizeLine; decide), fun pT H4 n4 s4 g4 => ?_⟩
          have k4 := s4 _ _ u2
          refine ⟨vs', k4, ?_, fun c o e => ?_, vs' ++ [.ref pT], upd_same, ?_⟩
          · have := u3.length
            have := (hu2.length)
            rw [List.length_map, List.length_take] at *
            rw [sizeLine_eq]
            omega
          · rw [upd_ne (ne_of_none e nE)]; exact (u1.trans s4) _ _ e
          · rw [List.take_succ, hp, Option.toList_some, List.map_append]
            exact (u3.map fun _ _ z => At2.upd (z.same s4) k4).app (.cons (At2.upd ⟨pT, rfl, .inl (.inl g4)⟩ k4) .nil)
        · obtain ⟨u1, vs', u2, u3⟩ := z
          rw [lu, List.take_length] at u3
          refine ⟨pE, vs', rfl, .inl (.inl u2), fun pU H4 nU s4 g4 => ?_⟩
          have k4 := (u1.trans s4) _ _ t2
          refine ⟨vs, k4, ?_, fun c o e => ?_, vs ++ [.ref pU], upd_same, ?_⟩
          · have := t3.length
            rw [List.length_map, List.length_take] at this
            rw [sizeLine_eq]
            omega
          · rw [upd_ne (ne_of_none e nO)]; exact (t1.trans (u1.trans s4)) _ _ e
          · rw [List.take_succ, hps, Option.toList_some, List.map_append]
            exact (t3.map fun _ _ z => AtPath.upd (AtPath.same z (u1.trans s4)) k4).app (.cons (AtPath.upd ⟨pU, vs', rfl, .inl (.inl g4), u3.map fun _ _ z => z.same s4⟩ k4) .nil)
      · obtain ⟨t1, vs, t2, t3⟩ := z
        rw [lws, List.take_length] at t3
        refine ⟨pO, vs, rfl, .inl (.inl t2), fun pU H4 nU s4 g4 => ?_⟩
        refine q _ _ _ (TH.trans (Step.of TH.deck (t1.trans s4))) ⟨pU, vs, rfl, .inl (.inl g4), t3.map fun _ _ z => AtPath.same z s4⟩ ⟨by rw [List.length_map]; omega, fun qs hq => ?_⟩
        obtain ⟨ps, hp, rfl⟩ := List.mem_map.mp hq
        obtain ⟨⟨z1, z2, z3⟩, z4⟩ := bC ps hp
        refine ⟨⟨fun z => z1 (List.map_eq_nil_iff.mp z), by rw [List.length_map]; exact z2, fun p hpp => ?_⟩, ?_⟩
        · obtain ⟨r, hr, rfl⟩ := List.mem_map.mp hpp
          obtain ⟨y1, y2, y3, y4⟩ := z3 r hr
          unfold BdN shf2
          simp only
          omega
        · refine List.Pairwise.map _ (fun a b hab h => hab ?_) z4
          unfold shf2 at h
          have h1 := congrArg Prod.fst h
          have h2 := congrArg Prod.snd h
          simp only at h1 h2
          exact Prod.ext (by omega) (by omega)

end
end Cl

set_option maxHeartbeats 0
namespace Cl
open PySem PySem.Spec PyProof.Rows L2
open GxR (TabB TabG)

theorem sgn_mul_neg {p q : Int} (hp : p < 0) (hq : 0 < q) : p * q < 0 := Int.mul_neg_of_neg_of_pos hp hq
theorem sq_pos {a : Int} (h : a ≠ 0) : 0 < a * a := by
  rcases Int.lt_or_gt_of_ne h with z | z
  · exact Int.mul_pos_of_neg_of_neg z z
  · exact Int.mul_pos z z
theorem sq_nn (a : Int) : 0 ≤ a * a := by
  by_cases h : a = 0
  · subst h; simp
  · exact Int.le_of_lt (sq_pos h)
/-- two ways u, v along one another, u ahead of v: nought lies between them just where they look apart -/
theorem between {a b p q : Int} (h : a * q - b * p = 0) (lt : a < p ∨ (a = p ∧ b < q)) :
    ((a < 0 ∨ (a = 0 ∧ b < 0)) ∧ (0 < p ∨ (0 = p ∧ 0 < q))) ↔ a * p + b * q < 0 := by
  have key : (a * p + b * q) * a = p * (a * a + b * b) := by grind
  constructor
  · rintro ⟨h1, h2⟩
    rcases h1 with h1 | ⟨h1, h1'⟩
    · rcases h2 with h2 | ⟨h2, h2'⟩
      · have s := sq_pos (a := a) (by omega)
        have s2 := sq_nn b
        have : 0 < p * (a * a + b * b) := Int.mul_pos h2 (by omega)
        rw [← key] at this
        refine Decidable.byContradiction fun z => ?_
        have := Int.mul_nonpos_of_nonneg_of_nonpos (a := a * p + b * q) (b := a) (by omega) (by omega)
        omega
      · subst h2
        have := sgn_mul_neg h1 h2'
        omega
    · subst h1
      have : b * p = 0 := by omega
      rcases Int.mul_eq_zero.mp this with z | z
      · omega
      · subst z
        have := sgn_mul_neg h1' (q := q) (by omega)
        omega
  · intro h0
    rcases Int.lt_trichotomy a 0 with z | z | z
    · have s := sq_pos (a := a) (by omega)
      have s2 := sq_nn b
      have : 0 < (a * p + b * q) * a := Int.mul_pos_of_neg_of_neg h0 z
      rw [key] at this
      refine ⟨.inl z, .inl (Decidable.byContradiction fun zz => ?_)⟩
      have := Int.mul_nonpos_of_nonpos_of_nonneg (a := p) (b := a * a + b * b) (by omega) (by omega)
      omega
    · subst z
      have hb : b ≠ 0 := fun z => by subst z; simp at h0
      have : b * p = 0 := by omega
      have hp : p = 0 := (Int.mul_eq_zero.mp this).resolve_left hb
      subst hp
      have hbq : b < q := by omega
      by_cases hb2 : b < 0
      · refine ⟨.inr ⟨rfl, hb2⟩, .inr ⟨rfl, Decidable.byContradiction fun z => ?_⟩⟩
        have := Int.mul_nonneg_of_nonpos_of_nonpos (a := b) (b := q) (by omega) (by omega)
        omega
      · exfalso
        have := Int.mul_pos (a := b) (b := q) (by omega) (by omega)
        omega
    · exfalso
      have s := sq_pos (a := a) (by omega)
      have s2 := sq_nn b
      have h1 : (a * p + b * q) * a < 0 := sgn_mul_neg h0 z
      have : 0 < p * (a * a + b * b) := Int.mul_pos (by omega) (by omega)
      omega
theorem onP_isOn {c : Pt} {l : Ln} (h : llt l.1 l.2 = true) : onP c l = isOn c l := by
  obtain ⟨⟨x, y⟩, z, w⟩ := l
  obtain ⟨u, v⟩ := c
  unfold llt at h
  simp only [decide_eq_true_eq] at h
  have e : sd ((x, y), (z, w)) (u, v) = trn (less (x, y) (u, v)) (less (z, w) (u, v)) := by
    unfold sd trn less
    simp only
    grind
  rw [Bool.eq_iff_iff]
  unfold onP isOn
  rw [e, Bool.and_eq_true, Bool.and_eq_true, Bool.and_eq_true, decide_eq_true_iff, decide_eq_true_iff]
  have key : trn (less (x, y) (u, v)) (less (z, w) (u, v)) = 0 → ((llt (x, y) (u, v) = true ∧ llt (u, v) (z, w) = true) ↔ (less (x, y) (u, v)).1 * (less (z, w) (u, v)).1 + (less (x, y) (u, v)).2 * (less (z, w) (u, v)).2 < 0) := fun h0 => by
    have h1 : (x - u) * (w - v) - (y - v) * (z - u) = 0 := h0
    have b := between h1 (by omega)
    refine Iff.trans ?_ b
    unfold llt
    rw [decide_eq_true_iff, decide_eq_true_iff]
    show (x < u ∨ x = u ∧ y < v) ∧ (u < z ∨ u = z ∧ v < w) ↔ _
    omega
  constructor
  · rintro ⟨h1, h2, h3⟩
    exact ⟨h3, (key h3).mp ⟨h1, h2⟩⟩
  · rintro ⟨h1, h2⟩
    obtain ⟨h3, h4⟩ := (key h1).mpr h2
    exact ⟨h3, h4, h1⟩
theorem one_sp3 {e : Pt} {n m d : Int} (hd : 0 < d) : one3 e = sp3 n m d ↔ e.1 * d = n ∧ e.2 * d = m := by
  have := end_eq (e := e) (u := (n, m, d)) hd
  rw [decide_eq_decide] at this
  refine (show _ ↔ _ from this).trans ?_
  rw [Prod.mk.injEq]
theorem llt_iff {p q : Pt} : llt p q = true ↔ p.1 < q.1 ∨ (p.1 = q.1 ∧ p.2 < q.2) := by
  unfold llt
  rw [decide_eq_true_iff]
theorem pos_lt {m a : Int} (hm : 0 < m) (h : 0 < m * a) : 0 < a := by
  refine Decidable.byContradiction fun z => ?_
  have := Int.mul_nonpos_of_nonneg_of_nonpos (a := m) (b := a) (by omega) (by omega)
  omega
theorem mul_z {m a : Int} (hm : 0 < m) (h : m * a = 0) : a = 0 := (Int.mul_eq_zero.mp h).resolve_left (by omega)
/-- a way that is a sum of two ways on, so many times, goes on -/
theorem lex_sum {m s t x y a b c d : Int} (hm : 0 < m) (hs : 0 < s) (ht : 0 < t) (e1 : m * x = s * a + t * c) (e2 : m * y = s * b + t * d)
    (h1 : 0 < a ∨ (0 = a ∧ 0 < b)) (h2 : 0 < c ∨ (0 = c ∧ 0 < d)) : 0 < x ∨ (0 = x ∧ 0 < y) := by
  by_cases z : 0 < a ∨ 0 < c
  · refine .inl (pos_lt hm ?_)
    rw [e1]
    have ha : 0 ≤ a := by omega
    have hc : 0 ≤ c := by omega
    have k1 := Int.mul_nonneg (Int.le_of_lt hs) ha
    have k2 := Int.mul_nonneg (Int.le_of_lt ht) hc
    rcases z with z | z
    · have := Int.mul_pos hs z; omega
    · have := Int.mul_pos ht z; omega
  · have ha : a = 0 := by omega
    have hc : c = 0 := by omega
    subst ha hc
    refine .inr ⟨(mul_z hm (by rw [e1]; simp)).symm, pos_lt hm ?_⟩
    rw [e2]
    have := Int.mul_pos hs (show 0 < b by omega)
    have := Int.mul_pos ht (show 0 < d by omega)
    omega
theorem seg_in {m t : Int} {r1 r2 c : Pt} (h0 : 0 < t) (h1 : t < m) (e1 : m * (c.1 - r1.1) = t * (r2.1 - r1.1)) (e2 : m * (c.2 - r1.2) = t * (r2.2 - r1.2)) (lt : llt r1 r2 = true) :
    llt r1 c = true ∧ llt c r2 = true := by
  rw [llt_iff] at *
  rw [llt_iff]
  have hm : 0 < m := by omega
  have v : 0 < r2.1 - r1.1 ∨ (0 = r2.1 - r1.1 ∧ 0 < r2.2 - r1.2) := by omega
  have a := lex_sum (m := m) (s := t) (t := t) (x := 2 * (c.1 - r1.1)) (y := 2 * (c.2 - r1.2)) hm h0 h0 (by grind) (by grind) v v
  have b := lex_sum (m := m) (s := m - t) (t := m - t) (x := 2 * (r2.1 - c.1)) (y := 2 * (r2.2 - c.2)) hm (by omega) (by omega) (by grind) (by grind) v v
  omega
theorem at_endp {m : Int} {p q : Pt} (hm : 0 < m) (e1 : m * (p.1 - q.1) = 0) (e2 : m * (p.2 - q.2) = 0) : p = q := by
  have := mul_z hm e1
  have := mul_z hm e2
  exact Prod.ext (by omega) (by omega)
theorem sd_prod {f a m : Int} (hf : f = 1 ∨ f = -1) (ha : 0 ≤ m) : (a * f) * ((a - m) * f) < 0 ↔ 0 < a ∧ a < m := by
  have e : (a * f) * ((a - m) * f) = a * (a - m) := by rcases hf with rfl | rfl <;> grind
  rw [e]
  constructor
  · intro h
    refine ⟨Decidable.byContradiction fun z => ?_, Decidable.byContradiction fun z => ?_⟩
    · have := Int.mul_nonneg_of_nonpos_of_nonpos (a := a) (b := a - m) (by omega) (by omega)
      omega
    · have := Int.mul_nonneg (a := a) (b := a - m) (by omega) (by omega)
      omega
  · rintro ⟨h1, h2⟩
    exact Int.mul_neg_of_pos_of_neg h1 (by omega)
theorem dc_across {l r : Ln} (hl : llt l.1 l.2 = true) (hr : llt r.1 r.2 = true) (n1 : onP r.1 l = false) (n2 : onP r.2 l = false) (n3 : onP l.1 r = false) (n4 : onP l.2 r = false)
    (h : trn (less l.2 l.1) (less r.2 r.1) ≠ 0) : dcB l r = hitP l r := by
  have hf : kfs l r = 1 ∨ kfs l r = -1 := by unfold kfs; split <;> simp
  have hM : 0 < (klm l r).2.2 := by
    show 0 < trn (less l.2 l.1) (less r.2 r.1) * kfs l r
    unfold kfs
    split <;> omega
  have eK : sd r l.1 = (klm l r).1 * kfs l r := by
    show _ = trn (less r.1 l.1) (less r.2 r.1) * kfs l r * kfs l r
    unfold sd trn less
    rcases hf with e | e <;> rw [e] <;> simp only <;> grind
  have eKM : sd r l.2 = ((klm l r).1 - (klm l r).2.2) * kfs l r := by
    show _ = (trn (less r.1 l.1) (less r.2 r.1) * kfs l r - trn (less l.2 l.1) (less r.2 r.1) * kfs l r) * kfs l r
    unfold sd trn less
    rcases hf with e | e <;> rw [e] <;> simp only <;> grind
  have eJ : sd l r.1 = -((klm l r).2.1 * kfs l r) := by
    show _ = -(trn (less r.1 l.1) (less l.2 l.1) * kfs l r * kfs l r)
    unfold sd trn less
    rcases hf with e | e <;> rw [e] <;> simp only <;> grind
  have eJM : sd l r.2 = -(((klm l r).2.1 - (klm l r).2.2) * kfs l r) := by
    show _ = -((trn (less r.1 l.1) (less l.2 l.1) * kfs l r - trn (less l.2 l.1) (less r.2 r.1) * kfs l r) * kfs l r)
    unfold sd trn less
    rcases hf with e | e <;> rw [e] <;> simp only <;> grind
  have i1 : (klm l r).2.2 * l.1.1 + (klm l r).1 * (l.2.1 - l.1.1) = (klm l r).2.2 * r.1.1 + (klm l r).2.1 * (r.2.1 - r.1.1) := by
    unfold klm trn less
    simp only
    grind
  have i2 : (klm l r).2.2 * l.1.2 + (klm l r).1 * (l.2.2 - l.1.2) = (klm l r).2.2 * r.1.2 + (klm l r).2.1 * (r.2.2 - r.1.2) := by
    unfold klm trn less
    simp only
    grind
  have pl : prtB r l = decide (0 < (klm l r).1 ∧ (klm l r).1 < (klm l r).2.2) := by
    unfold prtB
    rw [eK, eKM, decide_eq_decide]
    exact sd_prod hf (Int.le_of_lt hM)
  have pr : prtB l r = decide (0 < (klm l r).2.1 ∧ (klm l r).2.1 < (klm l r).2.2) := by
    unfold prtB
    rw [eJ, eJM, Int.neg_mul_neg, decide_eq_decide]
    exact sd_prod hf (Int.le_of_lt hM)
  have ec : cmn l r = acr l r := by unfold cmn; rw [if_pos h]
  have ea : acr l r = if (0 ≤ (klm l r).1 ∧ (klm l r).1 ≤ (klm l r).2.2) ∧ (0 ≤ (klm l r).2.1 ∧ (klm l r).2.1 ≤ (klm l r).2.2) then
    [sp3 ((klm l r).2.2 * l.1.1 + (klm l r).1 * (l.2.1 - l.1.1)) ((klm l r).2.2 * l.1.2 + (klm l r).1 * (l.2.2 - l.1.2)) (klm l r).2.2] else [] := rfl
  unfold dcB hitP acB
  rw [ec, ea, pl, pr]
  generalize (klm l r).1 = k at *
  generalize (klm l r).2.1 = j at *
  generalize (klm l r).2.2 = m at *
  rw [llt_iff] at hl hr
  by_cases hin : (0 ≤ k ∧ k ≤ m) ∧ (0 ≤ j ∧ j ≤ m)
  · rw [if_pos hin]
    show (!endX l r _) = _
    have x1 : ∀ e : Pt, one3 e = sp3 (m * l.1.1 + k * (l.2.1 - l.1.1)) (m * l.1.2 + k * (l.2.2 - l.1.2)) m ↔ m * (e.1 - l.1.1) = k * (l.2.1 - l.1.1) ∧ m * (e.2 - l.1.2) = k * (l.2.2 - l.1.2) := fun e => by
      rw [one_sp3 hM]
      constructor <;> rintro ⟨a, b⟩ <;> constructor <;> grind
    have sd0 : ∀ {a : Ln} {c : Pt} {t : Int}, m * (c.1 - a.1.1) = t * (a.2.1 - a.1.1) → m * (c.2 - a.1.2) = t * (a.2.2 - a.1.2) → sd a c = 0 := fun {a c t} e1 e2 => by
      refine mul_z hM ?_
      unfold sd trn less
      simp only
      grind
    have hon : ∀ {a : Ln} {c : Pt} {t : Int}, llt a.1 a.2 = true → 0 < t → t < m → m * (c.1 - a.1.1) = t * (a.2.1 - a.1.1) → m * (c.2 - a.1.2) = t * (a.2.2 - a.1.2) → onP c a = true := fun {a c t} ha h0 h1 e1 e2 => by
      obtain ⟨b1, b2⟩ := seg_in h0 h1 e1 e2 ha
      unfold onP
      rw [b1, b2, sd0 e1 e2]
      rfl
    rw [← llt_iff] at hl hr
    by_cases hp : (0 < j ∧ j < m) ∧ (0 < k ∧ k < m)
    · rw [decide_eq_true hp.1, decide_eq_true hp.2]
      have h1 : llt r.1 l.2 = true := by
        rw [llt_iff] at *
        have := lex_sum (m := m) (s := j) (t := m - k) (x := l.2.1 - r.1.1) (y := l.2.2 - r.1.2) (a := r.2.1 - r.1.1) (b := r.2.2 - r.1.2) (c := l.2.1 - l.1.1) (d := l.2.2 - l.1.2) hM hp.1.1 (by omega) (by grind) (by grind) (by omega) (by omega)
        omega
      rw [h1]
      have h2 : endX l r (sp3 (m * l.1.1 + k * (l.2.1 - l.1.1)) (m * l.1.2 + k * (l.2.2 - l.1.2)) m) = false := by
        unfold endX
        rw [List.any_eq_false]
        intro e he hh
        rw [Bool.and_eq_true, decide_eq_true_iff, decide_eq_true_iff, x1] at hh
        obtain ⟨_, f1, f2⟩ := hh
        have hs := seg_in hp.2.1 hp.2.2 f1 f2 hl
        rw [llt_iff, llt_iff] at hs
        simp only [List.mem_cons, List.not_mem_nil, or_false] at he
        rcases he with rfl | rfl <;> omega
      rw [h2]
      rfl
    · have h0 : (decide (0 < j ∧ j < m) && decide (0 < k ∧ k < m)) = false := by
        rw [Bool.and_eq_false_iff, decide_eq_false_iff_not, decide_eq_false_iff_not]
        omega
      rw [h0, Bool.and_false]
      have h2 : endX l r (sp3 (m * l.1.1 + k * (l.2.1 - l.1.1)) (m * l.1.2 + k * (l.2.2 - l.1.2)) m) = true := by
        have fin : ∀ e : Pt, e ∈ [l.1, l.2] → e ∈ [r.1, r.2] → m * (e.1 - l.1.1) = k * (l.2.1 - l.1.1) → m * (e.2 - l.1.2) = k * (l.2.2 - l.1.2) → endX l r (sp3 (m * l.1.1 + k * (l.2.1 - l.1.1)) (m * l.1.2 + k * (l.2.2 - l.1.2)) m) = true := fun e he her f1 f2 => by
          unfold endX
          refine List.any_eq_true.mpr ⟨e, he, ?_⟩
          rw [Bool.and_eq_true, decide_eq_true_iff, decide_eq_true_iff, x1]
          exact ⟨her, f1, f2⟩
        have notin : ∀ {a : Ln} {c : Pt} {t : Int}, llt a.1 a.2 = true → onP c a = false → 0 ≤ t → t ≤ m → m * (c.1 - a.1.1) = t * (a.2.1 - a.1.1) → m * (c.2 - a.1.2) = t * (a.2.2 - a.1.2) → c ∈ [a.1, a.2] := fun {a c t} ha nn h0 h1 e1 e2 => by
          by_cases z : 0 < t ∧ t < m
          · have := hon ha z.1 z.2 e1 e2
            rw [nn] at this
            cases this
          · have : t = 0 ∨ t = m := by omega
            rcases this with rfl | rfl
            · have : c = a.1 := at_endp hM (by rw [e1]; simp) (by rw [e2]; simp)
              rw [this]
              exact List.mem_cons_self
            · have : c = a.2 := at_endp hM (by grind) (by grind)
              rw [this]
              exact List.mem_cons_of_mem _ List.mem_cons_self
        by_cases hk : k = 0
        · subst hk
          exact fin l.1 List.mem_cons_self (notin (t := j) hr n3 (by omega) (by omega) (by grind) (by grind)) (by grind) (by grind)
        · by_cases hk2 : k = m
          · subst hk2
            exact fin l.2 (List.mem_cons_of_mem _ List.mem_cons_self) (notin (t := j) hr n4 (by omega) (by omega) (by grind) (by grind)) (by grind) (by grind)
          · exfalso
            have : j = 0 ∨ j = m := by omega
            rcases this with rfl | rfl
            · have := hon (c := r.1) (t := k) hl (by omega) (by omega) (by grind) (by grind)
              rw [n1] at this
              cases this
            · have := hon (c := r.2) (t := k) hl (by omega) (by omega) (by grind) (by grind)
              rw [n2] at this
              cases this
      rw [h2]
      rfl
  · rw [if_neg hin]
    have h0 : (decide (0 < j ∧ j < m) && decide (0 < k ∧ k < m)) = false := by
      rw [Bool.and_eq_false_iff, decide_eq_false_iff_not, decide_eq_false_iff_not]
      omega
    rw [h0, Bool.and_false]
theorem llt_none {p q : Pt} : llt p q = false ↔ ¬ (p.1 < q.1 ∨ (p.1 = q.1 ∧ p.2 < q.2)) := by
  unfold llt
  rw [decide_eq_false_iff_not]
theorem col_of {a b c d : Int} {x y : Int} (h1 : a * d - b * c = 0) (nz : a ≠ 0 ∨ b ≠ 0) (h2 : a * y - b * x = 0) : c * y - d * x = 0 := by
  rcases nz with z | z
  · have : a * (c * y - d * x) = 0 := by grind
    exact (Int.mul_eq_zero.mp this).resolve_left z
  · have : b * (c * y - d * x) = 0 := by grind
    exact (Int.mul_eq_zero.mp this).resolve_left z
theorem on_mk {c : Pt} {a : Ln} (h1 : llt a.1 c = true) (h2 : llt c a.2 = true) (h3 : sd a c = 0) : onP c a = true := by
  unfold onP
  rw [h1, h2, h3]
  rfl
theorem dc_along {l r : Ln} (hl : llt l.1 l.2 = true) (hr : llt r.1 r.2 = true) (ne : l ≠ r) (n1 : onP r.1 l = false) (n2 : onP r.2 l = false) (n3 : onP l.1 r = false) (n4 : onP l.2 r = false)
    (h : trn (less l.2 l.1) (less r.2 r.1) = 0) : dcB l r = hitP l r := by
  have hh : hitP l r = false := by
    have e : sd r l.2 = sd r l.1 := by
      unfold sd trn less at *
      simp only at *
      grind
    unfold hitP acB prtB
    rw [e]
    have := sq_nn (sd r l.1)
    have e2 : decide (sd r l.1 * sd r l.1 < 0) = false := decide_eq_false (by omega)
    rw [e2, Bool.and_false, Bool.and_false]
  rw [hh]
  unfold dcB cmn
  rw [if_neg (by rw [Decidable.not_not]; exact h)]
  by_cases h2 : trn (less l.2 l.1) (less r.1 l.1) = 0
  · rw [if_neg (by rw [Decidable.not_not]; exact h2)]
    have nzl : l.2.1 - l.1.1 ≠ 0 ∨ l.2.2 - l.1.2 ≠ 0 := by rw [llt_iff] at hl; omega
    have s1 : sd l r.1 = 0 := h2
    have s2 : sd l r.2 = 0 := by
      unfold sd trn less at *
      simp only at *
      grind
    have s3 : sd r l.1 = 0 := by
      have hq := col_of (a := l.2.1 - l.1.1) (b := l.2.2 - l.1.2) (c := r.2.1 - r.1.1) (d := r.2.2 - r.1.2) (x := l.1.1 - r.1.1) (y := l.1.2 - r.1.2) h nzl (by
        unfold trn less at h2
        simp only at h2
        grind)
      exact hq
    have s4 : sd r l.2 = 0 := by
      unfold sd trn less at *
      simp only at *
      grind
    have a1 : ¬ (llt l.1 r.1 = true ∧ llt r.1 l.2 = true) := fun z => by have := on_mk z.1 z.2 s1; rw [n1] at this; cases this
    have a2 : ¬ (llt l.1 r.2 = true ∧ llt r.2 l.2 = true) := fun z => by have := on_mk z.1 z.2 s2; rw [n2] at this; cases this
    have a3 : ¬ (llt r.1 l.1 = true ∧ llt l.1 r.2 = true) := fun z => by have := on_mk z.1 z.2 s3; rw [n3] at this; cases this
    have a4 : ¬ (llt r.1 l.2 = true ∧ llt l.2 r.2 = true) := fun z => by have := on_mk z.1 z.2 s4; rw [n4] at this; cases this
    clear s1 s2 s3 s4 n1 n2 n3 n4 h h2 hh nzl
    obtain ⟨⟨x1, y1⟩, x2, y2⟩ := l
    obtain ⟨⟨x3, y3⟩, x4, y4⟩ := r
    have ne2 : ¬ ((x1 = x3 ∧ y1 = y3) ∧ x2 = x4 ∧ y2 = y4) := by
      rintro ⟨⟨rfl, rfl⟩, rfl, rfl⟩
      exact ne rfl
    rw [llt_iff, llt_iff] at a1 a2 a3 a4
    rw [llt_iff] at hl hr
    simp only at hl hr a1 a2 a3 a4
    have f1 : llt (x2, y2) (x1, y1) = false := by rw [llt_none]; simp only; omega
    have f2 : llt (x4, y4) (x3, y3) = false := by rw [llt_none]; simp only; omega
    have f3 : llt (x1, y1) (x2, y2) = true := by rw [llt_iff]; exact hl
    have f4 : llt (x3, y3) (x4, y4) = true := by rw [llt_iff]; exact hr
    have cs : ((x2 < x3 ∨ x2 = x3 ∧ y2 < y3) ∨ (x4 < x1 ∨ x4 = x1 ∧ y4 < y1)) ∨ (x2 = x3 ∧ y2 = y3) ∨ (x4 = x1 ∧ y4 = y1) := by omega
    clear a1 a2 a3 a4 ne2
    have elo : lo ((x1, y1), (x2, y2)) ((x3, y3), (x4, y4)) = mx (x1, y1) (x3, y3) := by
      unfold lo mn
      simp only [f1, f2]
      rfl
    have ehi : hi ((x1, y1), (x2, y2)) ((x3, y3), (x4, y4)) = mn (x2, y2) (x4, y4) := by
      unfold hi mx
      simp only [f3, f4]
      rfl
    unfold alo
    rw [elo, ehi]
    rcases cs with (z | z) | ⟨rfl, rfl⟩ | ⟨rfl, rfl⟩
    · have g1 : llt (x1, y1) (x3, y3) = true := by rw [llt_iff]; simp only; omega
      have g2 : llt (x4, y4) (x2, y2) = false := by rw [llt_none]; simp only; omega
      have g3 : llt (x2, y2) (x3, y3) = true := by rw [llt_iff]; simp only; omega
      unfold mx mn
      simp [g1, g2, g3]
    · have g1 : llt (x1, y1) (x3, y3) = false := by rw [llt_none]; simp only; omega
      have g2 : llt (x4, y4) (x2, y2) = true := by rw [llt_iff]; simp only; omega
      have g3 : llt (x4, y4) (x1, y1) = true := by rw [llt_iff]; simp only; omega
      unfold mx mn
      simp [g1, g2, g3]
    · have g1 : llt (x1, y1) (x2, y2) = true := by rw [llt_iff]; simp only; omega
      have g2 : llt (x4, y4) (x2, y2) = false := by rw [llt_none]; simp only; omega
      have g3 : llt (x2, y2) (x2, y2) = false := by rw [llt_none]; simp only; omega
      unfold mx mn
      simp [g1, g2, g3, endX, one3]
    · have g1 : llt (x4, y4) (x3, y3) = false := by rw [llt_none]; simp only; omega
      have g2 : llt (x4, y4) (x2, y2) = true := by rw [llt_iff]; simp only; omega
      have g3 : llt (x4, y4) (x4, y4) = false := by rw [llt_none]; simp only; omega
      unfold mx mn
      simp [g1, g2, g3, endX, one3]
  · rw [if_pos h2]
theorem dc_hit {l r : Ln} (hl : llt l.1 l.2 = true) (hr : llt r.1 r.2 = true) (ne : l ≠ r) (n1 : onP r.1 l = false) (n2 : onP r.2 l = false) (n3 : onP l.1 r = false) (n4 : onP l.2 r = false) : dcB l r = hitP l r := by
  by_cases h : trn (less l.2 l.1) (less r.2 r.1) = 0
  · exact dc_along hl hr ne n1 n2 n3 n4 h
  · exact dc_across hl hr n1 n2 n3 n4 h

end Cl

set_option maxHeartbeats 0
/-! sorted(list, key=lambda a: ..): any body, keys data -/
namespace Cl
open PySem PySem.Spec PyProof.Rows L2
/-- the heap without the object at a -/
def offH (h : Heap) (a : Addr) : Heap := h.update a fun o => { o with data := .freed }
theorem offH_ne {h : Heap} {a b : Addr} (n : b ≠ a) : (offH h a).get? b = h.get? b := Heap.get?_update_ne _ _ _ _ n
theorem offH_at {h : Heap} {a : Addr} : (offH h a).get? a = none := by
  unfold offH Heap.get? Heap.update
  simp only [Array.getElem?_modify, if_true]
  cases h.objs[a]? with
  | none => rfl
  | some o => rfl
section
variable {X : Cx} {pins : List (Addr × Obj)} {σ : L2.St} {H : Hp} {s : Shared}
theorem inv_adopt {a kS : Addr} {h' : Heap} {tk : Nat} {L : List V} {out : Array Value} {c : Nat} (I : Inv X pins σ H s) (fa : FpOk X pins H a) (fk : FpOk X pins H kS) (k : ∀ b o, b ≠ a → b ≠ kS → s.heap.get? b = some o → h'.get? b = some o)
    (ha : h'.get? a = some (seqObj "list" out c)) (hv : Vals L out.toList) (hl : L.length ≤ sizeLine) : Inv X pins σ (upd H a (.lst L)) { s with heap := h', toks := tk } := by
  obtain ⟨na, a1, a2, a3, a4, a5⟩ := fa
  obtain ⟨nk, k1, k2, k3, k4, k5⟩ := fk
  have nx : ∀ {b : Addr}, b ∉ [a, kS] → b ≠ a ∧ b ≠ kS := fun h => ⟨fun z => h (by simp [z]), fun z => h (by simp [z])⟩
  have neA : ∀ {b : Addr} {u : HO}, H b = some u → b ≠ a := fun e => ne_of_none e na
  have neK : ∀ {b : Addr} {u : HO}, H b = some u → b ≠ kS := fun e => ne_of_none e nk
  refine I.step (g' := s.gens) (d' := s.drawn) (ch := [a, kS]) (fun b hb => ?_) (fun b o _ _ hc e _ => k b o (nx hc).1 (nx hc).2 e) (fun b o _ _ hc e _ => ⟨o.slots, k b o (nx hc).1 (nx hc).2 e⟩)
    (fun b o hc e n => by rw [upd_ne (nx hc).1]; exact n) (fun b o hc e => ⟨o, k b o (nx hc).1 (nx hc).2 e⟩) (fun b xs e => by rw [upd_ne (neA e)]; exact e) (fun b o u e => by rw [upd_ne (neA e)]; exact e)
    (fun b ps e => ⟨#[], by rw [upd_ne (neA e), e]; simp⟩) (fun m hm => ?_) (fun b u e => ?_) I.bare
  · rcases List.mem_cons.mp hb with rfl | hb
    · exact ⟨a3, a1, a4, a5⟩
    · rw [List.mem_singleton.mp hb]
      exact ⟨k3, k1, k4, k5⟩
  · obtain ⟨o, es, ep, ho, r⟩ := hm
    exact ⟨o, es, ep, k _ o a1.symm k1.symm ho, r⟩
  · by_cases hb : b = a
    · rw [hb, upd_same] at e
      cases e
      rw [hb]
      exact ⟨hl, out.toList, c, hv, ha⟩
    · rw [upd_ne hb] at e
      refine (I.hok b u e).stay (fun d v hd q => k d v ?_ ?_ q) (fun d q => by rw [upd_ne (neA q)]; exact q) fun d xs q => by rw [upd_ne (neA q)]; exact q
      · rcases hd with z | z
        · rw [z]; exact hb
        · exact neA z
      · rcases hd with z | z
        · rw [z]; exact neK e
        · exact neK z
theorem dps_each {H : Hp} {s : Shared} (I : Inv X pins σ H s) : ∀ {ks : List V} {kz : List PyData} {us : List Value}, DpAll X.K H ks kz → Vals ks us → PySem.W.EachIs (fun v k => ∃ as, Reads s.heap v k as) us kz
  | _, _, _, .nil, .nil => .nil
  | _, _, _, .cons h t, .cons r rr => .cons (Dp.reads I _ _ _ h r) (dps_each I t rr)
theorem seqS {K : PySem.W.Frag} {H H' : Hp} {a : Addr} {xs : List V} (s : Same H H') (h : SqL K H a xs) : SqL K H' a xs := by
  rcases h with (h | ⟨o, h⟩) | h
  · exact .inl (.inl (s _ _ h))
  · exact .inl (.inr ⟨o, s _ _ h⟩)
  · exact .inr h
mutual
theorem dp_same {K : PySem.W.Frag} {H H' : Hp} (s : Same H H') : ∀ {d : PyData} {v : V}, Dp K H v d → Dp K H' v d
  | .none, _, h => by cases h; exact .non
  | .bool b, _, h => by cases h; exact .bl b
  | .int i, _, h => by cases h; exact .int i
  | .str x, _, h => by cases h; exact .str x
  | .list ds, _, h => by
    cases h with
    | lst h1 h2 => exact .lst (seqS s h1) (dps_same s h2)
  | .tuple ds, _, h => by
    cases h with
    | tup h1 h2 => exact .tup (seT s h1) (dps_same s h2)
  | .dict ds, _, h => by cases h
theorem dps_same {K : PySem.W.Frag} {H H' : Hp} (s : Same H H') : ∀ {ds : List PyData} {vs : List V}, DpAll K H vs ds → DpAll K H' vs ds
  | [], _, h => by cases h; exact .nil
  | d :: ds, _, h => by
    cases h with
    | cons h1 h2 => exact .cons (dp_same s h1) (dps_same s h2)
end
theorem dps_app {K : PySem.W.Frag} {H : Hp} : ∀ {vs ws : List V} {ds es : List PyData}, DpAll K H vs ds → DpAll K H ws es → DpAll K H (vs ++ ws) (ds ++ es)
  | _, _, _, _, .nil, h => h
  | _, _, _, _, .cons h t, h2 => .cons h (dps_app t h2)
theorem dps_len {K : PySem.W.Frag} {H : Hp} : ∀ {vs : List V} {ds : List PyData}, DpAll K H vs ds → vs.length = ds.length
  | _, _, .nil => rfl
  | _, _, .cons h t => by rw [List.length_cons, List.length_cons, dps_len t]
theorem keyI_rest {f : Value} {a kS : Addr} {e1 : Nat} {vs : List V} {us : List Value} {kz : List PyData} {A2 : Around} {P : PySem.Fin → Shared → Prop} {E : Value → Shared → Prop} (I : Inv X pins σ H s) (rv : Vals vs us)
    (fa : ∀ H', H' a = none → FpOk X pins H' a) (fk : ∀ H', H' kS = none → FpOk X pins H' kS) (na : H a = none) (nk : H kS = none) (hka : kS ≠ a)
    (gk : s.heap.get? kS = some (seqObj "list" #[] 0)) (ga : s.heap.get? a = some (seqObj "list" #[] e1))
    (hlen : kz.length = vs.length) (hZ : vs.length ≤ sizeLine) (hal : PySem.W.AllAlike kz) (hsk : PySem.W.Sortable kz) (hu : ∀ d, d ∈ kz → A2.units + d.depth < cLine)
    (turn : ∀ (i : Nat) (x : V) (u : Value) (k : PyData) (pins' : List (Addr × Obj)) (H1 : Hp) (s1 : Shared), vs[i]? = some x → kz[i]? = some k → RelV x u → Inv X pins' σ H1 s1 → Same H H1 →
      wpAny (model X.prog X.w) A2 (call f [u]) (EP X pins' σ (fun y H' => Dp X.K H' y k ∧ Same H1 H')) (fun _ _ => False) s1)
    (h : ∀ (H1 : Hp) (s1 : Shared) (h' : Heap) (tk : Nat) (out : List Value) (c : Nat), Inv X pins σ H1 s1 → Same H H1 → H1 a = none → H1 kS = none → (∀ b o, b ≠ a → b ≠ kS → s1.heap.get? b = some o → h'.get? b = some o) → h'.get? a = some (seqObj "list" out.toArray c) →
      PySem.W.KeyedOut false kz us out → P (.done (.ret .none)) { s1 with heap := h', toks := tk }) :
    wpAny (model X.prog X.w) A2 (ksk_rest a f false us.toArray e1 (.ref kS)) P E s := by
  have lu : us.length = vs.length := rv.length.symm
  unfold ksk_rest
  refine wpAny_bind (wpAny_rule ?_)
  first
    | rw [List.forIn_toArray]
    | (rw [← Array.forIn_toList]; simp only [List.toList_toArray])
    | rw [← Array.forIn_toList]
  have fine : ∀ {kA : Array Value} {e : Nat} {H' : Hp} {s' : Shared}, Inv X pins σ H' s' → H' kS = none → H' a = none → s'.heap.get? kS = some (seqObj "list" kA e) → s'.heap.get? a = some (seqObj "list" #[] e1) → Inv X (pins ++ [(kS, seqObj "list" kA e), (a, seqObj "list" #[] e1)]) σ H' s' := fun {kA e H' s'} J n1 n2 g1 g2 => J.pins_of fun p hp => by
    rcases List.mem_append.mp hp with hp | hp
    · exact J.pin p (List.mem_append_right _ hp)
    · rcases List.mem_cons.mp hp with rfl | hp
      · obtain ⟨_, q1, q2, _⟩ := fk H' n1
        exact ⟨g1, n1, q1, q2, fun v z => nomatch z⟩
      · rw [List.mem_singleton.mp hp]
        obtain ⟨_, q1, q2, _⟩ := fa H' n2
        exact ⟨g2, n2, q1, q2, fun v z => nomatch z⟩
  refine wpAny_bind (ksk_fold (fun i s' => ∃ (H' : Hp) (kA : Array Value) (e : Nat) (ks : List V), Inv X pins σ H' s' ∧ Same H H' ∧ H' a = none ∧ H' kS = none ∧ s'.heap.get? kS = some (seqObj "list" kA e) ∧ s'.heap.get? a = some (seqObj "list" #[] e1) ∧ Vals ks kA.toList ∧ DpAll X.K H' ks (kz.take i)) us 0 s
    ⟨H, #[], 0, [], I, .refl _, na, nk, gk, ga, .nil, by rw [List.take_zero]; exact .nil⟩ ?step ?done)
  case step =>
    rintro j u s' hx ⟨H', kA, e, ks, J, sm, na', nk', gk', ga', rk, dk⟩
    simp only [Nat.zero_add] at dk ⊢
    have hj : j < us.length := (List.getElem?_eq_some_iff.mp hx).1
    obtain ⟨k, hkj⟩ : ∃ k, kz[j]? = some k := ⟨_, List.getElem?_eq_getElem (by omega)⟩
    obtain ⟨x, hxj⟩ : ∃ x, vs[j]? = some x := ⟨_, List.getElem?_eq_getElem (by omega)⟩
    obtain ⟨u', eu, rel⟩ := rv.get hxj
    obtain rfl : u' = u := Option.some.inj (eu.symm.trans hx)
    have lk : kA.size ≤ vs.length := by
      have h1 := rk.length
      have h2 := dps_len dk
      rw [List.length_take] at h2
      rw [← Array.length_toList]
      omega
    refine wpAny_bind (wpAny_attempt (wpAny_mono (turn j x u' k _ H' s' hxj hkj rel (fine J nk' na' gk' ga') sm) (fun v s2 he => ?_) fun _ _ hF => hF.elim))
    obtain ⟨yv, H2, J2, ry, hd, sm2⟩ := he
    try dsimp only
    have pk := J2.pin (kS, seqObj "list" kA e) (List.mem_append_right _ (List.mem_append_right _ (.head _)))
    have pa := J2.pin (a, seqObj "list" #[] e1) (List.mem_append_right _ (List.mem_append_right _ (.tail _ (.head _))))
    have J3 : Inv X pins σ H2 s2 := J2.pins_of fun p hp => J2.pin p (List.mem_append_right _ (List.mem_append_left _ hp))
    obtain ⟨_, q1, q2, q3, q4, q5⟩ := fk H2 pk.2.1
    obtain ⟨c2, hc2⟩ : ∃ c2, (s2.heap.update kS (Obj.mapSeq (·.push v))).get? kS = some (seqObj "list" (kA.push v) c2) := ⟨_, get?_update_seq pk.1 (·.push v)⟩
    refine wpAny_bind (listUpdate_at pk.1 rfl ?_ (Nat.le_trans lk hZ) (Nat.le_trans (Nat.le_of_eq (Array.size_push ..)) (Nat.succ_le_succ (Nat.le_trans lk hZ))))
    have J4 := J3.turned (h' := s2.heap.update kS (Obj.mapSeq (·.push v))) (t' := s2.toks) (it := kS) (fun b o hb e => (Heap.get?_update_ne _ _ _ _ hb).trans e) pk.2.1 q1 q3 q4 q5
    refine wpAny_pure ⟨rfl, H2, kA.push v, c2, ks ++ [yv], J4, sm.trans sm2, pa.2.1, pk.2.1, hc2, (Heap.get?_update_ne _ _ _ _ hka.symm).trans pa.1, ?_, ?_⟩
    · rw [Array.toList_push]
      exact rk.append (.cons ry .nil)
    · rw [List.take_succ, hkj, Option.toList_some]
      exact dps_app (dps_same sm2 dk) (.cons hd .nil)
  case done =>
    rintro s' ⟨H', kA, e, ks, J, sm, na', nk', gk', ga', rk, dk⟩
    have e3 : kz.take (0 + us.length) = kz := List.take_of_length_le (by omega)
    rw [e3] at dk
    have hk' := dps_each J dk rk
    have hsz : kA.size = us.length := by
      have h1 := hk'.length
      rw [Array.length_toList] at h1
      omega
    try dsimp only
    refine wpAny_bind (listItems_at gk' rfl ?_)
    refine PySem.W.keyH_end (κ := PySem.W.dataKind s'.heap kz) (h₁ := offH s'.heap kS) (fun b o hb q => ?_) offH_at gk' ga' hka (PySem.W.SortsAt.data (s := s') hk' hal hsk hu) hsz (by rw [lu]; exact hZ) fun h3 tk3 c k3 n3 => ?_
    · by_cases hbk : b = kS
      · rw [hbk, offH_at] at q
        cases q
      · rw [offH_ne hbk] at q
        exact q
    · exact h H' s' h3 tk3 _ c J sm na' nk' (fun b o h1 h2 q => k3 b o h1 (by rw [offH_ne h2]; exact q)) n3 ⟨s'.heap, kA.toList, hal, rfl, hk'⟩
end
end Cl

set_option maxHeartbeats 0
namespace Cl
open PySem PySem.Spec PyProof.Rows L2
open GxR (TabB TabG)

def trd : Option (Pt × Ln) → Option (Ln × Ln) → PyData
  | some (c, l), _ => .tuple [.str "on", pd c, dl l]
  | none, some (l, r) => .tuple [.str "cross", dl l, dl r]
  | none, none => .none
theorem AtTr.dp {K : PySem.W.Frag} {H : Hp} {v : V} {o : Option (Pt × Ln)} {o2 : Option (Ln × Ln)} (h : AtTr K H v o o2) : Dp K H v (trd o o2) := by
  cases o with
  | some o =>
    obtain ⟨c, l⟩ := o
    obtain ⟨a, u, x, rfl, h1, h2, h3⟩ := h
    exact .tup h1 (.cons (.str _) (.cons h2.dp (.cons h3.dp .nil)))
  | none =>
    cases o2 with
    | some o =>
      obtain ⟨l, r⟩ := o
      obtain ⟨a, u, x, rfl, h1, h2, h3⟩ := h
      exact .tup h1 (.cons (.str _) (.cons h2.dp (.cons h3.dp .nil)))
    | none =>
      have h : v = .non := h
      rw [h]
      exact .non
def TrD (pss : List (List Pt)) (d : PyData) : Prop := ∃ cs ls, CrnOf pss cs ∧ ls.Nodup ∧ ls.Pairwise leL ∧ (∀ l, l ∈ ls ↔ l ∈ linksP pss) ∧ d = trd (firstOn onP ls cs) (firstP hitP ls)
theorem TrD.one {pss qss : List (List Pt)} {d d' : PyData} (h : TrD pss d) (h' : TrD qss d') (hc : ∀ c, c ∈ pss.flatMap id ↔ c ∈ qss.flatMap id) (hl : ∀ l, l ∈ linksP pss ↔ l ∈ linksP qss) : d = d' := by
  obtain ⟨cs, ls, c1, l1, l2, l3, rfl⟩ := h
  obtain ⟨cs', ls', c1', l1', l2', l3', rfl⟩ := h'
  obtain rfl : ls = ls' := links_unique l1 l1' l2 l2' fun l => (l3 l).trans ((hl l).trans (l3' l).symm)
  obtain rfl : cs = cs' := s2_unique c1.1 c1'.1 c1.2.1 c1'.2.1 fun c => (c1.2.2 c).trans ((hc c).trans (c1'.2.2 c).symm)
  rfl
theorem find_congr {α : Type} {p q : α → Bool} : ∀ {l : List α}, (∀ x ∈ l, p x = q x) → l.find? p = l.find? q
  | [], _ => rfl
  | a :: l, h => by
    have ih := find_congr fun x hx => h x (List.mem_cons_of_mem _ hx)
    rw [List.find?_cons, List.find?_cons, h a List.mem_cons_self, ih]
theorem firstOn_congr {f g : Pt → Ln → Bool} {ls : List Ln} : ∀ {cs : List Pt}, (∀ c ∈ cs, ∀ l ∈ ls, f c l = g c l) → firstOn f ls cs = firstOn g ls cs
  | [], _ => rfl
  | c :: cs, h => by
    unfold firstOn
    rw [find_congr (h c List.mem_cons_self), firstOn_congr fun c hc => h c (List.mem_cons_of_mem _ hc)]
theorem firstP_congr {f g : Ln → Ln → Bool} : ∀ {ls : List Ln}, ls.Pairwise (fun l r => f l r = g l r) → firstP f ls = firstP g ls
  | [], _ => rfl
  | l :: ls, h => by
    obtain ⟨h1, h2⟩ := List.pairwise_cons.mp h
    unfold firstP
    rw [find_congr h1, firstP_congr h2]
theorem firstOn_none {f : Pt → Ln → Bool} {ls : List Ln} : ∀ {cs : List Pt}, firstOn f ls cs = none → ∀ c ∈ cs, ∀ l ∈ ls, f c l = false
  | [], _ => fun c hc => nomatch hc
  | c :: cs, h => by
    unfold firstOn at h
    cases e : ls.find? (f c) with
    | some r => rw [e] at h; cases h
    | none =>
      rw [e] at h
      intro c' hc' l hl
      rcases List.mem_cons.mp hc' with rfl | z
      · exact Bool.eq_false_iff.mpr (List.find?_eq_none.mp e l hl)
      · exact firstOn_none h c' z l hl
theorem link_lt {pss : List (List Pt)} (nd : ∀ ps ∈ pss, ps.Nodup) {l : Ln} (h : l ∈ linksP pss) : llt l.1 l.2 = true := by
  obtain ⟨ps, hp, x, y, hh, e⟩ := mem_linksP.mp h
  obtain ⟨i, h1, h2⟩ := mem_halves.mp hh
  have ne : x ≠ y := fun z => by
    subst z
    have h3 := (List.getElem?_eq_some_iff.mp h1)
    have h4 := (List.getElem?_eq_some_iff.mp h2)
    obtain ⟨a1, a2⟩ := h3
    obtain ⟨b1, b2⟩ := h4
    have := (List.getElem_inj (nd ps hp)).mp (a2.trans b2.symm)
    omega
  rw [← e]
  unfold linkP
  cases e2 : llt x y with
  | true => exact e2
  | false =>
    show llt y x = true
    cases e3 : llt y x with
    | true => rfl
    | false => exact absurd (llt_both e3 e2) ne
theorem own_look {pss : List (List Pt)} {cs : List Pt} {ls : List Ln} (nd : ∀ ps ∈ pss, ps.Nodup) (crn : CrnOf pss cs) (ndl : ls.Nodup) (mem : ∀ l, l ∈ ls ↔ l ∈ linksP pss) :
    trd (firstOn isOn ls cs) (firstP dcB ls) = trd (firstOn onP ls cs) (firstP hitP ls) := by
  have lt : ∀ l ∈ ls, llt l.1 l.2 = true := fun l hl => link_lt nd ((mem l).mp hl)
  rw [firstOn_congr (g := onP) fun c _ l hl => (onP_isOn (lt l hl)).symm]
  cases e : firstOn onP ls cs with
  | some o => obtain ⟨c, l⟩ := o; rfl
  | none =>
    have no := firstOn_none e
    have ends : ∀ l ∈ ls, l.1 ∈ cs ∧ l.2 ∈ cs := fun l hl => by
      obtain ⟨ps, h1, h2, h3⟩ := link_pts ((mem l).mp hl)
      exact ⟨(crn.2.2 _).mpr (List.mem_flatMap.mpr ⟨ps, h1, h2⟩), (crn.2.2 _).mpr (List.mem_flatMap.mpr ⟨ps, h1, h3⟩)⟩
    rw [firstP_congr (g := hitP) (List.Pairwise.imp_of_mem (fun {l r} hl hr ne => dc_hit (lt l hl) (lt r hr) ne (no _ (ends r hr).1 l hl) (no _ (ends r hr).2 l hl) (no _ (ends l hl).1 r hr) (no _ (ends l hl).2 r hr)) ndl)]
theorem fi_on : Fi (.str "on") 0 6 := ⟨by decide, by decide, by decide, by decide, by decide⟩
theorem fi_cross : Fi (.str "cross") 0 6 := ⟨by decide, by decide, by decide, by decide, by decide⟩
theorem fine_trd {o : Option (Pt × Ln)} {o2 : Option (Ln × Ln)} (h : ∀ x, o = some x → BdN 10000000 x.1 ∧ BdN 10000000 x.2.1 ∧ BdN 10000000 x.2.2) (h2 : ∀ x, o2 = some x → (BdN 10000000 x.1.1 ∧ BdN 10000000 x.1.2) ∧ BdN 10000000 x.2.1 ∧ BdN 10000000 x.2.2) : Fine (trd o o2) := by
  have ok : ∀ {p : Pt}, BdN 10000000 p → okI p.1 ∧ okI p.2 := fun {p} b => by
    unfold BdN at b
    exact ⟨okI.of (by omega) (by omega), okI.of (by omega) (by omega)⟩
  cases o with
  | some o =>
    obtain ⟨c, l⟩ := o
    obtain ⟨b1, b2, b3⟩ := h _ rfl
    refine (Fi.tup (dep := 2) (blk := 6) fun x hx => ?_).fine (by decide) (by show 3 * 7 ≤ 80000; decide)
    simp only [List.mem_cons, List.not_mem_nil, or_false] at hx
    rcases hx with rfl | rfl | rfl
    · exact fi_on.up (by decide) (by decide)
    · exact (Fi.pt (ok b1).1 (ok b1).2).up (by decide) (by decide)
    · exact Fi.ln (ok b2).1 (ok b2).2 (ok b3).1 (ok b3).2
  | none =>
    cases o2 with
    | some o =>
      obtain ⟨l, r⟩ := o
      obtain ⟨⟨b1, b2⟩, b3, b4⟩ := h2 _ rfl
      refine (Fi.tup (dep := 2) (blk := 6) fun x hx => ?_).fine (by decide) (by show 3 * 7 ≤ 80000; decide)
      simp only [List.mem_cons, List.not_mem_nil, or_false] at hx
      rcases hx with rfl | rfl | rfl
      · exact fi_cross.up (by decide) (by decide)
      · exact Fi.ln (ok b1).1 (ok b1).2 (ok b2).1 (ok b2).2
      · exact Fi.ln (ok b3).1 (ok b3).2 (ok b4).1 (ok b4).2
    | none => exact ⟨rfl, rfl, rfl, by decide, by decide⟩
theorem firstOn_mem {f : Pt → Ln → Bool} {ls : List Ln} {x : Pt × Ln} : ∀ {cs : List Pt}, firstOn f ls cs = some x → x.1 ∈ cs ∧ x.2 ∈ ls
  | [], h => nomatch h
  | c :: cs, h => by
    unfold firstOn at h
    cases e : ls.find? (f c) with
    | some r =>
      rw [e] at h
      cases h
      exact ⟨List.mem_cons_self, List.mem_of_find?_eq_some e⟩
    | none =>
      rw [e] at h
      obtain ⟨a, b⟩ := firstOn_mem h
      exact ⟨List.mem_cons_of_mem _ a, b⟩
theorem firstP_mem {f : Ln → Ln → Bool} {x : Ln × Ln} : ∀ {ls : List Ln}, firstP f ls = some x → x.1 ∈ ls ∧ x.2 ∈ ls
  | [], h => nomatch h
  | l :: ls, h => by
    unfold firstP at h
    cases e : ls.find? (f l) with
    | some r =>
      rw [e] at h
      cases h
      exact ⟨List.mem_cons_self, List.mem_cons_of_mem _ (List.mem_of_find?_eq_some e)⟩
    | none =>
      rw [e] at h
      obtain ⟨a, b⟩ := firstP_mem h
      exact ⟨List.mem_cons_of_mem _ a, List.mem_cons_of_mem _ b⟩
def GoodQ (pss : List (List Pt)) : Prop := pss.length ≤ 20 ∧ ∀ ps ∈ pss, ps ≠ [] ∧ ps.length ≤ 60 ∧ ∀ p ∈ ps, BdN 10000000 p
theorem GoodQ.c {pss : List (List Pt)} (h : GoodQ pss) : ∀ ps ∈ pss, ps ≠ [] ∧ ps.length ≤ 100 ∧ ∀ p ∈ ps, BdC p := fun ps hp => by
  obtain ⟨a, b, c⟩ := h.2 ps hp
  refine ⟨a, by omega, fun p hpp => ?_⟩
  have := c p hpp
  unfold BdN at this
  unfold BdC
  omega
theorem GoodQ.fine {pss : List (List Pt)} (g : GoodQ pss) {d : PyData} (h : TrD pss d) : Fine d := by
  obtain ⟨cs, ls, c1, l1, l2, l3, rfl⟩ := h
  have bc : ∀ c ∈ cs, BdN 10000000 c := fun c hc => by
    obtain ⟨ps, h1, h2⟩ := List.mem_flatMap.mp ((c1.2.2 c).mp hc)
    exact (g.2 ps h1).2.2 c h2
  have bl : ∀ l ∈ ls, BdN 10000000 l.1 ∧ BdN 10000000 l.2 := fun l hl => by
    obtain ⟨ps, h1, h2, h3⟩ := link_pts ((l3 l).mp hl)
    exact ⟨(g.2 ps h1).2.2 _ h2, (g.2 ps h1).2.2 _ h3⟩
  refine fine_trd (fun x hx => ?_) fun x hx => ?_
  · obtain ⟨a, b⟩ := firstOn_mem hx
    exact ⟨bc _ a, bl _ b⟩
  · obtain ⟨a, b⟩ := firstP_mem hx
    exact ⟨bl _ a, bl _ b⟩
def spR28 (K : PySem.W.Frag) : Sp := fun vs H Q _ => ∃ (a : Addr) (xs : List V) (pss : List (List Pt)) (u : V) (d : PyData), vs = [.ref a, u] ∧ SqT K H a xs ∧ AllAt (AtPath K H) xs pss ∧ GoodQ pss ∧ Dp K H u d ∧
  (∀ d', TrD pss d' → d' = d) ∧ ∀ H', Same H H' → Q (.bl true) H'

section
variable {P : Program} {w : World} {K : PySem.W.Frag} {mg : Str → Option Value} {base : Heap}

theorem ok_law_right {f : Addr} {fd : FuncData} (F : Fun K "_law_right" "_law_right" s_law_right f fd) (T : Bt mg) (Dtrouble_of : Def P w K mg base 6 "trouble_of" ["paths"] (spTr K)) :
    FnG P w K mg base CX0 7 f fd ["_law_paths_here", "_law_due"] (spR28 K) := by
  refine okG (k := 6) F sc_law_right (fun vs H Q E h => ?_) (fun cdv A outer s H vs Q E hr h => ?_)
  · obtain ⟨a, xs, pss, u, d, rfl, _⟩ := h
    rfl
  · obtain ⟨a, xs, pss, u, d, rfl, hs, ha, hg, hu, un, q⟩ := h
    refine ⟨_, (pss_one (ps_ret (pe_cmpR op_eq (pe_callB (call_repr hr.gd hr.room.units) (by rfl) T.repr (by decide +kernel) (pa_cons (callD Dtrouble_of (hr.mono (by decide)) (pa_cons (pv 0) pa_nil)) pa_nil)) (pe_callB (call_repr hr.gd hr.room.units) (by rfl) T.repr (by decide +kernel) (pa_cons (pv 1) pa_nil)) (nomark _)))), ?_⟩
    refine ⟨.ref a, rfl, a, xs, pss, rfl, hs, ha, hg.c, hg.1, fun v H1 cs ls s1 crn nd pw mem at1 => ?_⟩
    have tr : TrD pss (trd (firstOn onP ls cs) (firstP hitP ls)) := ⟨cs, ls, crn, nd, pw, mem, rfl⟩
    have e := un _ tr
    have dv := at1.dp
    have fd := hg.fine tr
    rw [e] at dv fd
    refine ⟨v, d, rfl, dv, fd, ?_⟩
    refine ⟨u, rfl, u, d, rfl, dp_same s1 hu, fd, rfl, ?_⟩
    show Q (.bl (decide (V.str d.shown = V.str d.shown))) H1
    rw [decide_eq_true rfl]
    exact q H1 s1

end
end Cl

set_option maxHeartbeats 0
namespace Cl
open PySem PySem.Spec PyProof.Rows L2
open GxR (TabB TabG)

theorem AtPaths.dp {K : PySem.W.Frag} {H : Hp} {v : V} {pss : List (List Pt)} (h : AtPaths K H v pss) : Dp K H v (.tuple (pss.map dpth)) := by
  obtain ⟨a, xs, rfl, h1, h2⟩ := h
  exact .tup h1 (paths_dp h2)
theorem Good12.q {pss : List (List Pt)} (h : Good12 pss) : GoodQ pss := ⟨Nat.le_trans h.1 (by decide), fun ps hp => (h.2 ps hp).1⟩
theorem GoodQ.of {pss qss : List (List Pt)} (h : GoodQ pss) (l : qss.length ≤ 20) (s : ∀ ps ∈ qss, ∃ rs ∈ pss, ps ≠ [] ∧ ps.length ≤ rs.length ∧ ∀ p ∈ ps, p ∈ rs) : GoodQ qss := by
  refine ⟨l, fun ps hp => ?_⟩
  obtain ⟨rs, hr, a, b, c⟩ := s ps hp
  obtain ⟨x, y, z⟩ := h.2 rs hr
  exact ⟨a, by omega, fun p hpp => z p (c p hpp)⟩
theorem pe_revT28 {X : Cx} {K : PySem.W.Frag} {e : Expr} {te : TE} {p0 p1 p2 pos : Pos} {j : Nat} (hK : X.K = K) (he : PE X e te) :
    PE X (.Subscript e (.Slice none none (some (.UnaryOp .USub (.Constant (.int 1) j p0) p1)) p2) pos) (tRevT K te) := hK ▸ pe_revT he
theorem crn_mem {pss qss : List (List Pt)} (h : ∀ ps, ps ∈ pss ↔ ps ∈ qss) (c : Pt) : c ∈ pss.flatMap id ↔ c ∈ qss.flatMap id := by
  rw [List.mem_flatMap, List.mem_flatMap]
  exact ⟨fun ⟨p, a, b⟩ => ⟨p, (h p).mp a, b⟩, fun ⟨p, a, b⟩ => ⟨p, (h p).mpr a, b⟩⟩
theorem crn_rev (pss : List (List Pt)) (c : Pt) : c ∈ (pss.map List.reverse).flatMap id ↔ c ∈ pss.flatMap id := by
  rw [List.mem_flatMap, List.mem_flatMap]
  constructor
  · rintro ⟨p, a, b⟩
    obtain ⟨r, hr, rfl⟩ := List.mem_map.mp a
    exact ⟨r, hr, List.mem_reverse.mp b⟩
  · rintro ⟨p, a, b⟩
    exact ⟨p.reverse, List.mem_map.mpr ⟨p, a, rfl⟩, List.mem_reverse.mpr b⟩
theorem allAt_take {α : Type} {R : V → α → Prop} : ∀ {vs : List V} {xs : List α} (n : Nat), AllAt R vs xs → AllAt R (vs.take n) (xs.take n)
  | _, _, 0, _ => .nil
  | _, _, _ + 1, .nil => .nil
  | _, _, n + 1, .cons h t => .cons h (allAt_take n t)
theorem cut_toN (ws : List V) (n : Nat) : cutV ws none (some (n : Int)) = ws.take n := by
  unfold cutV
  rw [HT.sIx_none, HT.sIx_nat, List.drop_zero, Nat.sub_zero]
  by_cases h : n ≤ ws.length
  · rw [Nat.min_eq_left h]
  · rw [Nat.min_eq_right (by omega), List.take_length, List.take_of_length_le (by omega)]

section
variable {P : Program} {w : World} {K : PySem.W.Frag} {mg : Str → Option Value} {base : Heap}

theorem oklaw {f : Addr} {fd : FuncData} (F : Fun K "law" "law" slaw f fd) (T : Bt mg) (D_law_deck : Def P w K mg base 1 "_law_deck" ["_law_script"] (spDeck K)) (D_law_paths : Def P w K mg base 3 "_law_paths" ["_law_deck_here"] (spPaths28 K)) (D_law_trouble : Def P w K mg base 4 "_law_trouble" ["_law_paths_here"] (spLTr K)) (D_law_right : Def P w K mg base 7 "_law_right" ["_law_paths_here", "_law_due"] (spR28 K)) (Dtrouble_of : Def P w K mg base 6 "trouble_of" ["paths"] (spTr K)) :
    FnG P w K mg base CX0 8 f fd ["_law_script"] (spLaw K) := by
  refine okG (k := 7) F sclaw (fun vs H Q E h => ?_) (fun cdv A outer s H vs Q E hr h => ?_)
  · obtain ⟨a, ns, rfl, _⟩ := h
    rfl
  · obtain ⟨a, ns, rfl, hS, hlen, q⟩ := h
    refine ⟨_, (pss_cons (ps_set (i := 1) sclaw.nd rfl (.inl rfl) (callD D_law_deck (hr.mono (by decide)) (pa_cons (pv 0) pa_nil)))
      (pss_cons (ps_for PassesOwn.never rfl (pi_range1 (by rfl) T.range (pa_cons pe_int pa_nil)) (pg_name (i := 2) sclaw.nd rfl (.inl rfl)) (pss_cons (ps_set (i := 3) sclaw.nd rfl (.inl rfl) (callD D_law_paths (hr.mono (by decide)) (pa_cons (pv 1) pa_nil)))
      (pss_cons (ps_set (i := 4) sclaw.nd rfl (.inl rfl) (callD D_law_trouble (hr.mono (by decide)) (pa_cons (pv 3) pa_nil)))
      (pss_cons (ps_if (PW.pt (pw_or (pt_not (pt_val (callD D_law_right (hr.mono (by decide)) (pa_cons (pv 3) (pa_cons (pv 4) pa_nil))))) (pw_or1 (pt_not (pt_val (callD D_law_right (hr.mono (by decide)) (pa_cons (pe_revT (pv 3)) (pa_cons (pv 4) pa_nil)))))))) (pss_one (ps_ret pe_bl)) pss_nil)
      (pss_cons (ps_if (PW.pt (pw_or (pt_not (pt_val (callD D_law_right (hr.mono (by decide)) (pa_cons (pe_callTy call_tuple_ofN (by rfl) T.tuple (by decide +kernel) (pa_cons (pe_lc (own := [("_law_path", 5)]) (g := gName 5) (tt := tYes) (by rfl) sclaw.nd (pi_tup (pv 3)) (blkOk_by (own := [("_law_path", 5)]) (N := ["_law_script", "_law_deck_here", "_law_turn_here", "_law_paths_here", "_law_due", "_law_path"]) (sc := defScope slaw) (by decide +kernel)) (fun _ _ _ _ _ => (pg_name (i := 5) sclaw.nd rfl (.inl rfl))) (fun _ _ _ _ _ => pts_nil) (fun _ _ _ _ _ => (pe_revT28 (K := K) rfl (pv 5)))) pa_nil)) (pa_cons (pv 4) pa_nil))))) (pw_or1 (pt_not (pt_val (callD D_law_right (hr.mono (by decide)) (pa_cons (pe_op op_catTB (pv 3) (pe_slice sl_tupB (pv 3) po_none (po_some pe_int))) (pa_cons (pv 4) pa_nil)))))))) (pss_one (ps_ret pe_bl)) pss_nil)
      (pss_one (ps_if (pt_not (pt_val (callD D_law_right (hr.mono (by decide)) (pa_cons (pv 3) (pa_cons (pv 4) pa_nil))))) (pss_one (ps_ret pe_bl)) pss_nil)))))))
      (pss_one (ps_ret (pe_cmpR op_isN (callD Dtrouble_of (hr.mono (by decide)) (pa_cons (tupN pa_nil) pa_nil)) pe_non (nomark _)))))), ?_⟩
    refine ⟨.ref a, rfl, a, ns, rfl, hS, hlen, fun d l H1 s1 D1 => ?_⟩
    refine ⟨3, rfl, by decide, by decide, for_range (n := 3) (fun i σ H' => ∃ y2 y3 y4 y5, σ = [some (.ref a), some (.ref d), y2, y3, y4, y5] ∧ Step d l H1 H') ?_ ?_ ?_⟩
    · exact ⟨_, _, _, _, rfl, .refl D1⟩
    · rintro i σ H2 hi ⟨y2, y3, y4, y5, rfl, S1⟩
      refine ⟨.ref d, rfl, d, l, rfl, S1.deck, fun v pss H3 S3 aP gP => ?_⟩
      obtain ⟨b, xs, rfl, hx, ha⟩ := id aP
      have gQ := gP.q
      have lxs := ha.length
      have l12 := gP.1
      refine ⟨.ref b, rfl, b, xs, pss, rfl, hx, ha, gQ.c, gQ.1, fun u H4 cs ls s4 crn nd pw mem aT => ?_⟩
      have du := aT.dp
      rw [own_look (fun ps hp => (gP.2 ps hp).2) crn nd mem] at du
      have tr : TrD pss (trd (firstOn onP ls cs) (firstP hitP ls)) := ⟨cs, ls, crn, nd, pw, mem, rfl⟩
      clear aT nd pw mem crn
      generalize trd (firstOn onP ls cs) (firstP hitP ls) = du_ at du tr
      have un : ∀ d', TrD pss d' → d' = du_ := fun d' h => h.one tr (fun _ => Iff.rfl) (fun _ => Iff.rfl)
      have hx4 := seT s4 hx
      have a4 := ha.map fun _ _ z => AtPath.same z s4
      refine ⟨.ref b, rfl, u, rfl, b, xs, pss, u, du_, rfl, hx4, a4, gQ, du, un, fun H5 s5 => ⟨_, rfl, iteF ?_⟩⟩
      have hx5 := seT s5 hx4
      refine ⟨.ref b, rfl, b, xs, rfl, hx5, fun pR H6 nR sR gR => ?_⟩
      have gP6 : GoodQ pss.reverse := gQ.of (by rw [List.length_reverse]; exact gQ.1) fun ps hp => ⟨ps, List.mem_reverse.mp hp, (gQ.2 ps (List.mem_reverse.mp hp)).1, Nat.le_refl _, fun _ z => z⟩
      have s46 := s5.trans sR
      refine ⟨u, rfl, pR, xs.reverse, pss.reverse, u, du_, rfl, .inl (.inl gR), AllAt.rev27 (a4.map fun _ _ z => AtPath.same z s46), gP6, dp_same s46 du, fun d' h => h.one tr (fun c => crn_mem (fun ps => List.mem_reverse) c) (fun q => links_mem (fun ps => List.mem_reverse) q), fun H7 s7 => ⟨_, rfl, iteF ?_⟩⟩
      have s47 := s46.trans s7
      have a7 : AllAt (AtPath K H7) xs pss := a4.map fun _ _ z => AtPath.same z s47
      have d7 := dp_same s47 du
      have hx7 := seT s47 hx4
      clear gR
      refine ⟨.ref b, rfl, b, rfl, ⟨_, hx7⟩, fun pO nO => ?_⟩
      refine lcT (K := K) (a := b) (xs := xs) (fun i H' => Same H7 H' ∧ ∃ vs, H' pO = some (.lst vs) ∧ AllAt (AtPath K H') vs ((pss.take i).map List.reverse)) nO (fun H' e1 e2 => ⟨e1, [], e2, .nil⟩) (fun i H' _ z => seT z.1 hx7) (fun i x H8 hx3 z => ?_) (fun H8 z => ?_)
      · obtain ⟨t1, vs, t2, t3⟩ := z
        obtain ⟨ps, hps, c, us, rfl, hc, hu⟩ := a7.get hx3
        refine ⟨rfl, .ref c, rfl, c, us, rfl, seT t1 hc, fun pU H9 nU s9 g9 => ?_⟩
        have k9 := s9 _ _ t2
        refine ⟨vs, k9, ?_, fun c o e => ?_, vs ++ [.ref pU], upd_same, ?_⟩
        · have := t3.length
          rw [List.length_map, List.length_take] at this
          rw [sizeLine_eq]
          omega
        · rw [upd_ne (ne_of_none e nO)]; exact (t1.trans s9) _ _ e
        · rw [List.take_succ, hps, Option.toList_some, List.map_append]
          exact (t3.map fun _ _ z => AtPath.upd (AtPath.same z s9) k9).app (.cons (AtPath.upd ⟨pU, us.reverse, rfl, .inl (.inl g9), AllAt.rev27 (hu.map fun _ _ z => z.same (t1.trans s9))⟩ k9) .nil)
      obtain ⟨t1, vs, t2, t3⟩ := z
      rw [lxs, List.take_length] at t3
      refine ⟨pO, vs, rfl, .inl (.inl t2), fun p9 H9 n9 s9 g9 => ?_⟩
      have gP9 : GoodQ (pss.map List.reverse) := gQ.of (by rw [List.length_map]; exact gQ.1) fun ps hp => by
        obtain ⟨rs, hr, rfl⟩ := List.mem_map.mp hp
        exact ⟨rs, hr, fun z => (gQ.2 rs hr).1 (List.reverse_eq_nil_iff.mp z), by rw [List.length_reverse]; exact Nat.le_refl _, fun p z => List.mem_reverse.mp z⟩
      have s79 := t1.trans s9
      refine ⟨u, rfl, p9, vs, pss.map List.reverse, u, du_, rfl, .inl (.inl g9), t3.map fun _ _ z => AtPath.same z s9, gP9, dp_same s79 d7, fun d' h => h.one tr (fun c => crn_rev pss c) (fun q => links_rev pss q), fun HA sA => ⟨_, rfl, iteF ?_⟩⟩
      have s7A := s79.trans sA
      have aA : AllAt (AtPath K HA) xs pss := a7.map fun _ _ z => AtPath.same z s7A
      have hxA := seT s7A hx7
      have dA := dp_same s7A d7
      clear t3 t2 t1 g9 a7
      refine ⟨.ref b, rfl, .ref b, rfl, 1, rfl, b, xs, rfl, hxA, fun pK HB sB gB => ?_⟩
      rw [show (1 : Int) = ((1 : Nat) : Int) from rfl, cut_toN] at gB
      have hxB := seT sB hxA
      refine ⟨b, pK, xs, xs.take 1, rfl, rfl, hxB, gB, by rw [List.length_take, sizeLine_eq]; omega, fun pC HC sC gC => ?_⟩
      have mtk : ∀ ps, ps ∈ pss ++ pss.take 1 ↔ ps ∈ pss := fun ps => by
        rw [List.mem_append]
        exact ⟨fun z => z.elim id List.mem_of_mem_take, .inl⟩
      have gPC : GoodQ (pss ++ pss.take 1) := gQ.of (by rw [List.length_append, List.length_take]; omega) fun ps hp => ⟨ps, (mtk ps).mp hp, (gQ.2 ps ((mtk ps).mp hp)).1, Nat.le_refl _, fun _ z => z⟩
      have sAC := sB.trans sC
      have aC : AllAt (AtPath K HC) xs pss := aA.map fun _ _ z => AtPath.same z sAC
      refine ⟨u, rfl, pC, xs ++ xs.take 1, pss ++ pss.take 1, u, du_, rfl, gC, aC.app (allAt_take 1 aC), gPC, dp_same sAC dA, fun d' h => h.one tr (fun c => crn_mem mtk c) (fun q => links_mem mtk q), fun HD sD => ⟨_, rfl, iteF ?_⟩⟩
      have sAD := sAC.trans sD
      refine ⟨.ref b, rfl, u, rfl, b, xs, pss, u, du_, rfl, seT sAD hxA, aA.map fun _ _ z => AtPath.same z sAD, gQ, dp_same sAD dA, un, fun HE sE => ⟨_, rfl, iteF ?_⟩⟩
      have s4E := s47.trans (s7A.trans (sAD.trans sE))
      exact ⟨_, _, _, _, rfl, (S1.trans S3).trans (Step.of S3.deck (s4.trans s4E))⟩
    · rintro σ H2 ⟨y2, y3, y4, y5, rfl, S1⟩
      refine ⟨Nat.zero_le _, fun p3 H3 n3 s3 g3 => ⟨p3, [], [], rfl, .inl (.inl g3), .nil, (fun _ z => nomatch z), by decide, fun v H4 cs ls s4 crn nd pw mem aT => ?_⟩⟩
      have e0 : ls = [] := List.eq_nil_iff_forall_not_mem.mpr fun l hl => nomatch (mem l).mp hl
      have e1 : cs = [] := List.eq_nil_iff_forall_not_mem.mpr fun c hc => nomatch (crn.2.2 c).mp hc
      subst e0 e1
      have aT : v = .non := aT
      subst aT
      refine ⟨rfl, ?_⟩
      show Q (.bl (decide (V.non = V.non))) H4
      rw [decide_eq_true rfl]
      exact q _

end
end Cl

set_option maxHeartbeats 0
namespace Cl
open PySem PySem.Spec PyProof.Rows L2
open GxR (TabB TabG)

theorem all_mk {l : PySem.W.OpenLaw} {w : World} {K : PySem.W.Frag} {h : Heap} {mg : Str → Option Value} {fa : Addr} (X : K.In h) (G : h.Ns mainGlobals mg) (hfa : mg "law" = some (.ref fa))
    {f0 : Addr} {od0 an0 : Option Addr} {sl0 : Array (Option Value)} {oc0 kV0 dc0 pm0 cd0 ct0 : Value}
    {f1 : Addr} {od1 an1 : Option Addr} {sl1 : Array (Option Value)} {oc1 kV1 dc1 pm1 cd1 ct1 : Value}
    {f2 : Addr} {od2 an2 : Option Addr} {sl2 : Array (Option Value)} {oc2 kV2 dc2 pm2 cd2 ct2 : Value}
    {f3 : Addr} {od3 an3 : Option Addr} {sl3 : Array (Option Value)} {oc3 kV3 dc3 pm3 cd3 ct3 : Value}
    {f4 : Addr} {od4 an4 : Option Addr} {sl4 : Array (Option Value)} {oc4 kV4 dc4 pm4 cd4 ct4 : Value}
    {f5 : Addr} {od5 an5 : Option Addr} {sl5 : Array (Option Value)} {oc5 kV5 dc5 pm5 cd5 ct5 : Value}
    {f6 : Addr} {od6 an6 : Option Addr} {sl6 : Array (Option Value)} {oc6 kV6 dc6 pm6 cd6 ct6 : Value}
    {f7 : Addr} {od7 an7 : Option Addr} {sl7 : Array (Option Value)} {oc7 kV7 dc7 pm7 cd7 ct7 : Value}
    {f8 : Addr} {od8 an8 : Option Addr} {sl8 : Array (Option Value)} {oc8 kV8 dc8 pm8 cd8 ct8 : Value}
    {f9 : Addr} {od9 an9 : Option Addr} {sl9 : Array (Option Value)} {oc9 kV9 dc9 pm9 cd9 ct9 : Value}
    {f10 : Addr} {od10 an10 : Option Addr} {sl10 : Array (Option Value)} {oc10 kV10 dc10 pm10 cd10 ct10 : Value}
    {f11 : Addr} {od11 an11 : Option Addr} {sl11 : Array (Option Value)} {oc11 kV11 dc11 pm11 cd11 ct11 : Value}
    {f12 : Addr} {od12 an12 : Option Addr} {sl12 : Array (Option Value)} {oc12 kV12 dc12 pm12 cd12 ct12 : Value}
    {f13 : Addr} {od13 an13 : Option Addr} {sl13 : Array (Option Value)} {oc13 kV13 dc13 pm13 cd13 ct13 : Value}
    {f14 : Addr} {od14 an14 : Option Addr} {sl14 : Array (Option Value)} {oc14 kV14 dc14 pm14 cd14 ct14 : Value}
    {f15 : Addr} {od15 an15 : Option Addr} {sl15 : Array (Option Value)} {oc15 kV15 dc15 pm15 cd15 ct15 : Value}
    {f16 : Addr} {od16 an16 : Option Addr} {sl16 : Array (Option Value)} {oc16 kV16 dc16 pm16 cd16 ct16 : Value}
    {f17 : Addr} {od17 an17 : Option Addr} {sl17 : Array (Option Value)} {oc17 kV17 dc17 pm17 cd17 ct17 : Value}
    {f18 : Addr} {od18 an18 : Option Addr} {sl18 : Array (Option Value)} {oc18 kV18 dc18 pm18 cd18 ct18 : Value}
    {f19 : Addr} {od19 an19 : Option Addr} {sl19 : Array (Option Value)} {oc19 kV19 dc19 pm19 cd19 ct19 : Value}
    {f20 : Addr} {od20 an20 : Option Addr} {sl20 : Array (Option Value)} {oc20 kV20 dc20 pm20 cd20 ct20 : Value}
    {f21 : Addr} {od21 an21 : Option Addr} {sl21 : Array (Option Value)} {oc21 kV21 dc21 pm21 cd21 ct21 : Value}
    {f22 : Addr} {od22 an22 : Option Addr} {sl22 : Array (Option Value)} {oc22 kV22 dc22 pm22 cd22 ct22 : Value}
    {f23 : Addr} {od23 an23 : Option Addr} {sl23 : Array (Option Value)} {oc23 kV23 dc23 pm23 cd23 ct23 : Value}
    (a0 : PySem.W.nsIn K mainGlobals "_law_deck" = some (some (.ref f0))) (l0 : K.lookup f0 = some ⟨oc0, od0, .func (PySem.W.fnOf "_law_deck" "_law_deck" (defArgs s_law_deck) (defBody s_law_deck) (defScope s_law_deck) .none kV0 dc0 pm0 an0 cd0 ct0), sl0⟩) (c0 : PySem.W.codeIn K cd0 "_law_deck" = true) (k0 : PySem.W.keepIn K (.ref f0) = true)
    (a1 : PySem.W.nsIn K mainGlobals "_law_draw" = some (some (.ref f1))) (l1 : K.lookup f1 = some ⟨oc1, od1, .func (PySem.W.fnOf "_law_draw" "_law_draw" (defArgs s_law_draw) (defBody s_law_draw) (defScope s_law_draw) .none kV1 dc1 pm1 an1 cd1 ct1), sl1⟩) (c1 : PySem.W.codeIn K cd1 "_law_draw" = true) (k1 : PySem.W.keepIn K (.ref f1) = true)
    (a2 : PySem.W.nsIn K mainGlobals "_law_less" = some (some (.ref f2))) (l2 : K.lookup f2 = some ⟨oc2, od2, .func (PySem.W.fnOf "_law_less" "_law_less" (defArgs s_law_less) (defBody s_law_less) (defScope s_law_less) .none kV2 dc2 pm2 an2 cd2 ct2), sl2⟩) (c2 : PySem.W.codeIn K cd2 "_law_less" = true) (k2 : PySem.W.keepIn K (.ref f2) = true)
    (a3 : PySem.W.nsIn K mainGlobals "step_of" = some (some (.ref f3))) (l3 : K.lookup f3 = some ⟨oc3, od3, .func (PySem.W.fnOf "step_of" "step_of" (defArgs sstep_of) (defBody sstep_of) (defScope sstep_of) .none kV3 dc3 pm3 an3 cd3 ct3), sl3⟩) (c3 : PySem.W.codeIn K cd3 "step_of" = true) (k3 : PySem.W.keepIn K (.ref f3) = true)
    (a4 : PySem.W.nsIn K mainGlobals "_law_turn" = some (some (.ref f4))) (l4 : K.lookup f4 = some ⟨oc4, od4, .func (PySem.W.fnOf "_law_turn" "_law_turn" (defArgs s_law_turn) (defBody s_law_turn) (defScope s_law_turn) .none kV4 dc4 pm4 an4 cd4 ct4), sl4⟩) (c4 : PySem.W.codeIn K cd4 "_law_turn" = true) (k4 : PySem.W.keepIn K (.ref f4) = true)
    (a5 : PySem.W.nsIn K mainGlobals "turn_of" = some (some (.ref f5))) (l5 : K.lookup f5 = some ⟨oc5, od5, .func (PySem.W.fnOf "turn_of" "turn_of" (defArgs sturn_of) (defBody sturn_of) (defScope sturn_of) .none kV5 dc5 pm5 an5 cd5 ct5), sl5⟩) (c5 : PySem.W.codeIn K cd5 "turn_of" = true) (k5 : PySem.W.keepIn K (.ref f5) = true)
    (a6 : PySem.W.nsIn K mainGlobals "side_of" = some (some (.ref f6))) (l6 : K.lookup f6 = some ⟨oc6, od6, .func (PySem.W.fnOf "side_of" "side_of" (defArgs sside_of) (defBody sside_of) (defScope sside_of) .none kV6 dc6 pm6 an6 cd6 ct6), sl6⟩) (c6 : PySem.W.codeIn K cd6 "side_of" = true) (k6 : PySem.W.keepIn K (.ref f6) = true)
    (a7 : PySem.W.nsIn K mainGlobals "halves_of" = some (some (.ref f7))) (l7 : K.lookup f7 = some ⟨oc7, od7, .func (PySem.W.fnOf "halves_of" "halves_of" (defArgs shalves_of) (defBody shalves_of) (defScope shalves_of) .none kV7 dc7 pm7 an7 cd7 ct7), sl7⟩) (c7 : PySem.W.codeIn K cd7 "halves_of" = true) (k7 : PySem.W.keepIn K (.ref f7) = true)
    (a8 : PySem.W.nsIn K mainGlobals "link_of" = some (some (.ref f8))) (l8 : K.lookup f8 = some ⟨oc8, od8, .func (PySem.W.fnOf "link_of" "link_of" (defArgs slink_of) (defBody slink_of) (defScope slink_of) .none kV8 dc8 pm8 an8 cd8 ct8), sl8⟩) (c8 : PySem.W.codeIn K cd8 "link_of" = true) (k8 : PySem.W.keepIn K (.ref f8) = true)
    (a9 : PySem.W.nsIn K mainGlobals "links_of" = some (some (.ref f9))) (l9 : K.lookup f9 = some ⟨oc9, od9, .func (PySem.W.fnOf "links_of" "links_of" (defArgs slinks_of) (defBody slinks_of) (defScope slinks_of) .none kV9 dc9 pm9 an9 cd9 ct9), sl9⟩) (c9 : PySem.W.codeIn K cd9 "links_of" = true) (k9 : PySem.W.keepIn K (.ref f9) = true)
    (a10 : PySem.W.nsIn K mainGlobals "_law_row" = some (some (.ref f10))) (l10 : K.lookup f10 = some ⟨oc10, od10, .func (PySem.W.fnOf "_law_row" "_law_row" (defArgs s_law_row) (defBody s_law_row) (defScope s_law_row) .none kV10 dc10 pm10 an10 cd10 ct10), sl10⟩) (c10 : PySem.W.codeIn K cd10 "_law_row" = true) (k10 : PySem.W.keepIn K (.ref f10) = true)
    (a11 : PySem.W.nsIn K mainGlobals "_law_common" = some (some (.ref f11))) (l11 : K.lookup f11 = some ⟨oc11, od11, .func (PySem.W.fnOf "_law_common" "_law_common" (defArgs s_law_common) (defBody s_law_common) (defScope s_law_common) .none kV11 dc11 pm11 an11 cd11 ct11), sl11⟩) (c11 : PySem.W.codeIn K cd11 "_law_common" = true) (k11 : PySem.W.keepIn K (.ref f11) = true)
    (a12 : PySem.W.nsIn K mainGlobals "parts" = some (some (.ref f12))) (l12 : K.lookup f12 = some ⟨oc12, od12, .func (PySem.W.fnOf "parts" "parts" (defArgs sparts) (defBody sparts) (defScope sparts) .none kV12 dc12 pm12 an12 cd12 ct12), sl12⟩) (c12 : PySem.W.codeIn K cd12 "parts" = true) (k12 : PySem.W.keepIn K (.ref f12) = true)
    (a13 : PySem.W.nsIn K mainGlobals "are_across" = some (some (.ref f13))) (l13 : K.lookup f13 = some ⟨oc13, od13, .func (PySem.W.fnOf "are_across" "are_across" (defArgs sare_across) (defBody sare_across) (defScope sare_across) .none kV13 dc13 pm13 an13 cd13 ct13), sl13⟩) (c13 : PySem.W.codeIn K cd13 "are_across" = true) (k13 : PySem.W.keepIn K (.ref f13) = true)
    (a14 : PySem.W.nsIn K mainGlobals "trouble_across" = some (some (.ref f14))) (l14 : K.lookup f14 = some ⟨oc14, od14, .func (PySem.W.fnOf "trouble_across" "trouble_across" (defArgs strouble_across) (defBody strouble_across) (defScope strouble_across) .none kV14 dc14 pm14 an14 cd14 ct14), sl14⟩) (c14 : PySem.W.codeIn K cd14 "trouble_across" = true) (k14 : PySem.W.keepIn K (.ref f14) = true)
    (a15 : PySem.W.nsIn K mainGlobals "trouble_on" = some (some (.ref f15))) (l15 : K.lookup f15 = some ⟨oc15, od15, .func (PySem.W.fnOf "trouble_on" "trouble_on" (defArgs strouble_on) (defBody strouble_on) (defScope strouble_on) .none kV15 dc15 pm15 an15 cd15 ct15), sl15⟩) (c15 : PySem.W.codeIn K cd15 "trouble_on" = true) (k15 : PySem.W.keepIn K (.ref f15) = true)
    (a16 : PySem.W.nsIn K mainGlobals "trouble_of" = some (some (.ref f16))) (l16 : K.lookup f16 = some ⟨oc16, od16, .func (PySem.W.fnOf "trouble_of" "trouble_of" (defArgs strouble_of) (defBody strouble_of) (defScope strouble_of) .none kV16 dc16 pm16 an16 cd16 ct16), sl16⟩) (c16 : PySem.W.codeIn K cd16 "trouble_of" = true) (k16 : PySem.W.keepIn K (.ref f16) = true)
    (a17 : PySem.W.nsIn K mainGlobals "_law_links" = some (some (.ref f17))) (l17 : K.lookup f17 = some ⟨oc17, od17, .func (PySem.W.fnOf "_law_links" "_law_links" (defArgs s_law_links) (defBody s_law_links) (defScope s_law_links) .none kV17 dc17 pm17 an17 cd17 ct17), sl17⟩) (c17 : PySem.W.codeIn K cd17 "_law_links" = true) (k17 : PySem.W.keepIn K (.ref f17) = true)
    (a18 : PySem.W.nsIn K mainGlobals "_law_is_on" = some (some (.ref f18))) (l18 : K.lookup f18 = some ⟨oc18, od18, .func (PySem.W.fnOf "_law_is_on" "_law_is_on" (defArgs s_law_is_on) (defBody s_law_is_on) (defScope s_law_is_on) .none kV18 dc18 pm18 an18 cd18 ct18), sl18⟩) (c18 : PySem.W.codeIn K cd18 "_law_is_on" = true) (k18 : PySem.W.keepIn K (.ref f18) = true)
    (a19 : PySem.W.nsIn K mainGlobals "_law_do_cross" = some (some (.ref f19))) (l19 : K.lookup f19 = some ⟨oc19, od19, .func (PySem.W.fnOf "_law_do_cross" "_law_do_cross" (defArgs s_law_do_cross) (defBody s_law_do_cross) (defScope s_law_do_cross) .none kV19 dc19 pm19 an19 cd19 ct19), sl19⟩) (c19 : PySem.W.codeIn K cd19 "_law_do_cross" = true) (k19 : PySem.W.keepIn K (.ref f19) = true)
    (a20 : PySem.W.nsIn K mainGlobals "_law_trouble" = some (some (.ref f20))) (l20 : K.lookup f20 = some ⟨oc20, od20, .func (PySem.W.fnOf "_law_trouble" "_law_trouble" (defArgs s_law_trouble) (defBody s_law_trouble) (defScope s_law_trouble) .none kV20 dc20 pm20 an20 cd20 ct20), sl20⟩) (c20 : PySem.W.codeIn K cd20 "_law_trouble" = true) (k20 : PySem.W.keepIn K (.ref f20) = true)
    (a21 : PySem.W.nsIn K mainGlobals "_law_paths" = some (some (.ref f21))) (l21 : K.lookup f21 = some ⟨oc21, od21, .func (PySem.W.fnOf "_law_paths" "_law_paths" (defArgs s_law_paths) (defBody s_law_paths) (defScope s_law_paths) .none kV21 dc21 pm21 an21 cd21 ct21), sl21⟩) (c21 : PySem.W.codeIn K cd21 "_law_paths" = true) (k21 : PySem.W.keepIn K (.ref f21) = true)
    (a22 : PySem.W.nsIn K mainGlobals "_law_right" = some (some (.ref f22))) (l22 : K.lookup f22 = some ⟨oc22, od22, .func (PySem.W.fnOf "_law_right" "_law_right" (defArgs s_law_right) (defBody s_law_right) (defScope s_law_right) .none kV22 dc22 pm22 an22 cd22 ct22), sl22⟩) (c22 : PySem.W.codeIn K cd22 "_law_right" = true) (k22 : PySem.W.keepIn K (.ref f22) = true)
    (a23 : PySem.W.nsIn K mainGlobals "law" = some (some (.ref f23))) (l23 : K.lookup f23 = some ⟨oc23, od23, .func (PySem.W.fnOf "law" "law" (defArgs slaw) (defBody slaw) (defScope slaw) .none kV23 dc23 pm23 an23 cd23 ct23), sl23⟩) (c23 : PySem.W.codeIn K cd23 "law" = true) (k23 : PySem.W.keepIn K (.ref f23) = true)
    (z0 : PySem.W.nsIn K mainGlobals "list" = some none) (z1 : PySem.W.nsIn K mainGlobals "sum" = some none) (z2 : PySem.W.nsIn K mainGlobals "len" = some none) (z3 : PySem.W.nsIn K mainGlobals "range" = some none) (z4 : PySem.W.nsIn K mainGlobals "max" = some none) (z5 : PySem.W.nsIn K mainGlobals "min" = some none) (z6 : PySem.W.nsIn K mainGlobals "tuple" = some none) (z7 : PySem.W.nsIn K mainGlobals "int" = some none) (z8 : PySem.W.nsIn K mainGlobals "sorted" = some none) (z9 : PySem.W.nsIn K mainGlobals "set" = some none) (z10 : PySem.W.nsIn K mainGlobals "repr" = some none) (z11 : PySem.W.nsIn K mainGlobals "zip" = some none) (z12 : PySem.W.nsIn K mainGlobals "enumerate" = some none) :
    ∃ fd : FuncData, (∀ (s : Shared) (v : Value), BindsTo s fd ⟨[v], []⟩ [("_law_script", v)]) ∧ ∀ base : Heap, K.In base → base.Ns mainGlobals mg → FnG l.prog w K mg base CX0 8 fa fd ["_law_script"] (spLaw K) := by
  have e := hfa.symm.trans (PySem.W.mg_of X G a23)
  cases e
  have T : Bt mg := ⟨PySem.W.mg_none_of X G z0, PySem.W.mg_none_of X G z1, PySem.W.mg_none_of X G z2, PySem.W.mg_none_of X G z3, PySem.W.mg_none_of X G z4, PySem.W.mg_none_of X G z5, PySem.W.mg_none_of X G z6, PySem.W.mg_none_of X G z7, PySem.W.mg_none_of X G z8, PySem.W.mg_none_of X G z9, PySem.W.mg_none_of X G z10, PySem.W.mg_none_of X G z11, PySem.W.mg_none_of X G z12⟩
  have F0 := fun_mk (st := s_law_deck) l0 c0 k0
  have b0 := F0.binds (ps := ["_law_script"]) fun _ _ _ _ _ _ us hl => match us, hl with | [_], _ => rfl
  have F1 := fun_mk (st := s_law_draw) l1 c1 k1
  have b1 := F1.binds (ps := ["_law_deck_here", "_law_most"]) fun _ _ _ _ _ _ us hl => match us, hl with | [_, _], _ => rfl
  have F2 := fun_mk (st := s_law_less) l2 c2 k2
  have b2 := F2.binds (ps := ["_law_one", "_law_other"]) fun _ _ _ _ _ _ us hl => match us, hl with | [_, _], _ => rfl
  have F3 := fun_mk (st := sstep_of) l3 c3 k3
  have b3 := F3.binds (ps := ["line"]) fun _ _ _ _ _ _ us hl => match us, hl with | [_], _ => rfl
  have F4 := fun_mk (st := s_law_turn) l4 c4 k4
  have b4 := F4.binds (ps := ["_law_one", "_law_other"]) fun _ _ _ _ _ _ us hl => match us, hl with | [_, _], _ => rfl
  have F5 := fun_mk (st := sturn_of) l5 c5 k5
  have b5 := F5.binds (ps := ["one", "other"]) fun _ _ _ _ _ _ us hl => match us, hl with | [_, _], _ => rfl
  have F6 := fun_mk (st := sside_of) l6 c6 k6
  have b6 := F6.binds (ps := ["line", "point"]) fun _ _ _ _ _ _ us hl => match us, hl with | [_, _], _ => rfl
  have F7 := fun_mk (st := shalves_of) l7 c7 k7
  have b7 := F7.binds (ps := ["path"]) fun _ _ _ _ _ _ us hl => match us, hl with | [_], _ => rfl
  have F8 := fun_mk (st := slink_of) l8 c8 k8
  have b8 := F8.binds (ps := ["one", "other"]) fun _ _ _ _ _ _ us hl => match us, hl with | [_, _], _ => rfl
  have F9 := fun_mk (st := slinks_of) l9 c9 k9
  have b9 := F9.binds (ps := ["paths"]) fun _ _ _ _ _ _ us hl => match us, hl with | [_], _ => rfl
  have F10 := fun_mk (st := s_law_row) l10 c10 k10
  have b10 := F10.binds (ps := ["_law_deck_here", "_law_lots", "_law_wide"]) fun _ _ _ _ _ _ us hl => match us, hl with | [_, _, _], _ => rfl
  have F11 := fun_mk (st := s_law_common) l11 c11 k11
  have b11 := F11.binds (ps := ["_law_one", "_law_other"]) fun _ _ _ _ _ _ us hl => match us, hl with | [_, _], _ => rfl
  have F12 := fun_mk (st := sparts) l12 c12 k12
  have b12 := F12.binds (ps := ["link", "other"]) fun _ _ _ _ _ _ us hl => match us, hl with | [_, _], _ => rfl
  have F13 := fun_mk (st := sare_across) l13 c13 k13
  have b13 := F13.binds (ps := ["one", "other"]) fun _ _ _ _ _ _ us hl => match us, hl with | [_, _], _ => rfl
  have F14 := fun_mk (st := strouble_across) l14 c14 k14
  have b14 := F14.binds (ps := ["links"]) fun _ _ _ _ _ _ us hl => match us, hl with | [_], _ => rfl
  have F15 := fun_mk (st := strouble_on) l15 c15 k15
  have b15 := F15.binds (ps := ["paths", "links"]) fun _ _ _ _ _ _ us hl => match us, hl with | [_, _], _ => rfl
  have F16 := fun_mk (st := strouble_of) l16 c16 k16
  have b16 := F16.binds (ps := ["paths"]) fun _ _ _ _ _ _ us hl => match us, hl with | [_], _ => rfl
  have F17 := fun_mk (st := s_law_links) l17 c17 k17
  have b17 := F17.binds (ps := ["_law_paths_here"]) fun _ _ _ _ _ _ us hl => match us, hl with | [_], _ => rfl
  have F18 := fun_mk (st := s_law_is_on) l18 c18 k18
  have b18 := F18.binds (ps := ["_law_corner", "_law_link"]) fun _ _ _ _ _ _ us hl => match us, hl with | [_, _], _ => rfl
  have F19 := fun_mk (st := s_law_do_cross) l19 c19 k19
  have b19 := F19.binds (ps := ["_law_link", "_law_other"]) fun _ _ _ _ _ _ us hl => match us, hl with | [_, _], _ => rfl
  have F20 := fun_mk (st := s_law_trouble) l20 c20 k20
  have b20 := F20.binds (ps := ["_law_paths_here"]) fun _ _ _ _ _ _ us hl => match us, hl with | [_], _ => rfl
  have F21 := fun_mk (st := s_law_paths) l21 c21 k21
  have b21 := F21.binds (ps := ["_law_deck_here"]) fun _ _ _ _ _ _ us hl => match us, hl with | [_], _ => rfl
  have F22 := fun_mk (st := s_law_right) l22 c22 k22
  have b22 := F22.binds (ps := ["_law_paths_here", "_law_due"]) fun _ _ _ _ _ _ us hl => match us, hl with | [_, _], _ => rfl
  have F23 := fun_mk (st := slaw) l23 c23 k23
  refine ⟨PySem.W.fnOf "law" "law" (defArgs slaw) (defBody slaw) (defScope slaw) .none kV23 dc23 pm23 an23 cd23 ct23, fun s v => .of_eq rfl, fun base _ _ => ?_⟩
  have D_law_deck : Def l.prog w K mg base 1 "_law_deck" ["_law_script"] (spDeck K) := .mk1 F0 (ok_law_deck F0 T ) (PySem.W.mg_of X G a0) b0
  have D_law_draw : Def l.prog w K mg base 1 "_law_draw" ["_law_deck_here", "_law_most"] spDraw := .mk1 F1 (ok_law_draw F1 T ) (PySem.W.mg_of X G a1) b1
  have D_law_less : Def l.prog w K mg base 1 "_law_less" ["_law_one", "_law_other"] (spLess K) := .mk1 F2 (ok_law_less F2 T ) (PySem.W.mg_of X G a2) b2
  have Dstep_of : Def l.prog w K mg base 1 "step_of" ["line"] (spStep K) := .mk1 F3 (okstep_of F3 T ) (PySem.W.mg_of X G a3) b3
  have D_law_turn : Def l.prog w K mg base 1 "_law_turn" ["_law_one", "_law_other"] (spTurn K) := .mk1 F4 (ok_law_turn F4 T ) (PySem.W.mg_of X G a4) b4
  have Dturn_of : Def l.prog w K mg base 1 "turn_of" ["one", "other"] (spTurn K) := .mk1 F5 (okturn_of F5 T ) (PySem.W.mg_of X G a5) b5
  have Dside_of : Def l.prog w K mg base 2 "side_of" ["line", "point"] (spSide K) := .mk1 F6 (okside_of F6 T Dstep_of Dturn_of) (PySem.W.mg_of X G a6) b6
  have Dhalves_of : Def l.prog w K mg base 1 "halves_of" ["path"] (spHalves K) := .mk1 F7 (okhalves_of F7 T ) (PySem.W.mg_of X G a7) b7
  have Dlink_of : Def l.prog w K mg base 1 "link_of" ["one", "other"] (spLink K) := .mk1 F8 (oklink_of F8 T ) (PySem.W.mg_of X G a8) b8
  have Dlinks_of : Def l.prog w K mg base 2 "links_of" ["paths"] (spLinks K) := .mk1 F9 (oklinks_of F9 T Dhalves_of Dlink_of) (PySem.W.mg_of X G a9) b9
  have D_law_row : Def l.prog w K mg base 2 "_law_row" ["_law_deck_here", "_law_lots", "_law_wide"] (spRow K) := .mk1 F10 (ok_law_row F10 T D_law_draw) (PySem.W.mg_of X G a10) b10
  have D_law_common : Def l.prog w K mg base 2 "_law_common" ["_law_one", "_law_other"] (spCmn6 K) := .mk1 F11 (ok_law_common F11 T D_law_less D_law_turn) (PySem.W.mg_of X G a11) b11
  have Dparts : Def l.prog w K mg base 3 "parts" ["link", "other"] (spPart K prtB) := .mk1 F12 (okparts F12 T Dside_of) (PySem.W.mg_of X G a12) b12
  have Dare_across : Def l.prog w K mg base 4 "are_across" ["one", "other"] (spPart K acB) := .mk1 F13 (okare_across F13 T Dparts) (PySem.W.mg_of X G a13) b13
  have Dtrouble_across : Def l.prog w K mg base 5 "trouble_across" ["links"] (spTA K) := .mk1 F14 (oktrouble_across F14 T Dare_across) (PySem.W.mg_of X G a14) b14
  have Dtrouble_on : Def l.prog w K mg base 3 "trouble_on" ["paths", "links"] (spTO K) := .mk1 F15 (oktrouble_on F15 T Dside_of) (PySem.W.mg_of X G a15) b15
  have Dtrouble_of : Def l.prog w K mg base 6 "trouble_of" ["paths"] (spTr K) := .mk1 F16 (oktrouble_of F16 T Dlinks_of Dtrouble_on Dtrouble_across) (PySem.W.mg_of X G a16) b16
  have D_law_links : Def l.prog w K mg base 1 "_law_links" ["_law_paths_here"] (spLLk K) := .mk1 F17 (ok_law_links F17 T ) (PySem.W.mg_of X G a17) b17
  have D_law_is_on : Def l.prog w K mg base 2 "_law_is_on" ["_law_corner", "_law_link"] (spIsOn K) := .mk1 F18 (ok_law_is_on F18 T D_law_less D_law_turn) (PySem.W.mg_of X G a18) b18
  have D_law_do_cross : Def l.prog w K mg base 3 "_law_do_cross" ["_law_link", "_law_other"] (spPart K dcB) := .mk1 F19 (ok_law_do_cross F19 T D_law_common) (PySem.W.mg_of X G a19) b19
  have D_law_trouble : Def l.prog w K mg base 4 "_law_trouble" ["_law_paths_here"] (spLTr K) := .mk1 F20 (ok_law_trouble F20 T D_law_links D_law_is_on D_law_do_cross) (PySem.W.mg_of X G a20) b20
  have D_law_paths : Def l.prog w K mg base 3 "_law_paths" ["_law_deck_here"] (spPaths28 K) := .mk1 F21 (ok_law_paths F21 T D_law_draw D_law_row) (PySem.W.mg_of X G a21) b21
  have D_law_right : Def l.prog w K mg base 7 "_law_right" ["_law_paths_here", "_law_due"] (spR28 K) := .mk1 F22 (ok_law_right F22 T Dtrouble_of) (PySem.W.mg_of X G a22) b22
  exact oklaw F23 T D_law_deck D_law_paths D_law_trouble D_law_right Dtrouble_of
end Cl
open PySem PySem.W PyProof.Rows
set_option maxHeartbeats 0 in
theorem PySem.Challenge.cw_cornerlines_k28_trouble_of_any_paths_holds : PySem.Challenge.rw_cornerlines_k28_trouble_of_any_paths.Holds := by
  w_on; o_law; k_head; (case hw => w_witness2)
  k_fill
  refine Cl.endG (l := PySem.Challenge.rw_cornerlines_k28_trouble_of_any_paths) (n := 63) (k := 8) (x := "_law_script") (sp := fun w => Cl.spLaw _) rfl (by decide) rfl ⟨⟨rfl, by decide, by decide⟩, rfl⟩ (fun w h Y => PySem.W.kIn_of Y) ?F (fun _ _ a ns hl _ _ hS => ⟨a, ns, rfl, hS, hl, fun _ => rfl⟩)
  case F =>
    intro w mg fa h KX G hmg
    refine' Cl.all_mk KX G hmg ?a0 ?l0 ?c0 ?k0 ?a1 ?l1 ?c1 ?k1 ?a2 ?l2 ?c2 ?k2 ?a3 ?l3 ?c3 ?k3 ?a4 ?l4 ?c4 ?k4 ?a5 ?l5 ?c5 ?k5 ?a6 ?l6 ?c6 ?k6 ?a7 ?l7 ?c7 ?k7 ?a8 ?l8 ?c8 ?k8 ?a9 ?l9 ?c9 ?k9 ?a10 ?l10 ?c10 ?k10 ?a11 ?l11 ?c11 ?k11 ?a12 ?l12 ?c12 ?k12 ?a13 ?l13 ?c13 ?k13 ?a14 ?l14 ?c14 ?k14 ?a15 ?l15 ?c15 ?k15 ?a16 ?l16 ?c16 ?k16 ?a17 ?l17 ?c17 ?k17 ?a18 ?l18 ?c18 ?k18 ?a19 ?l19 ?c19 ?k19 ?a20 ?l20 ?c20 ?k20 ?a21 ?l21 ?c21 ?k21 ?a22 ?l22 ?c22 ?k22 ?a23 ?l23 ?c23 ?k23 ?z0 ?z1 ?z2 ?z3 ?z4 ?z5 ?z6 ?z7 ?z8 ?z9 ?z10 ?z11 ?z12
    (case a0 => k_is); (case l0 => k_is); (case c0 => k_is); (case k0 => k_is); (case a1 => k_is); (case l1 => k_is); (case c1 => k_is); (case k1 => k_is); (case a2 => k_is); (case l2 => k_is); (case c2 => k_is); (case k2 => k_is); (case a3 => k_is); (case l3 => k_is); (case c3 => k_is); (case k3 => k_is); (case a4 => k_is); (case l4 => k_is); (case c4 => k_is); (case k4 => k_is); (case a5 => k_is); (case l5 => k_is); (case c5 => k_is); (case k5 => k_is); (case a6 => k_is); (case l6 => k_is); (case c6 => k_is); (case k6 => k_is); (case a7 => k_is); (case l7 => k_is); (case c7 => k_is); (case k7 => k_is); (case a8 => k_is); (case l8 => k_is); (case c8 => k_is); (case k8 => k_is); (case a9 => k_is); (case l9 => k_is); (case c9 => k_is); (case k9 => k_is); (case a10 => k_is); (case l10 => k_is); (case c10 => k_is); (case k10 => k_is); (case a11 => k_is); (case l11 => k_is); (case c11 => k_is); (case k11 => k_is); (case a12 => k_is); (case l12 => k_is); (case c12 => k_is); (case k12 => k_is); (case a13 => k_is); (case l13 => k_is); (case c13 => k_is); (case k13 => k_is); (case a14 => k_is); (case l14 => k_is); (case c14 => k_is); (case k14 => k_is); (case a15 => k_is); (case l15 => k_is); (case c15 => k_is); (case k15 => k_is); (case a16 => k_is); (case l16 => k_is); (case c16 => k_is); (case k16 => k_is); (case a17 => k_is); (case l17 => k_is); (case c17 => k_is); (case k17 => k_is); (case a18 => k_is); (case l18 => k_is); (case c18 => k_is); (case k18 => k_is); (case a19 => k_is); (case l19 => k_is); (case c19 => k_is); (case k19 => k_is); (case a20 => k_is); (case l20 => k_is); (case c20 => k_is); (case k20 => k_is); (case a21 => k_is); (case l21 => k_is); (case c21 => k_is); (case k21 => k_is); (case a22 => k_is); (case l22 => k_is); (case c22 => k_is); (case k22 => k_is); (case a23 => k_is); (case l23 => k_is); (case c23 => k_is); (case k23 => k_is); (case z0 => k_is); (case z1 => k_is); (case z2 => k_is); (case z3 => k_is); (case z4 => k_is); (case z5 => k_is); (case z6 => k_is); (case z7 => k_is); (case z8 => k_is); (case z9 => k_is); (case z10 => k_is); (case z11 => k_is); (case z12 => k_is)

