import PyProof.Rows.All
import Wide.All
import OpenK.AllK
import Wide.FinOn
import PySem.Challenge.RW_cornerlines_k14_papers_that_nothing_want
import HandS.ForMost
import HandS.Wide
import HandS.EndBits
import HandS.AnyAll
import HandS.EndTab
import PyProof.ReprRoads
import KE.KRevSl
import HandS.IsInst
import HandS.TryOnly
import PyProof.GenCompD
import KE.KIsAll
import KE.DataMinMax
import HandS.TupSets
import KE.SortData
import HandS.Style
import KE.GoesNew
import KE.GoesMore
import HandS.Iter
import HandS.Zip
import HandS.Star
import HandS.Walk
import HandS.SortInts
import HandS.TupAny
import KE.GoesEnum
import PyProof.WalksPairs
import HandS.Lambda
import KE.KMinKey
import HandS.SortKw
import HandS.DictTup
import HandS.SetKeys
import HandS.SortRule
import HandS.Conv
import PyProof.DictMoreH
import KE.KSortTupAny
import HandS.SortOrd
import HandS.GenOver
import HandS.GenList
set_option Elab.async false
set_option linter.all false
set_option maxRecDepth 100000
namespace Cl
open PySem PySem.Spec PyProof.Rows L2

/-! ### promises of defs that may be shown (repr) what stands on no guard's list -/
structure RG (k : Nat) (A : Around) : Prop where
  room : Room k A
  gd : A.guards = some []
theorem RG.mono {j k : Nat} {A : Around} (r : RG k A) (h : j ≤ k) : RG j A :=
  ⟨r.room.mono h, r.gd⟩
structure FnG (P : Program) (w : World) (K : PySem.W.Frag) (mg : Str → Option Value)
    (base : Heap) (CX : CXT) (k : Nat) (f : Addr) (fd : FuncData) (ps : List Str) (sp : Sp) : Prop where
  len : ∀ vs H Q E, sp vs H Q E → vs.length = ps.length
  run : ∀ A outer s H args us vs Q E, RG k A → Env0 P w K mg base A outer s H →
    BindsTo s fd args (ps.zip us) → Vals vs us → sp vs H Q E →
    codeAny (model P w) A (.call (.ref f) args) (CR CX outer P w H s Q E) s
section
variable {P : Program} {w : World} {K : PySem.W.Frag} {mg : Str → Option Value} {base : Heap} {CX : CXT}
theorem toG {k : Nat} {f : Addr} {fd : FuncData} {ps : List Str} {sp : Sp}
    (F : FnOk P w K mg base CX k f fd ps sp) : FnG P w K mg base CX k f fd ps sp :=
  ⟨F.len, fun A outer s H args us vs Q E r => F.run A outer s H args us vs Q E r.room⟩

/-- a def with what its body does, where no guard is set -/
theorem okG {x qual : Str} {st : Stmt} {f : Addr} {fd : FuncData} {N ps : List Str} {k : Nat} {sp : Sp}
    (F : Fun K x qual st f fd) (S : FnScope N ps (defScope st))
    (len : ∀ vs H Q E, sp vs H Q E → vs.length = ps.length)
    (body : ∀ (cdv : Value) (A : Around) (outer : List Env) (s : Shared) (H : Hp) (vs : List V) (Q : VK) (E : XK),
      RG k (A.deeper (envOfC qual (defScope st) s.heap.objs.size f cdv)) → sp vs H Q E →
      ∃ t, PSs (cxOf CX0 P w K mg base N qual (defScope st) f cdv A outer s H E).nox (defBody st) t ∧
        t { nx := fun _ H' => Q .non H', rt := Q } (start N vs) H) :
    FnG P w K mg base CX0 (k + 1) f fd ps sp := by
  obtain ⟨oc, od, kV, doc, pm, an, cdv, ct, osl, rfl, lk, hcd⟩ := F.ex
  constructor
  · exact len
  intro A outer s H args us vs Q E hr e0 hb r hsp
  have nvs := len _ _ _ _ hsp
  have keepB : ∀ b o, base.get? b = some o → s.heap.get? b = some o := fun b o z => (e0.bs b o z).1
  have inK : K.In s.heap := e0.mod.kin.keeps keepB
  have nolim : s.heap.NoLimit := e0.mod.nolimit.keeps keepB
  have kinds : ∀ y ∈ ps.zip us, (defScope st).names.lookup y.1 = some .local ∨
      ((defScope st).names.lookup y.1 = some .cell ∧
        ((cellsFrom (s.heap.objs.size + 1) (defScope st).names []).lookup y.1).isSome = true) := by
    rintro ⟨n, v⟩ hy
    rcases S.par n (List.of_mem_zip hy).1 with z | z
    · exact .inl z
    · exact .inr ⟨z, PySem.W.cellsFrom_some _ _ _ (.inl z)⟩
  refine codeAny_call_function hr.room.depth (inK _ _ lk) rfl S.co S.gen rfl
    (PySem.W.codeRec_of inK hcd) (hb _ _ _ _ ?_)
  refine wpAny_newFunctionEnv_cells S.kind kinds fun env he s1 x => ?_
  subst he
  refine ⟨nolim.keeps x.toInCall.keep, codeAny_func ?_⟩
  have hr2 : RG k (A.deeper (envOfC qual (defScope st) s.heap.objs.size f cdv)) := ⟨hr.room.deeper _, hr.gd⟩
  obtain ⟨t, ht, hq⟩ := body cdv A outer s H vs Q E hr2 hsp
  have I : Inv (cxOf CX0 P w K mg base N qual (defScope st) f cdv A outer s H E) [] (start N vs) H s1 :=
    inv_start S hr.room.hd e0 nvs r x
  refine wpAny_mono (ht.nox.run [] s1 (start N vs) H _ I hq) (fun fl s' hs => ?_) fun _ _ z => z
  match fl, hs with
  | .ret u, ⟨v, σ', H', J, rv, q⟩ => exact ⟨v, H', J.os, J.bare, J.base, J.hok, rv, q⟩
  | .next, ⟨σ', H', J, q⟩ => exact ⟨V.non, H', J.os, J.bare, J.base, J.hok, rfl, q⟩
  | .brk, ⟨_, _, _, q⟩ => exact q.elim
  | .cont, ⟨_, _, _, q⟩ => exact q.elim
end

section
variable {X : Cx} {CX : CXT} {k : Nat} {f : Addr} {fd : FuncData} {ps : List Str} {sp : Sp} {dvs : List V}
  {ds : List Value} {E : XK} {x : Str} {p pos : Pos} {e : Expr} {es : List Expr} {t : TA}
/-- f(e, ..) of such a def -/
theorem callG (F : FnG X.prog X.w X.K X.mg X.base CX k f fd ps sp) (hr : RG k X.A) (hg : Gl X x)
    (hm : X.mg x = some (.ref f)) (hk : PySem.W.keepIn X.K (.ref f) = true) (hb : Binds X.K fd ps ds)
    (hd : Vals dvs ds) (hx : Passes CX X E) (ha : PA X (e :: es) t)
    (hdb : (x == ("__debug__" : Str)) = false := by decide)
    (he : starEach (e :: es) X.env = (false, eval e X.env) :: starEach es X.env := by rfl)
    (hpl : (backTo pos (starEach es X.env)).any (·.1) = false := by rfl) :
    PE X (.Call (.Name x p) (e :: es) [] pos) (tCall sp dvs E t) := by
  constructor
  intro pins s σ H Q I h
  refine wpAny_Call_Name_kw (ld_glob I hg hm ?_ hdb)
  refine PySem.W.callWith_K (h₀ := X.base) I.ok.mod.kin hk ?_ he hpl
  refine thn (ha.run pos pins s σ H _ I h) fun us s1 ⟨vs, H1, I1, r, q⟩ => ⟨I1.kIn, ?_⟩
  have r2 : Vals (vs ++ dvs) (us ++ ds) := r.append hd
  have n2 : (us ++ ds).length = ps.length := r2.length.symm.trans (F.len _ _ _ _ q)
  have run := F.run X.A X.stack s1 H1 ⟨us, []⟩ (us ++ ds) (vs ++ dvs) Q E hr I1.env0 (hb s1 us I1.kIn n2) r2 q
  refine wpAny_call (codeAny_mono run fun res s' hq => ?_)
  match res, hq with
  | .error ee, hq => exact hx pins σ H1 s1 ee s' I1 hq
  | .ok (.ret u), hq => exact I1.after hq
  | .ok .next, hq => exact hq.elim
  | .ok .brk, hq => exact hq.elim
  | .ok .cont, hq => exact hq.elim
end

/-! ### repr of data -/
section
variable {X : Cx}
/-- what repr asks of a datum that stands at v -/
def rRepr (K : PySem.W.Frag) : List V → Hp → VK → Prop := fun xs H Q => ∃ v d, xs = [v] ∧ Dp K H v d ∧
  d.showable = true ∧ d.hasDict = false ∧ d.depth ≤ 60 ∧ d.shown.length ≤ sizeLine ∧ Q (.str d.shown) H
theorem call_reprD (hg : X.A.guards = some []) (hu : X.A.units + 64 < cLine) : CallR X (.builtin "repr") (rRepr X.K) := by
  intro pins s σ H xs us Q I r h
  obtain ⟨v, d, rfl, hd, hs, hn, hdp, hl, q⟩ := h
  obtain ⟨u, rfl, ru⟩ := vals1 r
  cases hd with
  | non => cases ru; exact PySem.P.repr_of_none ⟨.str _, H, I.tok _, ⟨_, rfl⟩, q⟩
  | bl b => cases ru; exact PySem.P.repr_of_bool ⟨.str _, H, I.tok _, ⟨_, rfl⟩, q⟩
  | int i => obtain ⟨t, rfl⟩ := ru; exact PySem.P.repr_of_int (by simpa [PyData.showable] using hs) ⟨.str _, H, I.tok _, ⟨_, rfl⟩, q⟩
  | str x => obtain ⟨t, rfl⟩ := ru; exact PySem.P.repr_of_str ⟨.str _, H, I.tok _, ⟨_, rfl⟩, q⟩ (by simpa [PyData.shown] using hl)
  | lst h1 h2 =>
    cases ru
    obtain ⟨as, rd⟩ := Dp.reads I _ _ _ (Dp.lst h1 h2) rfl
    exact repr_of_reads' rd hs (fun z => by rw [hn] at z; cases z) hg (by omega) (fun _ _ z => z) (fun h' u tk hk => ⟨.str _, H, I.kept hk, ⟨_, rfl⟩, q⟩) hl
  | tup h1 h2 =>
    cases ru
    obtain ⟨as, rd⟩ := Dp.reads I _ _ _ (Dp.tup h1 h2) rfl
    exact repr_of_reads' rd hs (fun z => by rw [hn] at z; cases z) hg (by omega) (fun _ _ z => z) (fun h' u tk hk => ⟨.str _, H, I.kept hk, ⟨_, rfl⟩, q⟩) hl
end
/-! ### the end: the law's call, from a promise of this kind -/
theorem endG {l : PySem.W.OpenLaw} {n k : Nat} {q : Program} {loose : List Str} {XP : (Str → Option Value) → Heap → Prop}
    {YP : World → Heap → Prop} {d : DefRec} {K : Params → PySem.W.Frag} {sp : World → Sp} {x : Str}
    (hn : l.most = some n) (hn2 : n ≤ sizeLine) (hdf : d.params.defaults = []) (hr : RG k callerA)
    (hY : ∀ (w : World) (h : Heap), YP w h → (K w.params).In h)
    (F : ∀ (w : World) (mg : Str → Option Value) (fa : Addr) (h : Heap), (K w.params).In h → h.Ns mainGlobals mg →
      mg d.name = some (.ref fa) → ∃ fd : FuncData, (∀ (s : Shared) (u : Value), BindsTo s fd ⟨[u], []⟩ [(x, u)]) ∧
        ∀ base : Heap, (K w.params).In base → base.Ns mainGlobals mg → FnG l.prog w (K w.params) mg base CX0 k fa fd [x] (sp w))
    (hsp : ∀ (w : World) (H : Hp) (a : Addr) (ns : List Int), ns.length ≤ n → (∀ z ∈ ns, Builtin.Int.intBits z ≤ 1048576) →
      Only H → SqL (K w.params) H a (ns.map V.int) → sp w [.ref a] H (fun v _ => v = .bl true) E0) :
    PySem.W.WalkO q loose XP YP l.row.toRowW d [] (fun f vs => PySem.call f vs) := by
  refine Att.attach_callB hn hdf fun w s₀ s1 mg mb fa o pm cd doc a us ns G Y ho hd hcd hmg obj hints nlen bits gens => ?_
  have inK : (K w.params).In s1.heap := hY w _ Y
  obtain ⟨fd, bind, hF⟩ := F w mg fa _ inK G.T.g hmg
  have rv := vals_ints hints
  have nv : us.length = ns.length := hints.length
  have go : ∀ H : Hp, Only H → SqL (K w.params) H a (ns.map V.int) → HOk l.prog w H s1.heap → (∀ b, H b ≠ none → b = a) →
      (H a ≠ none → (K w.params).lookup a = none) → codeAny (model l.prog w) callerA (.call (.ref fa) ⟨[.ref a], []⟩)
        (fun r s' => r = .ok (.ret (.bool true)) ∧ OldK s1.heap s'.heap ∧ s'.os = s1.os ∧ AllBare s'.gens) s1 := by
    intro H only hS hok atA offK
    have none_or : ∀ b, H b = none ∨ b = a := fun b => by
      cases z : H b with
      | none => exact .inl rfl
      | some u => exact .inr (atA b (by rw [z]; intro y; cases y))
    have left : ∀ {b : Addr} {o : Obj}, s1.heap.get? b = some o → H b = none → (hidT s1.heap H).get? b = some o :=
      fun e z => hidT_get e z
    have notA : ∀ {b : Addr} {o : Obj} {es : Array DictEntry} {ep : Nat},
        s1.heap.get? b = some o → o.data = .dict es ep → H b = none := fun {b o es ep} e z => by
      rcases none_or b with y | rfl
      · exact y
      · rw [obj] at e
        cases e
        cases (show Data.seq us.toArray _ = Data.dict es ep from z)
    have spaces : ∀ {b : Addr} {m : Str → Option Value}, s1.heap.Ns b m → (hidT s1.heap H).Ns b m :=
      fun {b m} ⟨o, es, ep, e, z, r⟩ => ⟨o, es, ep, left e (notA e z), z, r⟩
    have inB : (K w.params).In (hidT s1.heap H) := fun b o e => left (inK b o e) (by
      rcases none_or b with y | rfl
      · exact y
      · cases z : H b with
        | none => rfl
        | some u =>
          rw [offK (by rw [z]; intro y; cases y)] at e
          cases e)
    have md : Mod (K w.params) mg (hidT s1.heap H) := by
      obtain ⟨mc, c1, c2⟩ := G.T.nolimit
      exact ⟨inB, spaces G.T.g, ⟨mb, spaces G.T.b, G.T.builtins⟩, ⟨mc, spaces c1, c2⟩⟩
    have e0 : Env0 l.prog w (K w.params) mg (hidT s1.heap H) callerA [] s1 H :=
      ⟨rfl, md, fun b o e => of_hidT e, Nat.le_of_eq (hidT_size _ _), trivial, fun b z => (nomatch z), hok, .of_eq gens⟩
    have run := (hF _ inB (spaces G.T.g)).run callerA [] s1 H ⟨[.ref a], []⟩ [.ref a] [.ref a] _ _ hr e0
      (bind s1 (.ref a)) (.cons rfl .nil) (hsp w H a ns nlen bits only hS)
    refine codeAny_mono run fun res s' h => ?_
    match res, h with
    | .error e, h => exact h.elim
    | .ok .next, h => exact h.elim
    | .ok .brk, h => exact h.elim
    | .ok .cont, h => exact h.elim
    | .ok (.ret u), ⟨v, H', os, bare, un, hok', r', q⟩ =>
      have q' : v = .bl true := q
      subst q'
      have r2 : u = Value.bool true := r'
      subst r2
      refine ⟨rfl, OldK.of_keep fun b o e => ?_, os, bare⟩
      cases z : H b with
      | none => exact un.keep b o e z (fun y => (nomatch y)) (fun y => (nomatch y))
      | some u =>
        rcases only b with y | ⟨ob, xs, y⟩
        · rw [z] at y
          cases y
        · obtain ⟨e1, _⟩ := hok b _ y
          obtain ⟨e2, _⟩ := hok' b _ (un.frzs b ob _ y)
          rw [e] at e1
          cases e1
          exact e2
  have small : ns.length ≤ sizeLine := Nat.le_trans nlen hn2
  cases hk : (K w.params).lookup a with
  | some o =>
    have e := inK a o hk
    rw [obj] at e
    cases e
    refine go (fun _ => none) (fun _ => .inl rfl) (.inr ⟨_, us.toArray, _, hk, rfl, rfl, rfl, ?_, by simpa using rv⟩)
      (fun b u z => nomatch z) (fun b z => absurd rfl z) fun z => absurd rfl z
    rw [List.size_toArray, nv]
    exact small
  | none =>
    let ob : Obj := { cls := .type "list", data := .seq us.toArray }
    have at_ : ∀ b, (fun c => if c = a then some (HO.frz ob (.lst (ns.map V.int))) else none : Hp) b ≠ none → b = a := fun b z => by
      by_cases y : b = a
      · exact y
      · exact absurd (if_neg y) z
    refine go (fun c => if c = a then some (.frz ob (.lst (ns.map V.int))) else none) (fun b => ?_) (.inl (.inr ⟨ob, if_pos rfl⟩))
      (fun b u z => ?_) at_ fun _ => hk
    · by_cases y : b = a
      · exact .inr ⟨_, _, if_pos y⟩
      · exact .inl (if_neg y)
    · obtain rfl := at_ b (by rw [z]; intro y; cases y)
      have z' := (if_pos rfl).symm.trans z
      cases z'
      exact ⟨obj, by rw [List.length_map]; exact small, us, _, rv, obj⟩
end Cl

namespace Cl
open PySem PySem.Spec PyProof.Rows L2
/-- what stood there stands there; a code object's table may have grown -/
def Keep (x : Option HO) (o : HO) : Prop := match o with
  | .tbl ps => TriplesOk ps.toList → ∃ ps' : Array Value, x = some (.tbl ps') ∧ TriplesOk ps'.toList
  | o => x = some o
theorem Keep.of {x : Option HO} {o : HO} (h : x = some o) : Keep x o := by
  cases o <;> first | exact h | exact fun t => ⟨_, h, t⟩
def Same (H H' : Hp) : Prop := ∀ b o, H b = some o → Keep (H' b) o
theorem Same.refl (H : Hp) : Same H H := fun _ _ e => .of e
theorem Same.trans {H H1 H2 : Hp} (a : Same H H1) (b : Same H1 H2) : Same H H2 := fun c o h => by
  have k := a c o h
  cases o with
  | tbl ps => exact fun t => let ⟨ps1, e1, t1⟩ := k t; b c (.tbl ps1) e1 t1
  | _ => exact b c _ k
theorem Same.upN {H H' : Hp} {p : Addr} {o : HO} (s : Same H H') (h : H p = none) : Same H (upd H' p o) := fun b x e => by
  rw [upd_ne (ne_of_none e h)]
  exact s b x e
theorem same_new {H : Hp} {p : Addr} {o : HO} (h : H p = none) : Same H (upd H p o) := (Same.refl H).upN h
/-- what is handed on where a new object stands at its place -/
def New (H : Hp) (o : HO) (Q : VK) : Prop := ∀ p H', H p = none → Same H H' → H' p = some o → Q (.ref p) H'
theorem New.go {H : Hp} {o : HO} {Q : VK} (h : New H o Q) : ∀ p, H p = none → Q (.ref p) (upd H p o) :=
  fun p n => h p _ n (same_new n) upd_same
section
variable {X : Cx} {e : Expr} {te : TE}
theorem valsRev : ∀ {xs : List V} {us : List Value}, Vals xs us → Vals xs.reverse us.reverse
  | _, _, .nil => .nil
  | _, _, .cons r t => by
    rw [List.reverse_cons, List.reverse_cons]
    exact (valsRev t).append (.cons r .nil)
/-- xs[::-1] of a list -/
def tRevL (K : PySem.W.Frag) (te : TE) : TE := fun σ H Q => te σ H fun x H1 => ∃ a xs, x = .ref a ∧ SqL K H1 a xs ∧ New H1 (.lst xs.reverse) Q
theorem pe_revL {p0 p1 p2 pos : Pos} {j : Nat} (he : PE X e te) :
    PE X (.Subscript e (.Slice none none (some (.UnaryOp .USub (.Constant (.int 1) j p0) p1)) p2) pos) (tRevL X.K te) := by
  constructor
  intro pins s σ H Q I h
  refine Subscript_ (thn (he.run pins s σ H _ I h) fun v s1 ⟨x, H1, I1, r1, a, xs, hx, hl, q⟩ => ?_)
  subst hx
  cases r1
  refine wpAny_Slice ?_
  rw [evalPart_none]
  refine wpAny_pure ?_
  refine wpAny_pure ?_
  rw [evalPart_some]
  have hneg : PE X (.UnaryOp .USub (.Constant (.int 1) j p0) p1) _ := pe_un un_neg pe_int
  refine thn (hneg.run pins s1 σ H1 (fun y H2 => y = .int (-1) ∧ H2 = H1) I1 ⟨1, rfl, rfl, rfl⟩) fun u s2 ⟨y, H2, I2, ry, hy, hH⟩ => ?_
  subst hy hH
  obtain ⟨t, rfl⟩ := ry
  obtain ⟨its, r, ht, hz⟩ := I2.list hl
  have I4 : Inv X pins σ H2 { s2 with heap := s2.heap.push { cls := .type "slice", data := .fields #[.none, .none, .int (-1) t] } } :=
    I2.kept (t' := s2.toks) fun b ob q => Heap.get?_push_of_some _ q
  obtain ⟨its, r, ht, hz⟩ := I4.list hl
  have hlen := r.length
  refine tail_any ht.isList.typeIs slot_list_getitem.lookup ?_ (by with_unfolding_all rfl)
  refine wpAny_getItem_list_slice ht.isList (Heap.IsSliceOf.new ..) .none .none (.int (-1) t) (by decide) ?_ (by rw [List.size_toArray] <;> omega)
  rw [PySem.W.krv_pick]
  refine ⟨.ref _, _, I4.laid (t' := s2.toks) (o := .lst xs.reverse) (fun b ob q => Heap.get?_push_of_some _ q) (Nat.le_refl _) ?_, rfl, q.go _ (I4.hok.fresh (Nat.le_refl _))⟩
  exact ⟨by rw [List.length_reverse]; exact hz, _, 0, valsRev r, Heap.get?_push_size _ rfl⟩
end
end Cl

namespace Cl
open PySem PySem.Spec PyProof.Rows L2

/-! ### a def of the text, with its promise -/
structure Def (P : Program) (w : World) (K : PySem.W.Frag) (mg : Str → Option Value) (base : Heap)
    (k : Nat) (x : Str) (ps : List Str) (sp : Sp) : Prop where
  ex : ∃ f fd, FnG P w K mg base CX0 k f fd ps sp ∧ mg x = some (.ref f) ∧
    PySem.W.keepIn K (.ref f) = true ∧ Binds K fd ps []
section
variable {X : Cx} {k : Nat} {ps : List Str} {sp : Sp} {x : Str} {p pos : Pos} {e : Expr} {es : List Expr} {t : TA}
theorem callD (D : Def X.prog X.w X.K X.mg X.base k x ps sp) (hr : RG k X.A) (ha : PA X (e :: es) t)
    (hg : Gl X x := by rfl) (hdb : (x == ("__debug__" : Str)) = false := by decide)
    (he : starEach (e :: es) X.env = (false, eval e X.env) :: starEach es X.env := by rfl)
    (hpl : (backTo pos (starEach es X.env)).any (·.1) = false := by rfl) :
    PE X (.Call (.Name x p) (e :: es) [] pos) (tCall sp [] E0 t) := by
  obtain ⟨f, fd, F, hm, hk, hb⟩ := D.ex
  exact callG F hr hg hm hk hb .nil pass0 ha hdb he hpl
end
section
variable {P : Program} {w : World} {K : PySem.W.Frag} {mg : Str → Option Value} {base : Heap}
theorem Def.mk1 {k : Nat} {x qual : Str} {st : Stmt} {f : Addr} {fd : FuncData} {ps : List Str} {sp : Sp}
    (F : Fun K x qual st f fd) (G : FnG P w K mg base CX0 k f fd ps sp) (hm : mg x = some (.ref f))
    (b : Binds K fd ps []) : Def P w K mg base k x ps sp := ⟨f, fd, G, hm, F.kp, b⟩
end

/-! ### heaps -/
theorem Same.rfl' {H : Hp} : Same H H := .refl H
/-! ### rules that hand on a heap in which a new object stands -/
section
variable {X : Cx} {es : List Expr} {e : Expr} {t : TA} {te : TE} {pos : Pos}
def tTupN (t : TA) : TE := fun σ H Q => t σ H fun xs H1 => xs.length ≤ sizeLine ∧ New H1 (.tup xs) Q
def tLstN (t : TA) : TE := fun σ H Q => t σ H fun xs H1 => xs.length ≤ sizeLine ∧ New H1 (.lst xs) Q
theorem tupN {j} (h : PA X es t) : PE X (.Tuple es j pos) (tTupN t) := by
  constructor
  intro pins s σ H Q I hq
  refine wpAny_Tuple_spliced ?_
  refine thn (h.run pos pins s σ H _ I hq) fun us s1 ⟨xs, H1, I1, r, z, q⟩ => ⟨by rw [← r.length]; exact z, ?_⟩
  refine ⟨.ref s1.heap.objs.size, _, I1.laid (t' := s1.toks) (o := .tup xs) (fun b u e => Heap.get?_push_of_some _ e) (Nat.le_refl _) ?_, rfl,
    q.go _ (I1.hok.fresh (Nat.le_refl _))⟩
  exact ⟨z, us, r, ⟨_, Heap.get?_push_size _ rfl, rfl, _, rfl⟩⟩
theorem lstN (h : PA X es t) : PE X (.List es pos) (tLstN t) := by
  constructor
  intro pins s σ H Q I hq
  refine wpAny_List_spliced ?_
  refine thn (h.run pos pins s σ H _ I hq) fun us s1 ⟨xs, H1, I1, r, z, q⟩ => ⟨by rw [← r.length]; exact z, ?_⟩
  refine ⟨.ref s1.heap.objs.size, _, I1.laid (t' := s1.toks) (o := .lst xs) (fun b u e => Heap.get?_push_of_some _ e) (Nat.le_refl _) ?_, rfl,
    q.go _ (I1.hok.fresh (Nat.le_refl _))⟩
  exact ⟨z, us, 0, r, Heap.get?_push_size _ rfl⟩
def rSlLN (K : PySem.W.Frag) : V → Option Int → Option Int → Hp → VK → Prop := fun x lo hi H Q =>
  ∃ a xs, x = .ref a ∧ SqL K H a xs ∧ New H (.lst (cutV xs lo hi)) Q
theorem sl_listN : SlR X (rSlLN X.K) := fun pins s σ H x v vl vu lo hi sl Q I rx hs pl pu ⟨a, xs, h1, h2, q⟩ =>
  sl_list pins s σ H x v vl vu lo hi sl Q I rx hs pl pu ⟨a, xs, h1, h2, q.go⟩
def rSlTN (K : PySem.W.Frag) : V → Option Int → Option Int → Hp → VK → Prop := fun x lo hi H Q =>
  ∃ a xs, x = .ref a ∧ SqT K H a xs ∧ ¬ (HT.sIx xs.length 0 lo = 0 ∧ HT.sIx xs.length xs.length hi = xs.length) ∧ New H (.tup (cutV xs lo hi)) Q
theorem sl_tupN : SlR X (rSlTN X.K) := fun pins s σ H x v vl vu lo hi sl Q I rx hs pl pu ⟨a, xs, h1, h2, h3, q⟩ =>
  sl_tup pins s σ H x v vl vu lo hi sl Q I rx hs pl pu ⟨a, xs, h1, h2, h3, q.go⟩
theorem call_list_ofN : CallR X (.type "list") (fun xs H Q => ∃ p ys, xs = [.ref p] ∧ (SqL X.K H p ys ∨ SqT X.K H p ys) ∧ New H (.lst ys) Q) :=
  fun pins s σ H xs us Q I r ⟨p, ys, h1, h2, q⟩ => call_list_of pins s σ H xs us Q I r ⟨p, ys, h1, h2, q.go⟩
end
/-! ### cuts: what stands between two statements, or behind a part, by a word of one's own -/
section
variable {X : Cx} {st : Stmt} {rest : List Stmt} {t u : TS} {e : Expr} {te : TE} {tt : TT}
def tCut (t u : TS) : TS := fun D σ H => ∃ M : L2.St → Hp → Prop, t { D with nx := M } σ H ∧ ∀ σ' H', M σ' H' → u D σ' H'
theorem cutS (h1 : PS X st t) (h2 : PSs X rest u) : PSs X (st :: rest) (tCut t u) := by
  constructor
  rintro pins s σ H D I ⟨M, h, k⟩
  refine wpAny_execs_cons (thn (h1.run pins s σ H _ I h) fun f s1 q => ?_)
  match f, q with
  | .next, ⟨σ', H', I', q⟩ => exact h2.run pins s1 σ' H' D I' (k _ _ q)
  | .ret v, q => exact q
  | .brk, q => exact q
  | .cont, q => exact q
def tMid (te : TE) : TE := fun σ H Q => ∃ M : VK, te σ H M ∧ ∀ v H', M v H' → Q v H'
theorem cutE (h : PE X e te) : PE X e (tMid te) := ⟨fun pins s σ H Q I ⟨M, h1, k⟩ =>
  thn (h.run pins s σ H M I h1) fun v s1 ⟨x, H1, I1, r1, q1⟩ => ⟨x, H1, I1, r1, k _ _ q1⟩⟩
def tMidT (tt : TT) : TT := fun σ H Q => ∃ M : Bool → Hp → Prop, tt σ H M ∧ ∀ b H', M b H' → Q b H'
theorem cutT (h : PT X e tt) : PT X e (tMidT tt) := ⟨fun pins s σ H Q I ⟨M, h1, k⟩ =>
  thn (h.run pins s σ H M I h1) fun b s1 ⟨H1, I1, q1⟩ => ⟨H1, I1, k _ _ q1⟩⟩
end
def lcL {K : PySem.W.Frag} {a : Addr} {xs : List V} {g : TG} {tt : TT} {te : TE} {vs : List Nat} {σ : L2.St} {H1 : Hp} {D : Addr} {Qd : Hp → Prop}
    (Pv : Nat → Hp → Prop) (hD : H1 D = none) (h0 : ∀ H', Same H1 H' → H' D = some (.lst []) → Pv 0 H') (hl : ∀ i H, i ≤ xs.length → Pv i H → SqL K H a xs)
    (hs : ∀ i x H, xs[i]? = some x → Pv i H → g x (wipe σ vs) H fun σ2 H2 => wipe σ2 vs = wipe σ vs ∧ tt σ2 H2 fun b H3 =>
      if b = true then te σ2 H3 fun y H4 => ∃ acc, H4 D = some (.lst acc) ∧ acc.length < sizeLine ∧ Pv (i + 1) (upd H4 D (.lst (acc ++ [y]))) else Pv (i + 1) H3)
    (hd : ∀ H, Pv xs.length H → Qd H) :=
  lc_list (K := K) (a := a) (xs := xs) (g := g) (tt := tt) (te := te) (vs := vs) (σ := σ) (H1 := H1) (D := D) (Qd := Qd) Pv (h0 _ (same_new hD) upd_same) hl hs hd
def lcT {K : PySem.W.Frag} {a : Addr} {xs : List V} {g : TG} {tt : TT} {te : TE} {vs : List Nat} {σ : L2.St} {H1 : Hp} {D : Addr} {Qd : Hp → Prop}
    (Pv : Nat → Hp → Prop) (hD : H1 D = none) (h0 : ∀ H', Same H1 H' → H' D = some (.lst []) → Pv 0 H') (hl : ∀ i H, i ≤ xs.length → Pv i H → SqT K H a xs)
    (hs : ∀ i x H, xs[i]? = some x → Pv i H → g x (wipe σ vs) H fun σ2 H2 => wipe σ2 vs = wipe σ vs ∧ tt σ2 H2 fun b H3 =>
      if b = true then te σ2 H3 fun y H4 => ∃ acc, H4 D = some (.lst acc) ∧ acc.length < sizeLine ∧ Pv (i + 1) (upd H4 D (.lst (acc ++ [y]))) else Pv (i + 1) H3)
    (hd : ∀ H, Pv xs.length H → Qd H) :=
  lc_tup (K := K) (a := a) (xs := xs) (g := g) (tt := tt) (te := te) (vs := vs) (σ := σ) (H1 := H1) (D := D) (Qd := Qd) Pv (h0 _ (same_new hD) upd_same) hl hs hd
/-- the heap without the deck -/
def hide (d l : Addr) (H : Hp) : Hp := fun b => if b = d ∨ b = l then none else H b
theorem hide_at {d l b : Addr} {H : Hp} {o : HO} (h : hide d l H b = some o) : b ≠ d ∧ b ≠ l ∧ H b = some o := by
  unfold hide at h
  split at h
  · cases h
  · rename_i n
    exact ⟨fun e => n (.inl e), fun e => n (.inr e), h⟩
theorem hide_ne {d l b : Addr} {H : Hp} (h1 : b ≠ d) (h2 : b ≠ l) : hide d l H b = H b := by
  unfold hide
  rw [if_neg]
  rintro (e | e)
  · exact h1 e
  · exact h2 e
/-- the deck stands: a list of the script's rest, its number, its count -/
structure Deck (H : Hp) (d l : Addr) : Prop where
  ne : d ≠ l
  ex : ∃ (ns : List Int) (s c : Int), H d = some (.lst [.ref l, .int s, .int c]) ∧ H l = some (.lst (ns.map V.int)) ∧ ns.length ≤ 63
/-- the deck still stands, and all else that stood stands -/
structure Step (d l : Addr) (H H' : Hp) : Prop where
  deck : Deck H' d l
  same : Same (hide d l H) (hide d l H')
section
variable {d l p a : Addr} {H H' H2 : Hp} {o : HO} {K : PySem.W.Frag} {xs : List V}
theorem Deck.nd (D : Deck H d l) (h : H p = none) : p ≠ d ∧ p ≠ l := by
  obtain ⟨ns, s, c, h1, h2, _⟩ := D.ex
  exact ⟨(ne_of_none h1 h).symm, (ne_of_none h2 h).symm⟩
theorem Step.refl (D : Deck H d l) : Step d l H H := ⟨D, .refl _⟩
theorem Step.trans (A : Step d l H H') (B : Step d l H' H2) : Step d l H H2 := ⟨B.deck, A.same.trans B.same⟩
theorem Same.hide (S : Same H H') : Same (Cl.hide d l H) (Cl.hide d l H') := fun b x e => by
  obtain ⟨e1, e2, e3⟩ := hide_at e
  rw [hide_ne e1 e2]
  exact S b x e3
theorem Step.of (D : Deck H d l) (S : Same H H') : Step d l H H' := by
  obtain ⟨ns, s, c, h1, h2, h3⟩ := D.ex
  exact ⟨⟨D.ne, ns, s, c, S _ _ h1, S _ _ h2, h3⟩, S.hide⟩
theorem Step.new (D : Deck H d l) (h : H p = none) : Step d l H (upd H p o) := Step.of D (same_new h)
/-- a new object ahead of a step is there behind it -/
theorem Step.at (S : Step d l H H') (h1 : p ≠ d) (h2 : p ≠ l) (h : H p = some o) : Keep (H' p) o := by
  have e := S.same p o (by rw [hide_ne h1 h2]; exact h)
  rw [hide_ne h1 h2] at e
  exact e
theorem Step.tupH (S : Step d l H H') (D : Deck H d l) (h : H p = some (.tup xs)) : H' p = some (.tup xs) := by
  obtain ⟨ns, s, c, h1, h2, h3⟩ := D.ex
  exact S.at (ne_of h h1 (by intro z; cases z)) (ne_of h h2 (by intro z; cases z)) h
end
theorem dropLast_map (ns : List Int) : (ns.map V.int).dropLast = ns.dropLast.map V.int := by
  rw [List.map_dropLast]

/-! ### promises of the deck's defs -/
def spDeck (K : PySem.W.Frag) : Sp := fun vs H Q _ => ∃ (a : Addr) (ns : List Int), vs = [.ref a] ∧ SqL K H a (ns.map V.int) ∧ ns.length ≤ 63 ∧
  ∀ d l H', Same H H' → Deck H' d l → Q (.ref d) H'
def spDraw : Sp := fun vs H Q _ => ∃ (d l : Addr) (m : Int), vs = [.ref d, .int m] ∧ 0 < m ∧ m < 2 ^ 64 ∧ Deck H d l ∧
  ∀ v H', 0 ≤ v → v < m → Step d l H H' → Q (.int v) H'
theorem mulc {a b : Int} (h : -(2 ^ 64) < a ∧ a < 2 ^ 64) : CMul a b := .inl h
theorem mulr {a b : Int} (h : -(2 ^ 64) < b ∧ b < 2 ^ 64) : CMul a b := .inr h
theorem modlt {a m : Int} (h : 0 < m) (h2 : m ≤ 2 ^ 64) : -(2 ^ 64) < a % m ∧ a % m < 2 ^ 64 := by
  have := Int.emod_nonneg a (show m ≠ 0 by omega)
  have := Int.emod_lt_of_pos a h
  omega
theorem shapedInts (ns : List Int) : SeqAt.shaped (.list (ns.map PyData.int)) = true := by
  have h1 : ∀ ns : List Int, PyData.canLayAll0 (ns.map PyData.int) = true := by
    intro ns
    induction ns with
    | nil => rfl
    | cons n r ih => simp [PyData.canLayAll0, PyData.canLay0, ih]
  have h2 : ∀ ns : List Int, PyData.depthAll (ns.map PyData.int) = 0 := by
    intro ns
    induction ns with
    | nil => rfl
    | cons n r ih => simp [PyData.depthAll, PyData.depth, ih]
  simp [SeqAt.shaped, PyData.canLay0, PyData.depth, h1, h2]
theorem dpInts {K : PySem.W.Frag} {H : Hp} : ∀ ns : List Int, DpAll K H (ns.map V.int) (ns.map PyData.int)
  | [] => .nil
  | n :: r => .cons (.int n) (dpInts r)
theorem eqvNil (ns : List Int) : PyData.eqv (.list (ns.map PyData.int)) (.list []) = ns.isEmpty := by
  cases ns <;> simp [PyData.eqv, PyData.eqvAll]

/-! ### data whose repr is short -/
structure Fine (d : PyData) : Prop where
  lv : d.leavesShort 200 = true
  sh : d.showable = true
  nd : d.hasDict = false
  dp : d.depth ≤ 60
  bk : d.bulk ≤ 80000
def okI (i : Int) : Prop := i.natAbs < 2 ^ 190
theorem okI.log {i : Int} (h : okI i) : i.natAbs.log2 < 190 := PySem.Flt.log2_lt_of (by decide) h
theorem okI.len {i : Int} (h : okI i) : (PyData.shown (.int i)).length ≤ 200 := by
  have e := int_text_length_le (k := 190) (by decide) h.log
  show (Str.ofString (toString i)).length ≤ 200
  rw [PySem.ofString_length]
  omega
theorem okI.of {i : Int} (h1 : -(2 ^ 189) < i) (h2 : i < 2 ^ 189) : okI i := by
  unfold okI
  omega
def rReprF (K : PySem.W.Frag) : List V → Hp → VK → Prop := fun xs H Q => ∃ v d, xs = [v] ∧ Dp K H v d ∧ Fine d ∧ Q (.str d.shown) H
theorem call_repr {X : Cx} (hg : X.A.guards = some []) (hu : X.A.units + 64 < cLine) : CallR X (.builtin "repr") (rReprF X.K) :=
  fun pins s σ H xs us Q I r ⟨v, d, h1, h2, f, q⟩ => call_reprD hg hu pins s σ H xs us Q I r ⟨v, d, h1, h2, f.sh, f.nd, f.dp, by
    have e := PyData.shown_le_bulk 200 (by decide) d f.lv
    have e2 := f.bk
    have e3 : sizeLine = 16777216 := by decide
    omega, q⟩
theorem fineInts2 {i j : Int} (h1 : okI i) (h2 : okI j) : Fine (.tuple [.int i, .int j]) := by
  have a1 := h1.len
  have a2 := h2.len
  have b1 : i.natAbs.log2 < 1920 := by have := h1.log; omega
  have b2 : j.natAbs.log2 < 1920 := by have := h2.log; omega
  constructor
  · simp [PyData.leavesShort, PyData.leavesShortAll, a1, a2]
  · simp [PyData.showable, PyData.showableAll, b1, b2]
  · rfl
  · simp [PyData.depth, PyData.depthAll]
  · simp [PyData.bulk, PyData.bulkAll]
theorem fineBool (b : Bool) : Fine (.bool b) := by constructor <;> first | rfl | (cases b <;> decide)
end Cl

namespace Cl
open PySem PySem.Spec PyProof.Rows L2
/-! ### the nearest whole number -/
def nr (n d : Int) : Int := (2 * n + d) / (2 * d)
theorem nr_law {n g : Int} (h : 0 < g) : nr n g = if 2 * n < (2 * (n / g) + 1) * g then n / g else n / g + 1 := by
  have e1 := Int.mul_ediv_add_emod n g
  have e2 := Int.emod_nonneg n (show g ≠ 0 by omega)
  have e3 := Int.emod_lt_of_pos n h
  generalize n / g = k at *
  generalize n % g = r at *
  subst e1
  unfold nr
  have c1 : (2 * k + 1) * g = 2 * (g * k) + g := by rw [Int.add_mul, Int.mul_assoc, Int.mul_comm k g]; omega
  have c2 : 2 * (g * k + r) + g = (2 * r + g) + (2 * g) * k := by rw [Int.mul_assoc 2 g k]; omega
  rw [c1, c2, Int.add_mul_ediv_left _ _ (show 2 * g ≠ 0 by omega)]
  split
  · rw [Int.ediv_eq_zero_of_lt (by omega) (by omega)]; omega
  · have c3 : 2 * r + g = (2 * r - g) + (2 * g) * 1 := by omega
    rw [c3, Int.add_mul_ediv_left _ _ (show 2 * g ≠ 0 by omega), Int.ediv_eq_zero_of_lt (by omega) (by omega)]; omega
theorem nr_move {n d g : Int} (h : 0 < g) : nr (n + d * g) g = nr n g + d := by
  unfold nr
  have c : 2 * (n + d * g) + g = (2 * n + g) + (2 * g) * d := by
    rw [Int.mul_add, Int.mul_assoc 2 g d, Int.mul_comm d g]; omega
  rw [c, Int.add_mul_ediv_left _ _ (show 2 * g ≠ 0 by omega)]
theorem nr_times {n g t : Int} (ht : 0 < t) : nr (n * t) (g * t) = nr n g := by
  unfold nr
  have c1 : 2 * (n * t) + g * t = (2 * n + g) * t := by rw [Int.add_mul, Int.mul_assoc]
  have c2 : 2 * (g * t) = (2 * g) * t := by rw [Int.mul_assoc]
  rw [c1, c2, Int.mul_ediv_mul_of_pos_left _ _ ht]
theorem nr_ok {n g B : Int} (h : 0 < g) (h1 : -B < n) (h2 : n < B) (hB : 0 < B) : -(B + 1) ≤ nr n g ∧ nr n g ≤ B + 1 := by
  unfold nr
  have hg : 0 < 2 * g := by omega
  constructor
  · refine Int.le_ediv_of_mul_le hg ?_
    have : B * 1 ≤ B * g := Int.mul_le_mul_of_nonneg_left (by omega) (by omega)
    have e : -(B + 1) * (2 * g) = -(2 * (B * g)) - 2 * g := by rw [Int.neg_mul, Int.add_mul, Int.mul_left_comm B 2 g]; omega
    rw [e]; omega
  · refine Int.ediv_le_of_le_mul hg ?_
    have : B * 1 ≤ B * g := Int.mul_le_mul_of_nonneg_left (by omega) (by omega)
    have e : (B + 1) * (2 * g) = 2 * (B * g) + 2 * g := by rw [Int.add_mul, Int.mul_left_comm B 2 g]; omega
    rw [e]; omega
def spNear : Sp := fun vs H Q _ => ∃ n d : Int, vs = [.int n, .int d] ∧ 0 < d ∧ d < 2 ^ 60 ∧ Q (.int (nr n d)) H
def spCorner (K : PySem.W.Frag) : Sp := fun vs H Q _ => ∃ (g : Int) (a : Addr) (x y : Int), vs = [.int g, .ref a] ∧ SqT K H a [.int x, .int y] ∧ 0 < g ∧ g < 2 ^ 60 ∧
  New H (.tup [.int (nr x g), .int (nr y g)]) Q

def spLaw (K : PySem.W.Frag) : Sp := fun vs H Q _ => ∃ (a : Addr) (ns : List Int), vs = [.ref a] ∧ SqL K H a (ns.map V.int) ∧ ns.length ≤ 63 ∧ ∀ H', Q (.bl true) H'
section
variable {X : Cx}
def CDivX (_ j : Int) : Prop := j ≠ 0 ∧ j.natAbs.log2 < 9000
theorem op_fdivX : OpR X (binaryOp .FloorDiv) (rI CDivX fun i j => .int (i.fdiv j)) :=
  opI fun i j _ _ _ _ _ hc q => floordiv_int hc.1 q (.inl (PyProof.noPylong_of_log2 hc.2))
end
/-! ### the greatest number that parts -/
def spGp : Sp := fun vs H Q _ => ∃ n m : Int, vs = [.int n, .int m] ∧ Q (.int (Int.gcd n m : Nat)) H
def gpar (n m d : Int) : Int := (Int.gcd (Int.gcd n m : Nat) d : Nat)
def spP (n m d : Int) : Int := if d < 0 then -gpar n m d else gpar n m d
def spSpotOf : Sp := fun vs H Q _ => ∃ n m d : Int, vs = [.int n, .int m, .int d] ∧ d ≠ 0 ∧ d.natAbs < 2 ^ 200 ∧
  New H (.tup [.int (n / spP n m d), .int (m / spP n m d), .int (d / spP n m d)]) Q
theorem gpar_dvd (n m d : Int) : gpar n m d ∣ n ∧ gpar n m d ∣ m ∧ gpar n m d ∣ d := by
  unfold gpar
  have h1 : (Int.gcd (Int.gcd n m : Nat) d : Int) ∣ (Int.gcd n m : Nat) := Int.gcd_dvd_left ..
  refine ⟨Int.dvd_trans h1 (Int.gcd_dvd_left ..), Int.dvd_trans h1 (Int.gcd_dvd_right ..), Int.gcd_dvd_right ..⟩
theorem gpar_pos {n m d : Int} (h : d ≠ 0) : 0 < gpar n m d := by
  unfold gpar
  have : 0 < Int.gcd (Int.gcd n m : Nat) d := Int.gcd_pos_of_ne_zero_right _ h
  omega
theorem gpar_le {n m d : Int} (h : d ≠ 0) : gpar n m d ≤ d.natAbs := by
  have := (gpar_dvd n m d).2.2
  have h2 : gpar n m d ∣ (d.natAbs : Int) := Int.dvd_natAbs.mpr this
  exact Int.le_of_dvd (by omega) h2
theorem spP_dvd (n m d : Int) : spP n m d ∣ n ∧ spP n m d ∣ m ∧ spP n m d ∣ d := by
  obtain ⟨h1, h2, h3⟩ := gpar_dvd n m d
  unfold spP
  split
  · exact ⟨Int.neg_dvd.mpr h1, Int.neg_dvd.mpr h2, Int.neg_dvd.mpr h3⟩
  · exact ⟨h1, h2, h3⟩
theorem spP_ne {n m d : Int} (h : d ≠ 0) : spP n m d ≠ 0 := by
  have := gpar_pos (n := n) (m := m) h
  unfold spP
  split <;> omega
/-- the spot of d above nought: some part that all three have, taken out -/
theorem spot_pos {n m d : Int} (h : 0 < d) : ∃ p : Int, 0 < p ∧ n = n / spP n m d * p ∧ m = m / spP n m d * p ∧ d = d / spP n m d * p ∧ 0 < d / spP n m d ∧ d / spP n m d ≤ d := by
  obtain ⟨h1, h2, h3⟩ := gpar_dvd n m d
  have h0 := gpar_pos (n := n) (m := m) (d := d) (by omega)
  have e : spP n m d = gpar n m d := if_neg (by omega)
  rw [e]
  have e3 := Int.ediv_mul_cancel h3
  refine ⟨gpar n m d, h0, (Int.ediv_mul_cancel h1).symm, (Int.ediv_mul_cancel h2).symm, e3.symm, ?_, Int.ediv_le_self _ (by omega)⟩
  exact Int.ediv_pos_of_pos_of_dvd h (by omega) h3
theorem nr_spot {n m d g : Int} (h : 0 < d) : nr (n / spP n m d) (d / spP n m d * g) = nr n (d * g) ∧ nr (m / spP n m d) (d / spP n m d * g) = nr m (d * g) := by
  obtain ⟨p, hp, e1, e2, e3, _⟩ := spot_pos (n := n) (m := m) h
  have c : d * g = d / spP n m d * g * p := by
    conv => lhs; rw [e3]
    rw [Int.mul_assoc, Int.mul_assoc, Int.mul_comm p g]
  have k1 := nr_times (n := n / spP n m d) (g := d / spP n m d * g) hp
  have k2 := nr_times (n := m / spP n m d) (g := d / spP n m d * g) hp
  rw [← e1, ← c] at k1
  rw [← e2, ← c] at k2
  exact ⟨k1.symm, k2.symm⟩
theorem nr_lies {n g : Int} (h : 0 < g) : (2 * nr n g - 1) * g ≤ 2 * n ∧ 2 * n < (2 * nr n g + 1) * g := by
  unfold nr
  have e1 := Int.mul_ediv_add_emod (2 * n + g) (2 * g)
  have e2 := Int.emod_nonneg (2 * n + g) (show 2 * g ≠ 0 by omega)
  have e3 := Int.emod_lt_of_pos (2 * n + g) (show 0 < 2 * g by omega)
  generalize (2 * n + g) / (2 * g) = k at *
  generalize (2 * n + g) % (2 * g) = r at *
  have c1 : (2 * k - 1) * g = 2 * g * k - g := by rw [Int.sub_mul, Int.mul_right_comm]; omega
  have c2 : (2 * k + 1) * g = 2 * g * k + g := by rw [Int.add_mul, Int.mul_right_comm]; omega
  omega
end Cl

namespace Cl
open PySem PySem.Spec PyProof.Rows L2
/-! ### kinds of things -/
def isI : V → Bool
  | .int _ => true
  | _ => false
def isB : V → Bool
  | .bl _ => true
  | _ => false
/-- a thing with the name of its class -/
inductive Kd (K : PySem.W.Frag) (H : Hp) : V → String → Prop where
  | non : Kd K H .non "NoneType"
  | bl (b : Bool) : Kd K H (.bl b) "bool"
  | int (i : Int) : Kd K H (.int i) "int"
  | str (x : Str) : Kd K H (.str x) "str"
  | lst {a : Addr} {xs : List V} (h : SqL K H a xs) : Kd K H (.ref a) "list"
  | tup {a : Addr} {xs : List V} (h : SqT K H a xs) : Kd K H (.ref a) "tuple"
  | dct {a : Addr} {kvs : List (Key × V)} (h : H a = some (.dK kvs)) : Kd K H (.ref a) "dict"
section
variable {K : PySem.W.Frag} {H : Hp} {v : V} {T : String}
theorem Kd.ty (h : Kd K H v T) : TyX K H v (.type T) := by
  cases h with
  | non => exact .base .non
  | bl b => exact .base (.bl b)
  | int i => exact .base (.int i)
  | str x => exact .base (.str x)
  | lst h =>
    rcases h with (h | ⟨o, h⟩) | ⟨o, its, n, h1, h2, _⟩
    · exact .base (.lst h)
    · exact .base (.frz h)
    · exact .kList h1 h2
  | tup h =>
    rcases h with (h | ⟨o, h⟩) | ⟨o, its, n, h1, h2, _⟩
    · exact .base (.tup h)
    · exact .fTuple h
    · exact .kTuple h1 h2
  | dct h => exact .base (.dK h)
theorem Kd.int? (h : Kd K H v T) : kitB T "int" = some (isI v || isB v) := by
  cases h <;> first | (show kitB _ _ = some true; decide +kernel) | (show kitB _ _ = some false; decide +kernel)
theorem Kd.bool? (h : Kd K H v T) : kitB T "bool" = some (isB v) := by
  cases h <;> first | (show kitB _ _ = some true; decide +kernel) | (show kitB _ _ = some false; decide +kernel)
theorem Kd.tuple? (h : Kd K H v T) : kitB T "tuple" = some (decide (T = "tuple")) := by
  cases h <;> first | (show kitB _ _ = some true; decide +kernel) | (show kitB _ _ = some false; decide +kernel)
theorem Kd.str? (h : Kd K H v T) : kitB T "str" = some (decide (T = "str")) := by
  cases h <;> first | (show kitB _ _ = some true; decide +kernel) | (show kitB _ _ = some false; decide +kernel)
end
theorem seT {K : PySem.W.Frag} {H H' : Hp} {a : Addr} {xs : List V} (e : Same H H') (h : SqT K H a xs) : SqT K H' a xs := by
  rcases h with (h | ⟨o, h⟩) | h
  · exact .inl (.inl (e _ _ h))
  · exact .inl (.inr ⟨o, e _ _ h⟩)
  · exact .inr h
/-- isinstance(thing, a built-in class) -/
theorem isi {K : PySem.W.Frag} {H : Hp} {v : V} {T c : String} {b : Bool} {Q : VK} (h : Kd K H v T) (e : kitB T c = some b) (q : Q (.bl b) H) :
    rIsi K [v, .ty c] H Q := ⟨v, .ty c, .type T, .type c, b, rfl, .ty c, h.ty, kit_ty e, q⟩
def spWhole (K : PySem.W.Frag) : Sp := fun vs H Q _ => ∃ v T, vs = [v] ∧ Kd K H v T ∧ Q (.bl (isI v)) H

/-! ### lists of draws -/
def Acc (d l pD : Addr) (H0 : Hp) (i : Nat) (P : Int → Prop) (H' : Hp) : Prop :=
  ∃ xs : List Int, Step d l H0 H' ∧ H' pD = some (.lst (xs.map V.int)) ∧ xs.length = i ∧ ∀ x ∈ xs, P x
section
variable {d l pD : Addr} {H0 H H4 : Hp} {i : Nat} {P : Int → Prop} {y : Int}
theorem Step.updN (S : Step d l H0 H4) (h1 : pD ≠ d) (h2 : pD ≠ l) (n : H0 pD = none) {o : HO} : Step d l H0 (upd H4 pD o) := by
  obtain ⟨ns, s, c, e1, e2, e3⟩ := S.deck.ex
  refine ⟨⟨S.deck.ne, ns, s, c, by rw [upd_ne h1.symm]; exact e1, by rw [upd_ne h2.symm]; exact e2, e3⟩, ?_⟩
  refine fun b x e => ?_
  obtain ⟨n1, n2, n3⟩ := hide_at e
  have e5 := S.same b x e
  rw [hide_ne n1 n2] at e5 ⊢
  rw [upd_ne (ne_of_none n3 n)]
  exact e5
theorem Acc.start (D : Deck H0 d l) (S : Same H0 H) (e : H pD = some (.lst [])) : Acc d l pD H0 0 P H :=
  ⟨[], Step.of D S, e, rfl, fun x h => nomatch h⟩
theorem Acc.turn (A : Acc d l pD H0 i P H) (S : Step d l H H4) (D : Deck H0 d l) (n : H0 pD = none) (hi : i < 1000) (h : P y) :
    ∃ acc, H4 pD = some (.lst acc) ∧ acc.length < sizeLine ∧ Acc d l pD H0 (i + 1) P (upd H4 pD (.lst (acc ++ [.int y]))) := by
  obtain ⟨xs, S0, e, l1, a⟩ := A
  obtain ⟨h1, h2⟩ := D.nd n
  refine ⟨_, S.at h1 h2 e, by rw [List.length_map, l1]; exact small1000 (by omega), xs ++ [y], (S0.trans S).updN h1 h2 n, ?_, by rw [List.length_append, l1]; rfl, fun x hx => ?_⟩
  · rw [upd_same, List.map_append]; rfl
  · rcases List.mem_append.mp hx with z | z
    · exact a x z
    · rw [List.mem_singleton.mp z]; exact h
end
def lcR {lo : Int} {n : Nat} {g : TG} {tt : TT} {te : TE} {vs : List Nat} {σ : L2.St} {H1 : Hp} {D : Addr} {Qd : Hp → Prop}
    (Pv : Nat → Hp → Prop) (hD : H1 D = none) (h0 : ∀ H', Same H1 H' → H' D = some (.lst []) → Pv 0 H')
    (hs : ∀ i H, i < n → Pv i H → g (.int (lo + i)) (wipe σ vs) H fun σ2 H2 => wipe σ2 vs = wipe σ vs ∧ tt σ2 H2 fun b H3 =>
      if b = true then te σ2 H3 fun y H4 => ∃ acc, H4 D = some (.lst acc) ∧ acc.length < sizeLine ∧ Pv (i + 1) (upd H4 D (.lst (acc ++ [y]))) else Pv (i + 1) H3)
    (hd : ∀ H, Pv n H → Qd H) :=
  lc_range (lo := lo) (n := n) (g := g) (tt := tt) (te := te) (vs := vs) (σ := σ) (H1 := H1) (D := D) (Qd := Qd) Pv (h0 _ (same_new hD) upd_same) hs hd
theorem two {xs : List Int} (h : xs.length = 2) : ∃ x y, xs = [x, y] := by
  match xs, h with
  | [x, y], _ => exact ⟨x, y, rfl⟩
end Cl

namespace Cl
open PySem PySem.Spec PyProof.Rows L2
/-! ### a test of a thing's kind by a small def, asked quietly -/
/-- the thing u stands in the heap with its class's name -/
def KQ (K : PySem.W.Frag) (h : Heap) (u : Value) (T : String) : Prop := ∃ P : Heap → Prop, PySem.W.KitX K u (.type T) P ∧ P h ∧ (∀ h' : Heap, (∀ a o, u = .ref a → h.get? a = some o → h'.get? a = some o) → P h') ∧
  u ≠ .builtin "__main__.__loader__#opaque" ∧ ∀ a, u = .ref a → ∃ o, h.get? a = some o ∧ o.cls = .type T
theorem kq_at {K : PySem.W.Frag} {h : Heap} {a : Addr} {T : String} (Z : PySem.W.KitX K (.ref a) (.type T) (PySem.W.KitAt a T)) (p : ∃ o, h.get? a = some o ∧ o.cls = .type T) : KQ K h (.ref a) T :=
  ⟨_, Z, p, fun h' k => let ⟨o, e, c⟩ := p; ⟨o, k a o rfl e, c⟩, (fun z => nomatch z), fun b e => by cases e; exact p⟩
theorem Kd.kq {X : Cx} {pins : List (Addr × Obj)} {σ : L2.St} {H : Hp} {s : Shared} {v : V} {T : String} {u : Value} (I : Inv X pins σ H s) (h : Kd X.K H v T) (r : RelV v u) : KQ X.K s.heap u T := by
  cases h with
  | non => cases (show u = Value.none from r); exact ⟨_, PySem.W.kitx_none, trivial, fun _ _ => trivial, (fun z => nomatch z), fun a z => nomatch z⟩
  | bl b => cases (show u = Value.bool b from r); exact ⟨_, PySem.W.kitx_bool, trivial, fun _ _ => trivial, (fun z => nomatch z), fun a z => nomatch z⟩
  | int i => obtain ⟨t, q⟩ := (show ∃ t, u = Value.int i t from r); cases q; exact ⟨_, PySem.W.kitx_int, trivial, fun _ _ => trivial, (fun z => nomatch z), fun a z => nomatch z⟩
  | str x => obtain ⟨t, q⟩ := (show ∃ t, u = Value.str x t from r); cases q; exact ⟨_, PySem.W.kitx_str, trivial, fun _ _ => trivial, (fun z => nomatch z), fun a z => nomatch z⟩
  | @lst a xs h =>
    cases (show u = Value.ref a from r)
    obtain ⟨its, rv, ht, hz⟩ := I.list h
    exact kq_at PySem.W.kitx_list ht.isList.typeIs
  | @tup a xs h =>
    cases (show u = Value.ref a from r)
    obtain ⟨its, rv, ht, hz⟩ := I.tuple h
    exact kq_at PySem.W.kitx_tuple ht.typeIs
  | @dct a kvs ea =>
    cases (show u = Value.ref a from r)
    obtain ⟨_, _, vs, _, o, es, ep, h1, h2, _⟩ := (show ObjOk X.prog X.w H s.heap a (.dK kvs) from I.hok a _ ea)
    exact kq_at PySem.W.kitx_dict ⟨o, h1, h2.1⟩
theorem KQ.keeps {K : PySem.W.Frag} {h h' : Heap} {u : Value} {T : String} (q : KQ K h u T) (k : ∀ a o, u = .ref a → h.get? a = some o → h'.get? a = some o) : KQ K h' u T := by
  obtain ⟨P, Z, p, m, n, c⟩ := q
  refine ⟨P, Z, m h' k, fun h'' k2 => m h'' fun a o e g => k2 a o e (k a o e g), n, fun a e => ?_⟩
  obtain ⟨o, g, w⟩ := c a e
  exact ⟨o, k a o e g, w⟩
section
variable {P : Program} {w : World} {K : PySem.W.Frag} {mg : Str → Option Value}
/-- the modules' names stand in this heap -/
def Stands (K : PySem.W.Frag) (mg : Str → Option Value) (h : Heap) : Prop := K.In h ∧ h.Ns mainGlobals mg ∧ (∃ mb, h.Ns builtinsNs mb ∧ ∀ x : Str, x ≠ "__name__" → mb x = bootBuiltins x) ∧ h.NoLimit
theorem Stands.keeps {h h' : Heap} (s : Stands K mg h) (k : ∀ b o, h.get? b = some o → h'.get? b = some o) : Stands K mg h' := by
  obtain ⟨a, b, ⟨mb, c, d⟩, e⟩ := s
  exact ⟨fun x o z => k _ _ (a x o z), b.keeps k, ⟨mb, c.keeps k, d⟩, e.keeps k⟩
/-- f(u): a test of u's class, nothing changed -/
structure QW (P : Program) (w : World) (K : PySem.W.Frag) (mg : Str → Option Value) (f : Addr) : Prop where
  run : ∀ (A : Around) (s : Shared) (u : Value) (T : String) (b1 b2 : Bool), A.depth < recursionLimit → Stands K mg s.heap → KQ K s.heap u T → kitB T "int" = some b1 → kitB T "bool" = some b2 →
    codeAny (model P w) A (.call (.ref f) ⟨[u], []⟩) (fun r s' => r = .ok (.ret (.bool (b1 && !b2))) ∧ Keeps s s') s
theorem keeps_trans {s s1 s2 : Shared} (a : Keeps s s1) (b : Keeps s1 s2) : Keeps s s2 := by
  obtain ⟨h, tk, rfl, k⟩ := a
  obtain ⟨h2, tk2, rfl, k2⟩ := b
  exact ⟨h2, tk2, rfl, fun b o e => k2 b o (k b o e)⟩
/-- isinstance(name, T) in an env of a function -/
theorem quiet_isi {A : Around} {E : Value → Shared → Prop} {env : Env} {s : Shared} {x c : Str} {m : Str → Option Value} {u : Value} {T tc : String} {b : Bool} {Q : Value → Shared → Prop} {p1 p2 p3 p4 : Pos}
    (hk : env.scope.kind = .function) (hx : env.kindOf x = some .local) (hi : env.kindOf "isinstance" = some .globalImplicit) (hc : env.kindOf c = some .globalImplicit) (hg : env.globals = mainGlobals) (hb : env.builtins = builtinsNs)
    (St : Stands K mg s.heap) (mi : mg "isinstance" = none) (mc : mg c = none) (bc : bootBuiltins c = some (.type tc)) (hn : s.heap.Ns env.locals m) (hm : m x = some u) (q : KQ K s.heap u T) (e : kitB T tc = some b)
    (h : ∀ tk, Q (.bool b) { s with toks := tk })
    (hd : (x == ("__debug__" : Str)) = false := by decide) (hdc : (c == ("__debug__" : Str)) = false := by decide) (hcn : c ≠ "__name__" := by decide)
    (he : starEach [.Name x p2, .Name c p3] env = (false, eval (.Name x p2) env) :: starEach [.Name c p3] env := by rfl) (he2 : starEach [.Name c p3] env = [(false, eval (.Name c p3) env)] := by rfl) :
    wpAny (model P w) A (eval (.Call (.Name "isinstance" p1) [.Name x p2, .Name c p3] [] p4) env) Q E s := by
  obtain ⟨inK, ns, ⟨mb, nb, hmb⟩, lim⟩ := St
  have glb : ∀ {y : Str} {v : Value} {p : Pos} {R : Value → Shared → Prop}, env.kindOf y = some .globalImplicit → mg y = none → bootBuiltins y = some v → y ≠ "__name__" → (y == ("__debug__" : Str)) = false → R v s → wpAny (model P w) A (eval (.Name y p) env) R E s :=
    fun {y v p R} k1 k2 k3 k4 k5 r => Calls.Name_function_global hk k1 (Calls.loadGlobal_builtin (by rw [hg]; exact ns) k2 (by rw [hb]; exact nb) ((hmb y k4).trans k3) r) k5
  refine wpAny_Call_Name_kw (glb hi mi PyProof.Rows.boot_isinstance (by decide) (by decide) ?_)
  refine PyProof.Rows.callWith_builtin1 ?_ he (by rw [he2]; rfl)
  rw [he, he2]
  refine Calls.spliced_cons (wpAny_Name (wpAny_loadName_local hk hx hn hm ?_) hd)
  refine Calls.spliced_cons (glb hc mc bc hcn hdc ?_)
  refine Calls.spliced_nil ?_
  obtain ⟨Pz, Z, pz, _, nl, _⟩ := q
  exact PySem.W.kia_one Z inK pz (kit_ty e) nl h
end
end Cl
namespace Cl
open PySem PySem.Spec PyProof.Rows L2
/-! ### def is_whole(thing): return isinstance(thing, int) and not isinstance(thing, bool) -/
section
variable {P : Program} {w : World} {K : PySem.W.Frag} {mg : Str → Option Value}
theorem qw_of {x qual : Str} {st : Stmt} {f : Addr} {fd : FuncData} {p1 p2 p3 p4 p5 p6 p7 p8 p9 p10 p11 : Pos} {y : Str} {k : Nat}
    (F : Fun K x qual st f fd) (S : FnScope [y] [y] (defScope st)) (hloc : (defScope st).names.lookup y = some .local)
    (hi : (defScope st).names.lookup ("isinstance" : Str) = some .globalImplicit) (hc : (defScope st).names.lookup ("int" : Str) = some .globalImplicit) (hb : (defScope st).names.lookup ("bool" : Str) = some .globalImplicit)
    (mi : mg "isinstance" = none) (mc : mg "int" = none) (mb : mg "bool" = none)
    (hbody : defBody st = [.Return (some (.BoolOp .And [.Call (.Name "isinstance" p1) [.Name y p2, .Name "int" p3] [] p4, .UnaryOp .Not (.Call (.Name "isinstance" p5) [.Name y p6, .Name "bool" p7] [] p8) p9] p10)) p11])
    (hbind : Binds K fd [y] []) (hyd : (y == ("__debug__" : Str)) = false := by decide) : QW P w K mg f := by
  refine ⟨fun A s u T b1 b2 hdep St q e1 e2 => ?_⟩
  have hb0 := hbind s [u] St.1 rfl
  obtain ⟨oc, od, kV, doc, pm, an, cdv, ct, osl, rfl, lk, hcd⟩ := F.ex
  obtain ⟨inK, ns, nb, lim⟩ := id St
  refine codeAny_call_function hdep (inK _ _ lk) rfl S.co S.gen rfl (PySem.W.codeRec_of inK hcd) (hb0 _ _ _ _ ?_)
  have kinds : ∀ z ∈ [y].zip ([u] ++ []), (defScope st).names.lookup z.1 = some .local ∨
      ((defScope st).names.lookup z.1 = some .cell ∧ ((cellsFrom (s.heap.objs.size + 1) (defScope st).names []).lookup z.1).isSome = true) := by
    intro z hz
    simp only [List.append_nil, List.zip_cons_cons, List.zip_nil_right, List.mem_singleton] at hz
    subst hz
    exact .inl hloc
  refine wpAny_newFunctionEnv_cells S.kind kinds fun env he s1 z => ?_
  subst he
  have k1 := z.toInCall.keep
  have St1 : Stands K mg s1.heap := St.keeps k1
  have q1' : KQ K s1.heap u T := q.keeps fun a o _ e => k1 a o e
  have ks1 : Keeps s s1 := z.done
  refine ⟨St1.2.2.2, codeAny_func ?_⟩
  show wpAny _ _ (execs (defBody st) _) _ _ s1
  rw [hbody]
  have hm : (bindL (newEnv (defScope st) s.heap.objs.size mainGlobals (cellsFrom (s.heap.objs.size + 1) (defScope st).names []) (qual ++ ".<locals>.") (some f) cdv none builtinsNs).kindOf ([y].zip ([u] ++ [])) fun _ => none) y = some u := by
    show (bindL (fun n => (defScope st).names.lookup n) [(y, u)] fun _ => none) y = some u
    simp [bindL, hloc]
  have isi : ∀ {E' : Value → Shared → Prop} {A' : Around} {c : Str} {tc : String} {b : Bool} {q1 q2 q3 q4 : Pos} {s2 : Shared} {Q2 : Value → Shared → Prop}, Keeps s1 s2 → (defScope st).names.lookup c = some .globalImplicit → mg c = none → bootBuiltins c = some (.type tc) → kitB T tc = some b → (c == ("__debug__" : Str)) = false → c ≠ "__name__" →
      (∀ tk, Q2 (.bool b) { s2 with toks := tk }) → wpAny (model P w) A' (eval (.Call (.Name "isinstance" q1) [.Name y q2, .Name c q3] [] q4) (newEnv (defScope st) s.heap.objs.size mainGlobals (cellsFrom (s.heap.objs.size + 1) (defScope st).names []) (qual ++ ".<locals>.") (some f) cdv none builtinsNs)) Q2 E' s2 := by
    intro E' A' c tc b q1 q2 q3 q4 s2 Q2 ks hcc hmc hbc he hd hn2 h
    obtain ⟨h2, tk2, rfl, k2⟩ := ks
    exact quiet_isi (K := K) (mg := mg) (T := T) S.kind hloc hi hcc rfl rfl (St1.keeps k2) mi hmc hbc (z.toInCall.ns.keeps k2) hm (q1'.keeps fun a o _ e => k2 a o e) he h hyd hd hn2 rfl rfl
  refine wpAny_execs_cons (wpAny_Return_some ?_)
  refine BoolOp_and (isi (GxR.keeps_refl _) hc mc PyProof.Rows.boot_int e1 (by decide) (by decide) fun tk => wpAny_truthy_bool ?_)
  cases b1 with
  | false => exact ⟨rfl, keeps_trans ks1 (GxR.keeps_tok _ _)⟩
  | true =>
    refine BoolOp_one (UnaryOp_ (isi (GxR.keeps_tok _ _) hb mb PyProof.Rows.boot_bool e2 (by decide) (by decide) fun tk2 => not_of (wpAny_truthy_bool ?_)))
    exact ⟨rfl, keeps_trans ks1 (GxR.keeps_tok _ _)⟩
end
end Cl

namespace Cl
open PySem PySem.Spec PyProof.Rows L2
open GxR (TabB TabG Tabbed GenS inv_tab sh_eta)
/-! ### all(test for x in t), t a tuple, the test asked quietly -/
def EltT (P : Program) (w : World) (K : PySem.W.Frag) (mg : Str → Option Value) (scope : Scope) (x : Str) (elt : Expr) (D : Nat) (Cp : List (Str × Addr) → Heap → Prop) (ok : Heap → Value → Bool → Prop) : Prop :=
  ∀ (cenv : Env) (A' : Around) (E' : Value → Shared → Prop) (u : Value) (b : Bool) (s₂ : Shared) (m₂ : Str → Option Value), A'.handled = none → A'.depth ≤ D → cenv.scope = scope → cenv.globals = mainGlobals → cenv.builtins = builtinsNs →
    Stands K mg s₂.heap → Cp cenv.cells s₂.heap → s₂.heap.Ns cenv.locals m₂ → m₂ x = some u → ok s₂.heap u b →
    wpAny (model P w) A' (eval elt cenv) (fun y s₃ => y = .bool b ∧ Keeps s₂ s₃) E' s₂
theorem Same.tabbed {H H' : Hp} {P : Addr} (h : TabG H P) (t : Tabbed P H H') : Same H H' := fun b o e => by
  by_cases hb : b = P
  · subst hb
    obtain ⟨ps, e1, _⟩ := h
    rw [e1] at e
    cases e
    obtain ⟨ps', e2, t2⟩ := t.1
    exact fun _ => ⟨ps', e2, t2⟩
  · rw [t.2 b hb]
    exact .of e
theorem Same.tab {H H' : Hp} {P : Addr} (s : Same H H') (h : TabG H P) : TabG H' P := by
  obtain ⟨ps, e, t⟩ := h
  obtain ⟨ps', e', t'⟩ := s P _ e t
  exact ⟨ps', e', t'⟩
def tAllT (K : PySem.W.Frag) (P : Addr) (cap : L2.St → Hp → Prop) (okV : Hp → V → Bool → Prop) (te : TE) : TE := fun σ H Q => te σ H fun v H1 => ∃ (a : Addr) (xs : List V) (bs : List Bool), v = .ref a ∧ SqT K H1 a xs ∧ bs.length = xs.length ∧
  (∀ (i : Nat) x b, xs[i]? = some x → bs[i]? = some b → okV H1 x b) ∧ cap σ H1 ∧ TabG H1 P ∧ ∀ H2, Same H1 H2 → TabG H2 P → Q (.bl (bs.all id)) H2
theorem all_range (bs : List Bool) : (List.range bs.length).all (fun j => bs.getD j false) = bs.all id := by
  rw [Bool.eq_iff_iff, List.all_eq_true, List.all_eq_true]
  constructor
  · intro h b hb
    obtain ⟨j, hj, e⟩ := List.getElem_of_mem hb
    have q := h j (List.mem_range.mpr hj)
    rw [List.getD_eq_getElem?_getD, List.getElem?_eq_getElem hj, e] at q
    exact q
  · intro h j hj
    have hj' := List.mem_range.mp hj
    rw [List.getD_eq_getElem?_getD, List.getElem?_eq_getElem hj']
    exact h _ (List.getElem_mem hj')
section
variable {X : Cx}
theorem pe_allT {c P : Addr} {elt iter : Expr} {x : Str} {px p pos gpos : Pos} {scope : Scope} {te : TE} {k : Nat} {Cp : List (Str × Addr) → Heap → Prop} {ok : Heap → Value → Bool → Prop} {cap : L2.St → Hp → Prop} {okV : Hp → V → Bool → Prop}
    (hr : Room k X.A) (hg : Gl X "all") (hm : X.mg "all" = none) (TB : TabB X.base X.mg c P) (hcode : X.env.code = .ref c) (S : GenS X.env scope x) (hi : PE X iter te)
    (hel : EltT X.prog X.w X.K X.mg scope x elt (X.A.depth + 1) Cp ok)
    (okk : ∀ h h' u b, ok h u b → (∀ a o, u = .ref a → h.get? a = some o → h'.get? a = some o) → ok h' u b) (okr : ∀ h u b a, ok h u b → u = .ref a → ∃ o, h.get? a = some o ∧ o.cls ≠ .none)
    (okI : ∀ {pins : List (Addr × Obj)} {σ : L2.St} {H : Hp} {s : Shared} {v : V} {u : Value} {b : Bool}, Inv X pins σ H s → RelV v u → okV H v b → ok s.heap u b)
    (cpI : ∀ {pins : List (Addr × Obj)} {σ : L2.St} {H : Hp} {s : Shared}, Inv X pins σ H s → cap σ H → Cp (cloFrom X.env.cells scope.names []) s.heap)
    (cpk : ∀ h h', (∀ b o, o.cls ≠ .none → h.get? b = some o → h'.get? b = some o) → Cp (cloFrom X.env.cells scope.names []) h → Cp (cloFrom X.env.cells scope.names []) h')
    (teσ : ∀ {pins : List (Addr × Obj)} {σ : L2.St} {H : Hp} {s : Shared}, True)
    (hs : ∀ v, genFold iter X.env v = pure v)
    (he : starEach [.GeneratorExp elt [⟨.Name x px, iter, [], 0⟩] scope gpos] X.env = (false, eval (.GeneratorExp elt [⟨.Name x px, iter, [], 0⟩] scope gpos) X.env) :: starEach [] X.env := by rfl) :
    PE X (.Call (.Name "all" p) [.GeneratorExp elt [⟨.Name x px, iter, [], 0⟩] scope gpos] [] pos) (tAllT X.K P cap okV te) := by
  refine ⟨fun pins s σ H Q I h => ?_⟩
  refine wpAny_Call_Name_kw (ld_blt I hg hm PyProof.Rows.boot_all ?_)
  refine PyProof.Rows.callWith_builtin1 ?_ he (by rfl)
  rw [he]
  show wpAny _ _ (spliced ((false, eval (.GeneratorExp elt [⟨.Name x px, iter, [], 0⟩] scope gpos) X.env) :: backTo pos (starEach [] X.env))) _ _ s
  refine Calls.spliced_cons ?_
  refine wpAny_GeneratorExp_walksQD hr.hd S.co (closure_ok S.free) S.cell S.dot S.loc S.kind (by have := hr.dp; omega) ?_ hs
  refine thn (hi.run pins s σ H _ I h) fun xv s1 ⟨v, H1, I1, r1, q1⟩ => ?_
  obtain ⟨a, xs, bs, rfl, hS, lbs, hok, hcap, hT, q⟩ := q1
  cases r1
  obtain ⟨ps, hP, ht⟩ := id hT
  obtain ⟨its, rv, tup, hz⟩ := I1.tuple hS
  have lx := rv.length
  refine wpAny_pyIter_tuple tup ?_
  have hPs : s1.heap.get? P = some { cls := .none, data := .fields ps } := I1.hok P _ hP
  have hPlt : P < s1.heap.objs.size := Heap.lt_size hPs
  have halt : a < s1.heap.objs.size := by obtain ⟨o, e, _⟩ := id tup; exact Heap.lt_size e
  have haP : a ≠ P := fun e => by
    obtain ⟨o, e1, e2, _⟩ := id tup
    rw [e, hPs] at e1
    cases e1
    cases e2
  generalize hito : ({ cls := .type "tuple_iterator", data := .fields #[.ref a, .int 0 0] } : Obj) = ito
  have hP2 : (s1.heap.push ito).get? P = some { cls := .none, data := .fields ps } := Heap.get?_push_of_some _ hPs
  have cd : PySem.W.CodeHd (s1.heap.push ito) c P := TB.code.keeps fun b u e => Heap.get?_push_of_some _ (I1.bk b u e)
  have lim2 : (s1.heap.push ito).NoLimit := I1.nolimit.push ito
  have sz2 : (s1.heap.push ito).objs.size = s1.heap.objs.size + 1 := Heap.size_push ..
  have cont : ∀ (code : Value) (h3 : Heap) (tk : Nat) (ps' : Array Value), Heap.ExtBut P (s1.heap.push ito) h3 → (s1.heap.push ito).objs.size ≤ h3.objs.size → h3.get? P = some { cls := .none, data := .fields ps' } → (∃ more, ps' = ps ++ more) → TriplesOk ps'.toList →
      wpAny (model X.prog X.w) X.A (builtinsFor X.env.globals X.env.builtins) (fun bi s₄ =>
        ∃ Ia fp wr n₀ Pf St₀ pz F, Value.ref s1.heap.objs.size = .ref Ia ∧ (∀ A' : Around, A'.handled = none → Walks X.prog X.w A' Ia fp wr n₀ Pf St₀) ∧ St₀ 0 s₄.heap ∧ (∀ b ∈ fp, b < s₄.heap.objs.size) ∧ s₄.heap.NoLimit ∧ cStatics ∉ wr ∧
          (∀ href : Heap, (∀ b o, s₄.heap.get? b = some o → href.get? b = some o) →
            QuietGenD X.prog X.w (genEnv scope (cloFrom X.env.cells scope.names []) s₄.heap.objs.size code bi X.env) x [] elt (List.range s₄.heap.objs.size) wr Pf pz F href (X.A.depth + 1) (X.A.units + 8)) ∧
          (∀ a h₅ tk gs, gs.bare = true → s₄.heap.objs.size < a → h₅.objs.size = a + 1 → (∀ b o, s₄.heap.get? b = some o → h₅.get? b = some o) →
            WalksS X.prog X.w X.A.in4 a (a :: s₄.heap.objs.size :: List.range s₄.heap.objs.size) (s₄.heap.objs.size :: wr) (GenOnlyQ s₄.gens.size) (passing pz n₀ 0).length
              (fun j y => ∃ i, (passing pz n₀ 0)[j]? = some i ∧ F i y) (GenAt X.prog X.w X.A.in4 a s₄.gens.size s₄.heap.objs.size (List.range s₄.heap.objs.size) wr pz n₀ F) →
            GenAt X.prog X.w X.A.in4 a s₄.gens.size s₄.heap.objs.size (List.range s₄.heap.objs.size) wr pz n₀ F 0 { s₄ with gens := s₄.gens.push gs, toks := tk, heap := h₅ } →
            wpAny (model X.prog X.w) X.A (spliced (backTo pos (starEach [] X.env))) (fun vs s2 => wpAny (model X.prog X.w) X.A (call (.builtin "all") (.ref a :: vs)) (EP X pins σ Q) X.xe s2) X.xe { s₄ with gens := s₄.gens.push gs, toks := tk, heap := h₅ })) X.xe { s1 with heap := h3, toks := tk } := by
    intro code h3 tk ps' hx hsz hP3 hmore ht3
    obtain ⟨bm, ob, e1, e2, e3, e4, e5, e6, e7, e8⟩ := TB.bm
    have keep3 : ∀ b u, b ≠ P → s1.heap.get? b = some u → h3.get? b = some u := fun b u hb e => hx b u hb (Heap.get?_push_of_some _ e)
    have hcP : cStatics ≠ P := fun e => by
      obtain ⟨_, hns, _⟩ := I1.nolimit
      obtain ⟨o', es, ep, ho, hd, _⟩ := hns
      rw [e, hPs] at ho
      cases ho
      cases hd
    have hcl : cStatics < s1.heap.objs.size := let ⟨_, hns, _⟩ := I1.nolimit; hns.lt
    have bP : ∀ b o, X.base.get? b = some o → b ≠ P := fun b o e z => by
      have := (I1.bs b o e).2
      rw [z, hP] at this
      cases this
    have stB : Stands X.K X.mg X.base := ⟨I1.mod.kin, I1.mod.glob, I1.mod.blt, I1.mod.nolimit⟩
    refine wpAny_builtinsFor (m := X.mg) (by rw [I1.ok.glob]; exact ((I1.mod.glob.keeps I1.bk).push ito).extBut hx TB.gP) e1 e2 (keep3 _ _ e4 (I1.bk _ _ e5)) e6 e7 e8 ?_
    refine ⟨s1.heap.objs.size, [s1.heap.objs.size, a], [s1.heap.objs.size], its.toArray.size, fun i v => its.toArray[i]? = some v, (fun i h => h.IsTupleIter s1.heap.objs.size a i ∧ h.IsTuple a its.toArray), (fun _ => true), (fun i y => i < its.toArray.size ∧ y = .bool (bs.getD i false)), rfl,
      fun A' hA => Walks.tuple hA _ _ (Nat.ne_of_lt halt) _, ⟨?_, ?_⟩, ?_, lim2.extBut hx hcP, ?_, ?_, ?_⟩
    · refine ⟨ito, hx _ _ (fun z => Nat.ne_of_lt hPlt z.symm) (Heap.get?_push_size _ (by rw [← hito]; rfl)), by rw [← hito], by rw [← hito]; rfl⟩
    · obtain ⟨o, g1, g2, g3⟩ := id tup
      exact ⟨o, keep3 a o haP g1, g2, g3⟩
    · intro b hb
      show b < h3.objs.size
      simp only [List.mem_cons, List.not_mem_nil, or_false] at hb
      rcases hb with z | z
      · rw [z]; exact Nat.lt_of_lt_of_le (by rw [sz2]; exact Nat.lt_succ_self _) hsz
      · rw [z]; exact Nat.lt_of_lt_of_le halt (Nat.le_trans (by rw [sz2]; exact Nat.le_succ _) hsz)
    · intro z
      rw [List.mem_singleton.mp z] at hcl
      exact Nat.lt_irrefl _ hcl
    · intro href hhref
      refine ⟨fun A' E' i v s₂ m₂ hA hD hU hPv hn hm hk => ?_, fun A' E' i v s₂ m₂ hA hD hU hPv hp hn hm hk => ?_⟩
      · simp only [List.forIn_nil]
        exact wpAny_pure ⟨rfl, GxR.keeps_refl _⟩
      · have key : ∀ b o, b ≠ P → s1.heap.get? b = some o → s₂.heap.get? b = some o := fun b o hb e =>
          hk b (List.mem_range.mpr (Heap.lt_size (keep3 b o hb e))) (fun z => by
            have l := Heap.lt_size e
            rw [List.mem_singleton.mp z] at l
            exact Nat.lt_irrefl _ l) o (hhref b o (keep3 b o hb e))
        have hi' : i < its.length := by
          have := (Array.getElem?_eq_some_iff.mp hPv).1
          simpa using this
        obtain ⟨v', ev, rel⟩ := rv.get (List.getElem?_eq_getElem (show i < xs.length by omega))
        have evv : v' = v := by
          have h1 : its[i]? = some v := by simpa using hPv
          rw [h1] at ev
          exact (Option.some.inj ev).symm
        subst evv
        have hb1 : bs[i]? = some (bs.getD i false) := by
          rw [List.getD_eq_getElem?_getD, List.getElem?_eq_getElem (show i < bs.length by omega)]
          rfl
        have o1 := okI I1 rel (hok i _ _ (List.getElem?_eq_getElem (show i < xs.length by omega)) hb1)
        have o2 := okk _ s₂.heap _ _ o1 fun a' o e g => key a' o (fun z => by
          obtain ⟨o', g1, g2⟩ := okr _ _ _ a' o1 e
          rw [z, hPs] at g1
          cases g1
          exact g2 rfl) g
        refine wpAny_mono (hel _ A' E' v' _ s₂ m₂ hA hD rfl I1.ok.glob rfl (stB.keeps fun b o e => key b o (bP b o e) (I1.bk b o e)) ?_ hn hm o2) (fun y s3 r => ⟨⟨by simpa using hi', r.1⟩, r.2⟩) fun _ _ e => e
        exact cpk s1.heap s₂.heap (fun b o hc e => key b o (fun z => by
          rw [z, hPs] at e
          cases e
          exact hc rfl) e) (cpI I1 hcap)
    · intro g h5 tk5 gs hgb hag hsz5 hk5 W5 hat
      simp only [GxR.passing_true, List.length_range] at W5
      refine Calls.spliced_nil ?_
      have W := W5.in4_1
      refine call_all_walkS (W.self 0 _ _ _ hat ⟨g, _, _, _, _, _, _, fun j => bs.getD j false, rfl, W, hat, ?_, fun s' hm => ?_⟩)
      · intro j y sj Qj Ej hy hQj
        obtain ⟨i, hij, hi2, rfl⟩ := hy
        try rw [GxR.passing_true] at hij
        obtain ⟨hj, ej⟩ := List.getElem?_eq_some_iff.mp hij
        rw [List.getElem_range] at ej
        subst ej
        exact wpAny_truthy_bool hQj
      · obtain ⟨more, em⟩ := hmore
        have nwr : ∀ b u, s1.heap.get? b = some u → b ∉ h3.objs.size :: [s1.heap.objs.size] := fun b u e hb => by
          have hl := Heap.lt_size e
          simp only [List.mem_cons, List.not_mem_nil, or_false] at hb
          rcases hb with z | z
          · rw [z] at hl
            have h9 : (h3.objs.size : Nat) < s1.heap.objs.size := hl
            omega
          · rw [z] at hl
            exact Nat.lt_irrefl _ hl
        have J := inv_tab (more := more) (h' := s'.heap) (g' := s'.gens) (d' := s'.drawn) (t' := s'.toks) I1 hP (fun b u hb e => hm.heap b u (nwr b u e) (hk5 b u (keep3 b u hb e)))
          (by rw [← em]; exact hm.heap P _ (nwr P _ hPs) (hk5 P _ hP3)) (AllBare.movedS (I1.bare.push hgb) hm)
        rw [sh_eta s1 s' hm.os] at J
        have tb : Tabbed P H1 (upd H1 P (.tbl (ps ++ more))) := ⟨⟨ps ++ more, upd_same, by rw [← em]; exact ht3⟩, fun b hb => upd_ne hb⟩
        refine ⟨.bl _, _, J, ?_, q _ (Same.tabbed hT tb) tb.1⟩
        show Value.bool _ = Value.bool _
        rw [← all_range bs, show its.toArray.size = bs.length by simp; omega]
  refine ⟨lim2, ?_⟩
  cases hf : codeAmong gpos ps.toList with
  | none =>
    refine wpAny_genexprCodeX hcode (cd.code hP2 ht) (cd.tab hP2) hf fun c' h' tk hx hge hlt hco' _ htab' _ => ?_
    obtain ⟨o1, vs, f1, tf, fl, tg, inF, tx, tt, op, _, _, _, _, _, _, _, _, _, htr, _⟩ := hco'
    exact cont _ h' tk _ hx (Nat.le_trans hge (Nat.le_of_lt hlt)) htab'.2 ⟨_, rfl⟩ htr
  | some cv =>
    refine wpAny_genexprCode_hit hcode (cd.code hP2 ht) hf ?_
    exact cont cv (s1.heap.push ito) s1.toks ps (Heap.ExtBut.refl _ _) (Nat.le_refl _) hP2 ⟨#[], by simp⟩ ht
end
end Cl

namespace Cl
open PySem PySem.Spec PyProof.Rows L2
open GxR (TabB TabG)
/-! ### a def whose code object's table grows -/
section
variable {P : Program} {w : World} {K : PySem.W.Frag} {mg : Str → Option Value} {base : Heap}
theorem okGT {x qual : Str} {st : Stmt} {f : Addr} {fd : FuncData} {N ps : List Str} {k : Nat} {sp : Sp} {c : Addr}
    (F : Fun K x qual st f fd) (hc : fd.code = .ref c) (S : FnScope N ps (defScope st))
    (len : ∀ vs H Q E, sp vs H Q E → vs.length = ps.length)
    (body : ∀ (A : Around) (outer : List Env) (s : Shared) (H : Hp) (vs : List V) (Q : VK) (E : XK),
      RG k (A.deeper (envOfC qual (defScope st) s.heap.objs.size f (.ref c))) → sp vs H Q E →
      ∃ t, PSs (cxOf CX0 P w K mg base N qual (defScope st) f (.ref c) A outer s H E).nox (defBody st) t ∧
        t { nx := fun _ H' => Q .non H', rt := Q } (start N vs) H) :
    FnG P w K mg base CX0 (k + 1) f fd ps sp := by
  obtain ⟨oc, od, kV, doc, pm, an, cdv, ct, osl, rfl, lk, hcd⟩ := F.ex
  have hc : cdv = .ref c := hc
  subst hc
  constructor
  · exact len
  intro A outer s H args us vs Q E hr e0 hb r hsp
  have nvs := len _ _ _ _ hsp
  have keepB : ∀ b o, base.get? b = some o → s.heap.get? b = some o := fun b o z => (e0.bs b o z).1
  have inK : K.In s.heap := e0.mod.kin.keeps keepB
  have nolim : s.heap.NoLimit := e0.mod.nolimit.keeps keepB
  have kinds : ∀ y ∈ ps.zip us, (defScope st).names.lookup y.1 = some .local ∨
      ((defScope st).names.lookup y.1 = some .cell ∧
        ((cellsFrom (s.heap.objs.size + 1) (defScope st).names []).lookup y.1).isSome = true) := by
    rintro ⟨n, v⟩ hy
    rcases S.par n (List.of_mem_zip hy).1 with z | z
    · exact .inl z
    · exact .inr ⟨z, PySem.W.cellsFrom_some _ _ _ (.inl z)⟩
  refine codeAny_call_function hr.room.depth (inK _ _ lk) rfl S.co S.gen rfl
    (PySem.W.codeRec_of inK hcd) (hb _ _ _ _ ?_)
  refine wpAny_newFunctionEnv_cells S.kind kinds fun env he s1 x => ?_
  subst he
  refine ⟨nolim.keeps x.toInCall.keep, codeAny_func ?_⟩
  have hr2 : RG k (A.deeper (envOfC qual (defScope st) s.heap.objs.size f (.ref c))) := ⟨hr.room.deeper _, hr.gd⟩
  obtain ⟨t, ht, hq⟩ := body A outer s H vs Q E hr2 hsp
  have I : Inv (cxOf CX0 P w K mg base N qual (defScope st) f (.ref c) A outer s H E) [] (start N vs) H s1 :=
    inv_start S hr.room.hd e0 nvs r x
  refine wpAny_mono (ht.nox.run [] s1 (start N vs) H _ I hq) (fun fl s' hs => ?_) fun _ _ z => z
  match fl, hs with
  | .ret u, ⟨v, σ', H', J, rv, q⟩ => exact ⟨v, H', J.os, J.bare, J.base, J.hok, rv, q⟩
  | .next, ⟨σ', H', J, q⟩ => exact ⟨V.non, H', J.os, J.bare, J.base, J.hok, rfl, q⟩
  | .brk, ⟨_, _, _, q⟩ => exact q.elim
  | .cont, ⟨_, _, _, q⟩ => exact q.elim
end
/-! ### the end: the law's call, some defs' tables growing -/
def TabN (mg : Str → Option Value) (h : Heap) (n : Str) : Prop := ∃ (f : Addr) (o : Obj) (fd : FuncData) (c P : Addr), mg n = some (.ref f) ∧ h.get? f = some o ∧ o.data = .func fd ∧ fd.code = .ref c ∧ PySem.W.CodeHd h c P ∧ h.TableAt c P #[]
theorem endGT {l : PySem.W.OpenLaw} {n k : Nat} {q : Program} {loose : List Str} {XP : (Str → Option Value) → Heap → Prop}
    {YP : World → Heap → Prop} {d : DefRec} {K : Params → PySem.W.Frag} {sp : PySem.W.Frag → List (Addr × Addr) → Sp} {x : Str} {ts : List Str}
    (hn : l.most = some n) (hn2 : n ≤ sizeLine) (hdf : d.params.defaults = []) (hr : RG k callerA) (hrec : (ts.all fun n => (recsOf q).any fun e => e.name == n) = true)
    (hY : ∀ (w : World) (h : Heap), YP w h → (K w.params).In h)
    (F : ∀ (w : World) (mg : Str → Option Value) (fa : Addr) (h : Heap), (K w.params).In h → h.Ns mainGlobals mg →
      mg d.name = some (.ref fa) → (∀ n ∈ ts, TabN mg h n) → ∃ (fd : FuncData) (cs : List (Addr × Addr)), (∀ p ∈ cs, PySem.W.CodeHd h p.1 p.2 ∧ h.TableAt p.1 p.2 #[] ∧ (K w.params).lookup p.2 = none) ∧ (∀ (s : Shared) (u : Value), BindsTo s fd ⟨[u], []⟩ [(x, u)]) ∧
        ∀ base : Heap, (K w.params).In base → base.Ns mainGlobals mg → (∀ p ∈ cs, TabB base mg p.1 p.2) → FnG l.prog w (K w.params) mg base CX0 k fa fd [x] (sp (K w.params) cs))
    (hsp : ∀ (w : World) (cs : List (Addr × Addr)) (H : Hp) (a : Addr) (ns : List Int), ns.length ≤ n → (∀ z ∈ ns, Builtin.Int.intBits z ≤ 1048576) →
      (∀ p ∈ cs, H p.2 = some (.tbl #[])) → SqL (K w.params) H a (ns.map V.int) → sp (K w.params) cs [.ref a] H (fun v _ => v = .bl true) E0) :
    PySem.W.WalkO q loose XP YP l.row.toRowW d [] (fun f vs => PySem.call f vs) := by
  refine Att.attach_callB hn hdf fun w s₀ s1 mg mb fa o pm cd doc a us ns G Y ho hd hcd hmg obj hints nlen bits gens => ?_
  have inK : (K w.params).In s1.heap := hY w _ Y
  have tn : ∀ n ∈ ts, TabN mg s1.heap n := fun n hn => by
    obtain ⟨dL, h1, h2⟩ := List.any_eq_true.mp (List.all_eq_true.mp hrec n hn)
    have h2 : dL.name = n := beq_iff_eq.mp h2
    obtain ⟨f, o, fd, c, P, t1, t2, t3, t4, t5, t6⟩ := G.T.tab dL h1
    exact ⟨f, o, fd, c, P, by rw [← h2]; exact t1, t2, t3, t4, .of t5 t6, t6⟩
  obtain ⟨fd, cs, hcs, bind, hF⟩ := F w mg fa _ inK G.T.g hmg tn
  have rv := vals_ints hints
  have nv : us.length = ns.length := hints.length
  obtain ⟨T, hT⟩ : ∃ T, T = cs.map (·.2) := ⟨_, rfl⟩
  have isT : ∀ b ∈ T, s1.heap.get? b = some { cls := .none, data := .fields #[] } := fun b hb => by
    rw [hT] at hb
    obtain ⟨p, hp, e⟩ := List.mem_map.mp hb
    rw [← e]
    exact (hcs p hp).2.1.2
  have memT : ∀ p ∈ cs, p.2 ∈ T := fun p hp => by rw [hT]; exact List.mem_map.mpr ⟨p, hp, rfl⟩
  have aT : a ∉ T := fun z => by
    have q := isT a z
    rw [obj] at q
    have z' : Data.seq us.toArray _ = Data.fields #[] := congrArg Obj.data (Option.some.inj q)
    cases z'
  have small : ns.length ≤ sizeLine := Nat.le_trans nlen hn2
  have go : ∀ H : Hp, (∀ b ∈ T, H b = some (.tbl #[])) → (∀ b, b ∉ T → H b = none ∨ ∃ ob xs, H b = some (.frz ob (.lst xs))) → SqL (K w.params) H a (ns.map V.int) → HOk l.prog w H s1.heap → (∀ b, H b ≠ none → b = a ∨ b ∈ T) →
      (H a ≠ none → (K w.params).lookup a = none) → codeAny (model l.prog w) callerA (.call (.ref fa) ⟨[.ref a], []⟩)
        (fun r s' => r = .ok (.ret (.bool true)) ∧ OldK s1.heap s'.heap ∧ s'.os = s1.os ∧ AllBare s'.gens) s1 := by
    intro H hTb only hS hok atA offK
    have left : ∀ {b : Addr} {o : Obj}, s1.heap.get? b = some o → H b = none → (hidT s1.heap H).get? b = some o :=
      fun e z => hidT_get e z
    -- what is no list and no empty table is not tracked
    have nothing : ∀ {b : Addr} {o : Obj}, s1.heap.get? b = some o → (∀ vs n, o.data ≠ .seq vs n) → o.data ≠ .fields #[] → H b = none := fun {b o} e h1 h2 => by
      cases z : H b with
      | none => rfl
      | some u =>
        rcases atA b (by rw [z]; intro y; cases y) with y | y
        · rw [y, obj] at e
          cases e
          exact absurd rfl (h1 _ _)
        · rw [isT b y] at e
          cases e
          exact absurd rfl h2
    have spaces : ∀ {b : Addr} {m : Str → Option Value}, s1.heap.Ns b m → (hidT s1.heap H).Ns b m :=
      fun {b m} ⟨o, es, ep, e, z, r⟩ => ⟨o, es, ep, left e (nothing e (fun vs n y => by rw [z] at y; cases y) (fun y => by rw [z] at y; cases y)), z, r⟩
    have inB : (K w.params).In (hidT s1.heap H) := fun b o e => left (inK b o e) (by
      cases z : H b with
      | none => rfl
      | some u =>
        rcases atA b (by rw [z]; intro y; cases y) with y | y
        · subst y
          rw [offK (by rw [z]; intro y; cases y)] at e
          cases e
        · rw [hT] at y
          obtain ⟨p, hp, ep⟩ := List.mem_map.mp y
          rw [← ep, (hcs p hp).2.2] at e
          cases e)
    have md : Mod (K w.params) mg (hidT s1.heap H) := by
      obtain ⟨mc, c1, c2⟩ := G.T.nolimit
      exact ⟨inB, spaces G.T.g, ⟨mb, spaces G.T.b, G.T.builtins⟩, ⟨mc, spaces c1, c2⟩⟩
    have TB : ∀ p ∈ cs, TabB (hidT s1.heap H) mg p.1 p.2 := fun p hp => by
      have hTp := isT _ (memT p hp)
      refine ⟨?_, ?_, fun z => ?_⟩
      · obtain ⟨o, us', file, tf, flags, tg, inF, text, tt, e1, r1, r2, r3, r⟩ := (hcs p hp).1
        refine ⟨o, us', file, tf, flags, tg, inF, text, tt, left e1 (nothing e1 (fun vs n z => ?_) fun z => ?_), r1, r2, r3, r⟩
        · rw [r2] at z
          cases z
        · rw [r2] at z
          cases z
          simp at r3
      · obtain ⟨bm, ob, b1, b2, b3, b4, b5, b6⟩ := G.T.bmain
        have nG : bm ≠ mainGlobals := fun y => by
          obtain ⟨o, es, ep, e, z, _⟩ := G.T.g
          rw [y, e] at b3
          cases b3
          rw [z] at b6
          cases b6
        have nP : bm ≠ p.2 := fun y => by
          rw [y, hTp] at b3
          cases b3
          cases b6
        refine ⟨bm, ob, b1, b2, nG, nP, left b3 (nothing b3 (fun vs n z => ?_) fun z => ?_), b4, b5, b6⟩
        · rw [b6] at z
          cases z
        · rw [b6] at z
          cases z
      · obtain ⟨o, es, ep, e, y, _⟩ := G.T.g
        rw [z, hTp] at e
        cases e
        cases y
    have e0 : Env0 l.prog w (K w.params) mg (hidT s1.heap H) callerA [] s1 H :=
      ⟨rfl, md, fun b o e => of_hidT e, Nat.le_of_eq (hidT_size _ _), trivial, fun b z => (nomatch z), hok, .of_eq gens⟩
    have run := (hF _ inB (spaces G.T.g) TB).run callerA [] s1 H ⟨[.ref a], []⟩ [.ref a] [.ref a] _ _ hr e0
      (bind s1 (.ref a)) (.cons rfl .nil) (hsp w cs H a ns nlen bits (fun p hp => hTb _ (memT p hp)) hS)
    refine codeAny_mono run fun res s' h => ?_
    match res, h with
    | .error e, h => exact h.elim
    | .ok .next, h => exact h.elim
    | .ok .brk, h => exact h.elim
    | .ok .cont, h => exact h.elim
    | .ok (.ret u), ⟨v, H', os, bare, un, hok', r', q⟩ =>
      have q' : v = .bl true := q
      subst q'
      have r2 : u = Value.bool true := r'
      subst r2
      have stays : ∀ b o, b ∉ T → s1.heap.get? b = some o → s'.heap.get? b = some o := fun b o hb e => by
        cases z : H b with
        | none => exact un.keep b o e z (fun y => (nomatch y)) (fun y => (nomatch y))
        | some u =>
          rcases only b hb with y | ⟨ob, xs, y⟩
          · rw [z] at y
            cases y
          · obtain ⟨e1, _⟩ := hok b _ y
            obtain ⟨e2, _⟩ := hok' b _ (un.frzs b ob _ y)
            rw [e] at e1
            cases e1
            exact e2
      have grows : ∀ b ∈ T, ∃ more : Array Value, s'.heap.get? b = some { cls := .none, data := .fields (#[] ++ more) } := fun b hb => by
        obtain ⟨more, z⟩ := un.tbls b #[] (hTb b hb)
        exact ⟨more, hok' b _ z⟩
      refine ⟨rfl, ⟨fun b o e => ?_, fun b o e => ?_⟩, os, bare⟩
      · by_cases hb : b ∈ T
        · obtain ⟨more, hm⟩ := grows b hb
          have hb2 := hb
          rw [hT] at hb2
          obtain ⟨p, hp, ep⟩ := List.mem_map.mp hb2
          rw [isT b hb] at e
          cases e
          exact .inr (.inl ⟨by rw [← ep]; exact (hcs p hp).2.1.isCodeTable, rfl, #[], more, rfl, hm⟩)
        · exact .inl (stays b o hb e)
      · by_cases hb : b ∈ T
        · obtain ⟨more, hm⟩ := grows b hb
          exact ⟨_, hm⟩
        · exact ⟨o, stays b o hb e⟩
  let Hf : Option HO → Hp := fun u b => if b ∈ T then some (.tbl #[]) else if b = a then u else none
  have hf : ∀ u b, b ∈ T → Hf u b = some (.tbl #[]) := fun u b hb => if_pos hb
  have hf2 : ∀ u b, b ∉ T → b ≠ a → Hf u b = none := fun u b hb hn => (if_neg hb).trans (if_neg hn)
  have hf3 : ∀ u, Hf u a = u := fun u => (if_neg aT).trans (if_pos rfl)
  cases hk : (K w.params).lookup a with
  | some o =>
    have e := inK a o hk
    rw [obj] at e
    cases e
    refine go (Hf none) (hf none) (fun b hb => ?_) (.inr ⟨_, us.toArray, _, hk, rfl, rfl, rfl, ?_, by simpa using rv⟩)
      (fun b u z => ?_) (fun b z => ?_) fun z => absurd (hf3 none) z
    · by_cases hn : b = a
      · rw [hn]; exact .inl (hf3 none)
      · exact .inl (hf2 none b hb hn)
    · rw [List.size_toArray, nv]
      exact small
    · by_cases hb : b ∈ T
      · rw [hf none b hb] at z
        cases z
        exact isT b hb
      · by_cases hn : b = a
        · rw [hn, hf3] at z; cases z
        · rw [hf2 none b hb hn] at z; cases z
    · by_cases hb : b ∈ T
      · exact .inr hb
      · by_cases hn : b = a
        · exact .inl hn
        · exact absurd (hf2 none b hb hn) z
  | none =>
    let ob : Obj := { cls := .type "list", data := .seq us.toArray }
    refine go (Hf (some (.frz ob (.lst (ns.map V.int))))) (hf _) (fun b hb => ?_) (.inl (.inr ⟨ob, hf3 _⟩)) (fun b u z => ?_) (fun b z => ?_) fun _ => hk
    · by_cases hn : b = a
      · rw [hn]; exact .inr ⟨_, _, hf3 _⟩
      · exact .inl (hf2 _ b hb hn)
    · by_cases hb : b ∈ T
      · rw [hf _ b hb] at z
        cases z
        exact isT b hb
      · by_cases hn : b = a
        · rw [hn, hf3] at z
          cases z
          rw [hn]
          exact ⟨obj, by rw [List.length_map]; exact small, us, _, rv, obj⟩
        · rw [hf2 _ b hb hn] at z; cases z
    · by_cases hb : b ∈ T
      · exact .inr hb
      · by_cases hn : b = a
        · exact .inl hn
        · exact absurd (hf2 _ b hb hn) z
end Cl

namespace Cl
open PySem PySem.Spec PyProof.Rows L2
open GxR (TabB TabG Tabbed GenS)
/-! ### all(is_whole(part) for part in thing) -/
/-- a tuple of these parts, or another thing -/
def Th (K : PySem.W.Frag) (H : Hp) (v : V) : Option (List V) → Prop
  | none => ∃ T, Kd K H v T ∧ T ≠ "tuple"
  | some xs => ∃ a, v = .ref a ∧ SqT K H a xs ∧ ∀ x ∈ xs, ∃ T, Kd K H x T
theorem Kd.same {K : PySem.W.Frag} {H H' : Hp} {v : V} {T : String} (h : Kd K H v T) (s : Same H H') : Kd K H' v T := by
  cases h with
  | non => exact .non
  | bl b => exact .bl b
  | int i => exact .int i
  | str x => exact .str x
  | lst h => exact .lst (by
      rcases h with (h | ⟨o, h⟩) | h
      · exact .inl (.inl (s _ _ h))
      · exact .inl (.inr ⟨o, s _ _ h⟩)
      · exact .inr h)
  | tup h => exact .tup (seT s h)
  | dct h => exact .dct (s _ _ h)
theorem Th.same {K : PySem.W.Frag} {H H' : Hp} {v : V} {o : Option (List V)} (h : Th K H v o) (s : Same H H') : Th K H' v o := by
  cases o with
  | none => obtain ⟨T, h, n⟩ := h; exact ⟨T, h.same s, n⟩
  | some xs => obtain ⟨a, e, h, p⟩ := h; exact ⟨a, e, seT s h, fun x hx => let ⟨T, q⟩ := p x hx; ⟨T, q.same s⟩⟩
def wholes : Option (List V) → Int → Bool
  | none, _ => false
  | some xs, m => decide ((xs.length : Int) = m) && xs.all isI
def spAre (K : PySem.W.Frag) (P : Addr) : Sp := fun vs H Q _ => ∃ v m o, vs = [v, .int m] ∧ TabG H P ∧ Th K H v o ∧ ∀ H', Same H H' → Q (.bl (wholes o m)) H'
/-- is_whole(u), told quietly -/
def okQ (K : PySem.W.Frag) (h : Heap) (u : Value) (b : Bool) : Prop := ∃ T b1 b2, KQ K h u T ∧ kitB T "int" = some b1 ∧ kitB T "bool" = some b2 ∧ b = (b1 && !b2)
section
variable {P : Program} {w : World} {K : PySem.W.Frag} {mg : Str → Option Value}
theorem elt_qw {fn x : Str} {f : Addr} {p1 p2 p3 : Pos} {scope : Scope} {D : Nat} {Cp : List (Str × Addr) → Heap → Prop} (W : QW P w K mg f) (hD : D < recursionLimit) (hf : mg fn = some (.ref f)) (hkf : PySem.W.keepIn K (.ref f) = true)
    (hk : scope.kind = .function) (hl : scope.names.lookup x = some .local) (hg : scope.names.lookup fn = some .globalImplicit) (hd : (x == ("__debug__" : Str)) = false := by decide) (hdf : (fn == ("__debug__" : Str)) = false := by decide) :
    EltT P w K mg scope x (.Call (.Name fn p1) [.Name x p2] [] p3) D Cp (okQ K) := by
  intro cenv A' E' u b s m hA hdep hs hglo hblt St hcp hn hm ok
  obtain ⟨T, b1, b2, q, e1, e2, rfl⟩ := ok
  refine wpAny_Call_Name_kw (Calls.Name_function_global (by rw [hs]; exact hk) (show cenv.scope.names.lookup fn = some .globalImplicit by rw [hs]; exact hg) (Calls.loadGlobal_global (by rw [hglo]; exact St.2.1) hf ?_) hdf)
  refine PySem.W.callWith_K (h₀ := s.heap) (first := []) St.1 hkf ?_
  show wpAny _ _ (spliced [(false, eval (.Name x p2) cenv)]) _ _ s
  refine Calls.spliced_cons (wpAny_Name (wpAny_loadName_local (by rw [hs]; exact hk) (show cenv.scope.names.lookup x = some .local by rw [hs]; exact hl) hn hm ?_) hd)
  refine Calls.spliced_nil ⟨St.1, wpAny_call (codeAny_mono (W.run A' s u T b1 b2 (by omega) St q e1 e2) fun res s' hq => ?_)⟩
  obtain ⟨rfl, k⟩ := hq
  exact ⟨rfl, k⟩
theorem okQ.keeps {h h' : Heap} {u : Value} {b : Bool} (q : okQ K h u b) (k : ∀ a o, u = .ref a → h.get? a = some o → h'.get? a = some o) : okQ K h' u b := by
  obtain ⟨T, b1, b2, q, e⟩ := q
  exact ⟨T, b1, b2, q.keeps k, e⟩
theorem okQ.cls {h : Heap} {u : Value} {b : Bool} {a : Addr} (q : okQ K h u b) (e : u = .ref a) : ∃ o, h.get? a = some o ∧ o.cls ≠ .none := by
  obtain ⟨T, b1, b2, q, _⟩ := q
  obtain ⟨_, _, _, _, _, c⟩ := q
  obtain ⟨o, g, w⟩ := c a e
  exact ⟨o, g, by rw [w]; exact fun z => nomatch z⟩
theorem okQ.of {X : Cx} {pins : List (Addr × Obj)} {σ : L2.St} {H : Hp} {s : Shared} {v : V} {T : String} {u : Value} (I : Inv X pins σ H s) (h : Kd X.K H v T) (r : RelV v u) : okQ X.K s.heap u (isI v) := by
  refine ⟨T, _, _, h.kq I r, h.int?, h.bool?, ?_⟩
  cases v <;> first | rfl | (rename_i b; cases b <;> rfl)
end
end Cl
namespace Cl
open PySem PySem.Spec PyProof.Rows L2
open GxR (TabB TabG Tabbed GenS)
section
variable {X : Cx}
theorem pe_allW {c P f : Addr} {iter : Expr} {fn x : Str} {px p pos gpos p1 p2 p3 : Pos} {scope : Scope} {te : TE} {k : Nat}
    (hr : Room k X.A) (hD : X.A.depth + 1 < recursionLimit) (hg : Gl X "all") (hm : X.mg "all" = none) (TB : TabB X.base X.mg c P) (hcode : X.env.code = .ref c) (W : QW X.prog X.w X.K X.mg f) (hf : X.mg fn = some (.ref f)) (hkf : PySem.W.keepIn X.K (.ref f) = true)
    (hi : PE X iter te) (S : GenS X.env scope x) (hgf : scope.names.lookup fn = some .globalImplicit) (hs : ∀ v, genFold iter X.env v = pure v := by intro _; rfl)
    (hd : (x == ("__debug__" : Str)) = false := by decide) (hdf : (fn == ("__debug__" : Str)) = false := by decide)
    (he : starEach [.GeneratorExp (.Call (.Name fn p1) [.Name x p2] [] p3) [⟨.Name x px, iter, [], 0⟩] scope gpos] X.env = (false, eval (.GeneratorExp (.Call (.Name fn p1) [.Name x p2] [] p3) [⟨.Name x px, iter, [], 0⟩] scope gpos) X.env) :: starEach [] X.env := by rfl) :
    PE X (.Call (.Name "all" p) [.GeneratorExp (.Call (.Name fn p1) [.Name x p2] [] p3) [⟨.Name x px, iter, [], 0⟩] scope gpos] [] pos) (tAllT X.K P (fun _ _ => True) (fun H v b => ∃ T, Kd X.K H v T ∧ b = isI v) te) :=
  pe_allT (Cp := fun _ _ => True) (ok := okQ X.K) hr hg hm TB hcode S hi (elt_qw W hD hf hkf S.kind S.loc hgf hd hdf) (fun _ _ _ _ q k => q.keeps k) (fun _ _ _ _ q e => q.cls e)
    (fun I r ⟨T, h, e⟩ => by rw [e]; exact .of I h r) (fun _ _ => trivial) (fun _ _ _ q => q) trivial hs he
end
end Cl
namespace Cl
open PySem PySem.Spec PyProof.Rows L2
open GxR (TabB TabG Tabbed GenS)
theorem roomD {k : Nat} {A : Around} (r : Room k A) : A.depth + 1 < recursionLimit := by have := r.dp; omega
theorem genS {env : Env} {scope : Scope} {x : Str} (h1 : scope.kind = .function) (h2 : scope.isCoroutine = false) (h3 : ∀ y ∈ scope.names, y.2 ≠ .cell ∧ y.2 ≠ .free) (h4 : scope.names.lookup (".0" : Str) = some NameKind.local) (h5 : scope.names.lookup x = some .local) : GenS env scope x :=
  ⟨h1, h2, fun y h => (h3 y h).1, h4, h5, fun y h e => absurd e (h3 y h).2⟩
end Cl

namespace Cl
open PySem PySem.Spec PyProof.Rows L2
/-! ### pairs of whole numbers -/
def pd (p : Int × Int) : PyData := .tuple [.int p.1, .int p.2]
def At2 (K : PySem.W.Frag) (H : Hp) (v : V) (p : Int × Int) : Prop := ∃ a, v = .ref a ∧ SqT K H a [.int p.1, .int p.2]
def llt (p q : Int × Int) : Bool := decide (p.1 < q.1 ∨ (p.1 = q.1 ∧ p.2 < q.2))
def mn (p q : Int × Int) : Int × Int := if llt q p then q else p
def mx (p q : Int × Int) : Int × Int := if llt p q then q else p
theorem At2.dp {K : PySem.W.Frag} {H : Hp} {v : V} {p : Int × Int} (h : At2 K H v p) : Dp K H v (pd p) := by
  obtain ⟨a, rfl, h⟩ := h
  exact .tup h (.cons (.int _) (.cons (.int _) .nil))
theorem At2.same {K : PySem.W.Frag} {H H' : Hp} {v : V} {p : Int × Int} (h : At2 K H v p) (s : Same H H') : At2 K H' v p := by
  obtain ⟨a, rfl, h⟩ := h
  exact ⟨a, rfl, seT s h⟩
theorem lt_pd (p q : Int × Int) : PySem.W.dataLt (pd p) (pd q) = llt p q := by
  obtain ⟨a, b⟩ := p
  obtain ⟨c, d⟩ := q
  have e1 : PySem.W.keyToks (pd (a, b)) = [.inl 1, .inl a, .inl 1, .inl b, .inl 0] := by simp [pd, PySem.W.keyToks, PySem.W.keyToksAll]
  have e2 : PySem.W.keyToks (pd (c, d)) = [.inl 1, .inl c, .inl 1, .inl d, .inl 0] := by simp [pd, PySem.W.keyToks, PySem.W.keyToksAll]
  unfold PySem.W.dataLt llt
  rw [e1, e2, lex_self (O := itemOrd)]
  by_cases h : a = c
  · subst h
    rw [lex_self (O := itemOrd), lex_self (O := itemOrd)]
    by_cases h2 : b = d
    · subst h2
      rw [lex_self (O := itemOrd), lex_self (O := itemOrd)]
      simp
      rfl
    · rw [lex_diff (O := itemOrd) (by simpa using h2)]
      show decide (b < d) = _
      simp
  · rw [lex_diff (O := itemOrd) (by simpa using h)]
    show decide (a < c) = _
    simp [h]
theorem alike_pd (p q : Int × Int) : PySem.W.alike (pd p) (pd q) = true := rfl
theorem pd_inj {p q : Int × Int} (h : pd p = pd q) : p = q := by
  unfold pd at h
  injection h with h
  injection h with h1 h2
  injection h1 with h1
  injection h2 with h2 _
  injection h2 with h2
  exact Prod.ext h1 h2
section
variable {X : Cx}
def rCmp2 (K : PySem.W.Frag) (f : Int × Int → Int × Int → Bool) : R2 := fun x y H Q => ∃ p q, At2 K H x p ∧ At2 K H y q ∧ Q (.bl (f p q)) H
theorem op_le2 (hu : X.A.units + 64 < cLine) : OpR X (compareOp .LtE) (rCmp2 X.K fun p q => !llt q p) := by
  intro pins s σ H x y v u Q I rx ry ⟨p, q, hp, hq, h⟩
  obtain ⟨as, r1⟩ := Dp.reads I _ x v hp.dp rx
  obtain ⟨bs, r2⟩ := Dp.reads I _ y u hq.dp ry
  exact PySem.W.le_data r1 r2 (alike_pd p q) (fun z => nomatch z) (by show X.A.units + min 1 1 < cLine; omega) ⟨.bl _, H, I, rfl, by rw [lt_pd]; exact h⟩
theorem op_gt2 (hu : X.A.units + 64 < cLine) : OpR X (compareOp .Gt) (rCmp2 X.K fun p q => llt q p) := by
  intro pins s σ H x y v u Q I rx ry ⟨p, q, hp, hq, h⟩
  obtain ⟨as, r1⟩ := Dp.reads I _ x v hp.dp rx
  obtain ⟨bs, r2⟩ := Dp.reads I _ y u hq.dp ry
  exact PySem.W.gt_data r1 r2 (alike_pd p q) (fun z => nomatch z) (by show X.A.units + min 1 1 < cLine; omega) ⟨.bl _, H, I, rfl, by rw [lt_pd]; exact h⟩

/-- min, max of a tuple of two pairs: the pair itself -/
def rBest1 (K : PySem.W.Frag) (f : Int × Int → Int × Int → Int × Int) : List V → Hp → VK → Prop := fun xs H Q =>
  ∃ a u v p q, xs = [.ref a] ∧ SqT K H a [u, v] ∧ At2 K H u p ∧ At2 K H v q ∧ ∀ w, (w = u ∨ w = v) → At2 K H w (f p q) → Q w H
def rBest2 (K : PySem.W.Frag) (f : Int × Int → Int × Int → Int × Int) : List V → Hp → VK → Prop := fun xs H Q =>
  ∃ u v p q, xs = [u, v] ∧ At2 K H u p ∧ At2 K H v q ∧ ∀ w, (w = u ∨ w = v) → At2 K H w (f p q) → Q w H
theorem pick2 {pins : List (Addr × Obj)} {σ : L2.St} {H : Hp} {s : Shared} {h' : Heap} {tk : Nat} {u v : V} {u0 v0 w0 : Value} {p q r : Int × Int} {bs : List Addr} {Q : VK} {i : Nat}
    (I : Inv X pins σ H s) (hk : ∀ b o, s.heap.get? b = some o → h'.get? b = some o) (ru : RelV u u0) (rv : RelV v v0) (hu : At2 X.K H u p) (hv : At2 X.K H v q)
    (e : #[u0, v0][i]? = some w0) (rd : Reads h' w0 (pd r) bs) (h : ∀ w, (w = u ∨ w = v) → At2 X.K H w r → Q w H) :
    EP X pins σ Q w0 { s with heap := h', toks := tk } := by
  have J : Inv X pins σ H { s with heap := h', toks := tk } := I.kept hk
  match i, e with
  | 0, e =>
    cases e
    obtain ⟨as, r1⟩ := Dp.reads J _ u u0 hu.dp ru
    have e2 := pd_inj (rd.unique _ _ r1).1
    subst e2
    exact ⟨u, H, J, ru, h u (.inl rfl) hu⟩
  | 1, e =>
    cases e
    obtain ⟨as, r1⟩ := Dp.reads J _ v v0 hv.dp rv
    have e2 := pd_inj (rd.unique _ _ r1).1
    subst e2
    exact ⟨v, H, J, rv, h v (.inr rfl) hv⟩
  | i + 2, e => exact absurd e (by simp)
theorem all_alike (p q : Int × Int) : PySem.W.AlikeAll [pd p, pd q] := by
  constructor
  · intro x hx y hy
    simp only [List.mem_cons, List.not_mem_nil, or_false] at hx hy
    rcases hx with rfl | rfl <;> rcases hy with rfl | rfl <;> rfl
  · intro x hx
    simp only [List.mem_cons, List.not_mem_nil, or_false] at hx
    rcases hx with rfl | rfl <;> exact fun z => nomatch z
theorem best_mn (p q : Int × Int) : PySem.W.minD (pd p) [pd q] = pd (mn p q) := by
  unfold PySem.W.minD mn
  simp only [List.foldl, lt_pd]
  split <;> rfl
theorem best_mx (p q : Int × Int) : PySem.W.maxD (pd p) [pd q] = pd (mx p q) := by
  unfold PySem.W.maxD mx
  simp only [List.foldl, lt_pd]
  split <;> rfl
theorem cr_min1 (hc : X.calm = true) (hu : X.A.units + 64 < cLine) : CallR X (.builtin "min") (rBest1 X.K mn) := by
  intro pins s σ H xs us Q I r ⟨a, u, v, p, q, e, hS, hp, hq, h⟩
  subst e
  rw [Vals.ref1 r]
  obtain ⟨its, rv, ht, hz⟩ := I.tuple hS
  obtain ⟨u0, v0, rfl, r1, r2⟩ := vals2 rv
  obtain ⟨as, rd1⟩ := Dp.reads I _ u u0 hp.dp r1
  obtain ⟨bs, rd2⟩ := Dp.reads I _ v v0 hq.dp r2
  refine PySem.W.min_tuple_data (x := pd p) (xs := [pd q]) (I.ok.hd hc) ht (.cons rd1 (.cons rd2 .nil)) (all_alike p q) (by show X.A.units + 1 + max 1 (max 1 0) < cLine; omega) fun i w h' tk cs hi rd hk => ?_
  rw [best_mn] at rd
  exact pick2 I hk r1 r2 hp hq hi rd h
theorem cr_max1 (hc : X.calm = true) (hu : X.A.units + 64 < cLine) : CallR X (.builtin "max") (rBest1 X.K mx) := by
  intro pins s σ H xs us Q I r ⟨a, u, v, p, q, e, hS, hp, hq, h⟩
  subst e
  rw [Vals.ref1 r]
  obtain ⟨its, rv, ht, hz⟩ := I.tuple hS
  obtain ⟨u0, v0, rfl, r1, r2⟩ := vals2 rv
  obtain ⟨as, rd1⟩ := Dp.reads I _ u u0 hp.dp r1
  obtain ⟨bs, rd2⟩ := Dp.reads I _ v v0 hq.dp r2
  refine PySem.W.max_tuple_data (x := pd p) (xs := [pd q]) (I.ok.hd hc) ht (.cons rd1 (.cons rd2 .nil)) (all_alike p q) (by show X.A.units + 1 + max 1 (max 1 0) < cLine; omega) fun i w h' tk cs hi rd hk => ?_
  rw [best_mx] at rd
  exact pick2 I hk r1 r2 hp hq hi rd h
/-- max(u, v), min(u, v) of two pairs -/
theorem cr_max2 (hc : X.calm = true) (hu : X.A.units + 64 < cLine) : CallR X (.builtin "max") (rBest2 X.K mx) := by
  intro pins s σ H xs us Q I r ⟨u, v, p, q, e, hp, hq, h⟩
  subst e
  obtain ⟨u0, v0, rfl, r1, r2⟩ := vals2 r
  have nm : (toString "max" ++ toString ".loop" : String) = "max.loop" := by decide
  have bp : Builtin.Builtins.bindParams "max" ["key", "default"] 0 ⟨[], []⟩ = pure [none, none] := rfl
  refine call_function_tree F.kind_max F.plain_max F.entry_max (F.args_max2 _ _) ?_
  show wpAny _ X.A.in1 (Builtin.Builtins.bindParams "max" ["key", "default"] 0 ⟨[], []⟩ >>= _) _ _ s
  refine wpAny_bind (wpAny_of_eq bp ?_)
  show wpAny _ X.A.in1 (newTuple [u0, v0] >>= _) _ _ s
  refine wpAny_bind (wpAny_newObj_type ?_)
  have I1 : Inv X pins σ H { s with heap := s.heap.push { cls := .type "tuple", data := .seq #[u0, v0] } } :=
    I.kept (t' := s.toks) fun b ob z => Heap.get?_push_of_some _ z
  obtain ⟨as, rd1⟩ := Dp.reads I1 _ u u0 hp.dp r1
  obtain ⟨bs, rd2⟩ := Dp.reads I1 _ v v0 hq.dp r2
  have rds : ReadsAll (s.heap.push { cls := .type "tuple", data := .seq #[u0, v0] }) [u0, v0] [pd p, pd q] _ := .cons rd1 (.cons rd2 .nil)
  have cm := PySem.W.cmpIn_gt (prog := X.prog) (w := X.w) (A := X.A.in1) (s := { s with heap := s.heap.push { cls := .type "tuple", data := .seq #[u0, v0] } }) (vs := #[u0, v0]) rds (all_alike p q)
    (by show X.A.units + 1 + max 1 (max 1 0) < cLine; omega)
  refine wpAny_bind (wpAny_mono (PySem.W.iter_tupleW (A := X.A.in1) (vs := #[u0, v0]) (I.ok.hd hc) ⟨_, Heap.get?_push_size _ rfl, rfl, _, rfl⟩ (Q := fun it s2 => ∃ I' fp wr, ∃ G : Array GenState → Array GenState → Prop, ∃ St : Nat → Shared → Prop, it = .ref I' ∧
    WalksS X.prog X.w X.A.in1 I' fp wr G 2 (fun i v => #[u0, v0][i]? = some v) St ∧ St 0 s2 ∧ (∀ b ∈ fp, b < s2.heap.objs.size) ∧ (∀ b o, (s.heap.push { cls := .type "tuple", data := .seq #[u0, v0] }).get? b = some o → b ∉ wr) ∧
    (∀ b o, (s.heap.push { cls := .type "tuple", data := .seq #[u0, v0] }).get? b = some o → s2.heap.get? b = some o) ∧ s2.os = s.os ∧ s2.gens = s.gens ∧ G = (fun a b => b = a) ∧ s2.drawn = s.drawn) fun s2 e2 W st hfp hw hk => ?_) (fun it s2 hh => ?_) fun _ _ z => z)
  · exact ⟨_, _, _, _, _, rfl, W, st, hfp, hw, hk, by rw [e2], by rw [e2], rfl, by rw [e2]⟩
  · obtain ⟨I', fp, wr, G, St, rfl, W, hst, hfp, hw, hkeep, eo, eg, hG, ed⟩ := hh
    refine wpAny_bind (wpAny_newObj_type ?_)
    have hSf : s2.heap.objs.size ∉ fp := fun hm => Nat.lt_irrefl _ (hfp _ hm)
    rw [nm]
    refine wpAny_pure ⟨plainId_quiet F.plain_max_loop _, codeAny_max_loop_firstH W _ hw _ cm s2.heap.objs.size hSf (fresh_in hkeep) _ (by decide)
      (fun b o e => Heap.get?_push_of_some _ (hkeep b o e)) (W.frame 0 s2 _ s2.toks hst (Nat.le_refl _) fun b _ o e => Heap.get?_push_of_some _ e) (Heap.get?_push_size _ rfl) fun v' s' hP hm => ?_⟩
    have m := Moved.drop_new (tk := s2.toks) hm (Nat.le_refl _)
    have eb : argBest (fun i j => PySem.W.dataLt ([pd p, pd q].getD j PyData.none) ([pd p, pd q].getD i PyData.none)) (2 - 1) = if llt p q = true then 1 else 0 := by
      show (if PySem.W.dataLt (pd p) (pd q) = true then 1 else 0) = _
      rw [lt_pd]
    rw [eb] at hP
    have hs' : s' = { s with heap := s'.heap, toks := s'.toks } := by
      obtain ⟨hp', g', d', tk', os'⟩ := s'
      have h1 := m.gens
      rw [hG] at h1
      have h1 : g' = s.gens := h1.trans eg
      have h2 : d' = s.drawn := m.drawn.trans ed
      have h3 : os' = s.os := m.os.trans eo
      subst h1 h2 h3
      rfl
    have J : Inv X pins σ H { s with heap := s'.heap, toks := s'.toks } := I.kept fun b o z => by
      have z1 := Heap.get?_push_of_some { cls := .type "tuple", data := .seq #[u0, v0] } z
      exact m.heap b o (hw _ _ z1) (hkeep _ _ z1)
    rw [hs']
    cases hl : llt p q with
    | true =>
      rw [hl] at hP
      cases hP
      have e3 : mx p q = q := if_pos hl
      exact ⟨v, H, J, r2, h v (.inr rfl) (by rw [e3]; exact hq)⟩
    | false =>
      rw [hl] at hP
      cases hP
      have e3 : mx p q = p := if_neg (by rw [hl]; decide)
      exact ⟨u, H, J, r1, h u (.inl rfl) (by rw [e3]; exact hp)⟩
/-- min(u, v) of two pairs -/
theorem cr_min2 (hc : X.calm = true) (hu : X.A.units + 64 < cLine) : CallR X (.builtin "min") (rBest2 X.K mn) := by
  intro pins s σ H xs us Q I r ⟨u, v, p, q, e, hp, hq, h⟩
  subst e
  obtain ⟨u0, v0, rfl, r1, r2⟩ := vals2 r
  have nm : (toString "min" ++ toString ".loop" : String) = "min.loop" := by decide
  have bp : Builtin.Builtins.bindParams "min" ["key", "default"] 0 ⟨[], []⟩ = pure [none, none] := rfl
  refine call_function_tree F.kind_min F.plain_min F.entry_min (F.args_min2 _ _) ?_
  show wpAny _ X.A.in1 (Builtin.Builtins.bindParams "min" ["key", "default"] 0 ⟨[], []⟩ >>= _) _ _ s
  refine wpAny_bind (wpAny_of_eq bp ?_)
  show wpAny _ X.A.in1 (newTuple [u0, v0] >>= _) _ _ s
  refine wpAny_bind (wpAny_newObj_type ?_)
  have I1 : Inv X pins σ H { s with heap := s.heap.push { cls := .type "tuple", data := .seq #[u0, v0] } } :=
    I.kept (t' := s.toks) fun b ob z => Heap.get?_push_of_some _ z
  obtain ⟨as, rd1⟩ := Dp.reads I1 _ u u0 hp.dp r1
  obtain ⟨bs, rd2⟩ := Dp.reads I1 _ v v0 hq.dp r2
  have rds : ReadsAll (s.heap.push { cls := .type "tuple", data := .seq #[u0, v0] }) [u0, v0] [pd p, pd q] _ := .cons rd1 (.cons rd2 .nil)
  have cm := PySem.W.cmpIn_lt (prog := X.prog) (w := X.w) (A := X.A.in1) (s := { s with heap := s.heap.push { cls := .type "tuple", data := .seq #[u0, v0] } }) (vs := #[u0, v0]) rds (all_alike p q)
    (by show X.A.units + 1 + max 1 (max 1 0) < cLine; omega)
  refine wpAny_bind (wpAny_mono (PySem.W.iter_tupleW (A := X.A.in1) (vs := #[u0, v0]) (I.ok.hd hc) ⟨_, Heap.get?_push_size _ rfl, rfl, _, rfl⟩ (Q := fun it s2 => ∃ I' fp wr, ∃ G : Array GenState → Array GenState → Prop, ∃ St : Nat → Shared → Prop, it = .ref I' ∧
    WalksS X.prog X.w X.A.in1 I' fp wr G 2 (fun i v => #[u0, v0][i]? = some v) St ∧ St 0 s2 ∧ (∀ b ∈ fp, b < s2.heap.objs.size) ∧ (∀ b o, (s.heap.push { cls := .type "tuple", data := .seq #[u0, v0] }).get? b = some o → b ∉ wr) ∧
    (∀ b o, (s.heap.push { cls := .type "tuple", data := .seq #[u0, v0] }).get? b = some o → s2.heap.get? b = some o) ∧ s2.os = s.os ∧ s2.gens = s.gens ∧ G = (fun a b => b = a) ∧ s2.drawn = s.drawn) fun s2 e2 W st hfp hw hk => ?_) (fun it s2 hh => ?_) fun _ _ z => z)
  · exact ⟨_, _, _, _, _, rfl, W, st, hfp, hw, hk, by rw [e2], by rw [e2], rfl, by rw [e2]⟩
  · obtain ⟨I', fp, wr, G, St, rfl, W, hst, hfp, hw, hkeep, eo, eg, hG, ed⟩ := hh
    refine wpAny_bind (wpAny_newObj_type ?_)
    have hSf : s2.heap.objs.size ∉ fp := fun hm => Nat.lt_irrefl _ (hfp _ hm)
    rw [nm]
    refine wpAny_pure ⟨plainId_quiet F.plain_min_loop _, codeAny_min_loop_firstH W _ hw _ cm s2.heap.objs.size hSf (fresh_in hkeep) _ (by decide)
      (fun b o e => Heap.get?_push_of_some _ (hkeep b o e)) (W.frame 0 s2 _ s2.toks hst (Nat.le_refl _) fun b _ o e => Heap.get?_push_of_some _ e) (Heap.get?_push_size _ rfl) fun v' s' hP hm => ?_⟩
    have m := Moved.drop_new (tk := s2.toks) hm (Nat.le_refl _)
    have eb : argBest (fun i j => PySem.W.dataLt ([pd p, pd q].getD i PyData.none) ([pd p, pd q].getD j PyData.none)) (2 - 1) = if llt q p = true then 1 else 0 := by
      show (if PySem.W.dataLt (pd q) (pd p) = true then 1 else 0) = _
      rw [lt_pd]
    rw [eb] at hP
    have hs' : s' = { s with heap := s'.heap, toks := s'.toks } := by
      obtain ⟨hp', g', d', tk', os'⟩ := s'
      have h1 := m.gens
      rw [hG] at h1
      have h1 : g' = s.gens := h1.trans eg
      have h2 : d' = s.drawn := m.drawn.trans ed
      have h3 : os' = s.os := m.os.trans eo
      subst h1 h2 h3
      rfl
    have J : Inv X pins σ H { s with heap := s'.heap, toks := s'.toks } := I.kept fun b o z => by
      have z1 := Heap.get?_push_of_some { cls := .type "tuple", data := .seq #[u0, v0] } z
      exact m.heap b o (hw _ _ z1) (hkeep _ _ z1)
    rw [hs']
    cases hl : llt q p with
    | true =>
      rw [hl] at hP
      cases hP
      have e3 : mn p q = q := if_pos hl
      exact ⟨v, H, J, r2, h v (.inr rfl) (by rw [e3]; exact hq)⟩
    | false =>
      rw [hl] at hP
      cases hP
      have e3 : mn p q = p := if_neg (by rw [hl]; decide)
      exact ⟨u, H, J, r1, h u (.inl rfl) (by rw [e3]; exact hp)⟩
end
end Cl

namespace Cl
open PySem PySem.Spec PyProof.Rows L2
def pr (q : Addr × List Int) : Int × Int := (q.2.getD 0 0, q.2.getD 1 0)
def le2 (q r : Addr × List Int) : Prop := llt (pr r) (pr q) = false
theorem pr_of {q : Addr × List Int} (h : q.2.length = 2) : q.2 = [(pr q).1, (pr q).2] := by
  obtain ⟨a, xs⟩ := q
  match xs, h with
  | [x, y], _ => rfl
section
variable {P : Program} {w : World} {A : Around} {E : Value → Shared → Prop} {s : Shared} {a : Addr} {L : List (Addr × List Int)}
  {es : Array (Int × Value)} {ep : Nat} {t : SetTable} {Q : Value → Shared → Prop}
/-- sorted(set) of pairs of any whole numbers -/
theorem sorted_set2 (R : SetTR P w s.heap a L es ep t) (hh : A.handled = none) (h2 : ∀ p ∈ L, p.2.length = 2) (hu : A.units + 64 < cLine)
    (hQ : ∀ s' p (out : Array Value) (c : Nat) (L' : List (Addr × List Int)), (∀ b o, s.heap.get? b = some o → s'.heap.get? b = some o) →
      s'.gens = s.gens → s'.os = s.os → s.heap.objs.size ≤ p → s'.heap.get? p = some (seqObj "list" out c) →
      out.toList = L'.map (fun q => Value.ref q.1) → L'.Perm L → L'.Pairwise le2 → Q (.ref p) s') :
    wpAny (model P w) A (call (.builtin "sorted") [.ref a]) Q E s := by
  obtain ⟨o, ho, hex, hd⟩ := R.ob
  have nfew := R.few
  refine Calls.call_function_entry kind_sorted plain_sorted entry_sorted (args_sorted1 _) ?_
  unfold Builtin.«sorted»
  refine wpAny_bind (m := checkCount "sorted" 1 1 _) (wpAny_pure ?_)
  refine wpAny_bind (collect_set (A := A.in1) hh ⟨o, ho, hex.1, hd⟩ R.fits (by unfold scanBound; have := R.size; omega) R.tab.ris R.led fun s1 vs k1 hz g1 o1 pm => ?_)
  have rows : es.toList.map (·.2) = L.map fun q => Value.ref q.1 := by
    rw [R.rows]
    unfold rowsOf
    rw [List.map_map]
    rfl
  rw [rows] at pm
  -- what was collected is the set's rows, put in some order
  obtain ⟨L1, e1, p1⟩ : ∃ L1 : List (Addr × List Int), vs = L1.map (fun q => Value.ref q.1) ∧ L1.Perm L := by
    clear hQ k1 g1 o1 hz
    have gen : ∀ (L : List (Addr × List Int)) (us vs : List Value), us = L.map (fun q => Value.ref q.1) → vs.Perm us → ∃ L1 : List (Addr × List Int), vs = L1.map (fun q => Value.ref q.1) ∧ L1.Perm L := by
      intro L us vs eu hp
      induction hp generalizing L with
      | nil =>
        cases L with
        | nil => exact ⟨[], rfl, .nil⟩
        | cons q L => cases eu
      | @cons x l1 l2 hp ih =>
        cases L with
        | nil => cases eu
        | cons q L =>
          rw [List.map_cons] at eu
          injection eu with e2 e3
          obtain ⟨L1, e4, p4⟩ := ih L e3
          exact ⟨q :: L1, by rw [List.map_cons, e2, e4], p4.cons q⟩
      | swap x y l =>
        match L, eu with
        | q :: r :: L, eu =>
          rw [List.map_cons, List.map_cons] at eu
          injection eu with e2 e3
          injection e3 with e3 e4
          exact ⟨r :: q :: L, by rw [List.map_cons, List.map_cons, e2, e3, e4], .swap ..⟩
        | [_], eu => cases eu
        | [], eu => cases eu
      | trans h1 h2 ih1 ih2 =>
        obtain ⟨L2, e2, p2⟩ := ih2 L eu
        obtain ⟨L1, e1, p1⟩ := ih1 L2 e2
        exact ⟨L1, e1, p1.trans p2⟩
    exact gen L _ vs rfl pm
  have n1 : vs.length = L.length := by rw [e1, List.length_map, p1.length_eq]
  have small : vs.length ≤ sizeLine := by rw [sizeLine_eq]; omega
  refine wpAny_bind (wpAny_newList ?_ small)
  have oL : (s1.heap.push (seqObj "list" vs.toArray 0)).get? s1.heap.objs.size = some (seqObj "list" vs.toArray 0) := Heap.get?_push_size _ rfl
  let enc : Addr × List Int → PyData := fun q => .tuple [.int (pr q).1, .int (pr q).2]
  have reads : ∀ q ∈ L, ∃ as, Reads (s1.heap.push (seqObj "list" vs.toArray 0)) (.ref q.1) (enc q) as ∧ s1.heap.objs.size ∉ as := fun q hq => by
    obtain ⟨ob, its, n, x1, x2, x3, x4⟩ := R.tup q hq
    have x5 := ints_of_items x4
    rw [pr_of (h2 q hq)] at x5
    have lt := Heap.lt_size x1
    have y1 := Heap.get?_push_of_some (seqObj "list" vs.toArray 0) (k1 _ _ x1)
    obtain ⟨l, el⟩ : ∃ l, its.toList = l := ⟨_, rfl⟩
    rw [el] at x5
    have ei : its = l.toArray := by rw [← el]
    subst ei
    match l, x5 with
    | [.int _ t1, .int _ t2], .cons _ _ (.cons _ _ .nil) =>
      refine ⟨_, Reads.tuple y1 x2 x3 (.cons (.int _ _) (.cons (.int _ _) .nil)), fun z => ?_⟩
      have z2 : s1.heap.objs.size = q.1 := by simpa using z
      exact absurd (Nat.lt_of_lt_of_le lt hz) (by rw [z2]; exact Nat.lt_irrefl _)
  have each : ∀ l : List (Addr × List Int), (∀ q ∈ l, q ∈ L) → PySem.W.EachIs (fun (v : Value) (q : Addr × List Int) => v = .ref q.1) (l.map fun q => Value.ref q.1) l ∧
      PySem.W.EachIs (fun v q => ∃ as, Reads (s1.heap.push (seqObj "list" vs.toArray 0)) v (enc q) as ∧ s1.heap.objs.size ∉ as) (l.map fun q => Value.ref q.1) l := by
    intro l
    induction l with
    | nil => intro _; exact ⟨.nil, .nil⟩
    | cons q l ih =>
      intro h
      obtain ⟨i1, i2⟩ := ih fun r hr => h r (List.mem_cons_of_mem _ hr)
      exact ⟨.cons rfl i1, .cons (reads q (h q List.mem_cons_self)) i2⟩
  obtain ⟨c1, c2⟩ := each L1 fun q hq => p1.mem_iff.mp hq
  rw [← e1] at c1 c2
  refine wpAny_bind (wpAny_holding (PySem.W.list_sort_data (s := { s1 with heap := s1.heap.push (seqObj "list" vs.toArray 0) }) (enc := enc) oL c1 c2 (.of fun _ _ => rfl) (.tuples fun b => ⟨_, _, rfl⟩) (by rw [p1.length_eq, sizeLine_eq]; omega)
    (fun b _ => by show A.in1.units + 1 + 1 < cLine; show A.units + 1 + 1 + 1 < cLine; omega) fun out a1 a2 => ?_))
  obtain ⟨c, hc⟩ := sortedHeap_at (vs := vs) (out := out.toArray) oL
  have eo : out = (L1.mergeSort (PySem.W.dataLe false enc)).map fun q => Value.ref q.1 := by
    revert a2
    generalize L1.mergeSort (PySem.W.dataLe false enc) = M
    intro a2
    clear hc a1
    induction a2 with
    | nil => rfl
    | cons h t ih => rw [List.map_cons, ← ih, h]
  have pM : (L1.mergeSort (PySem.W.dataLe false enc)).Perm L := (List.mergeSort_perm _ _).trans p1
  have pw : (L1.mergeSort (PySem.W.dataLe false enc)).Pairwise le2 := by
    have hle : PySem.W.dataLe false enc = fun p q => decide ((pr p).1 < (pr q).1 ∨ ((pr p).1 = (pr q).1 ∧ (pr p).2 ≤ (pr q).2)) :=
      PySem.W.dataLe_ii (fun q => (pr q).1) (fun q => (pr q).2)
    rw [hle]
    refine List.Pairwise.imp (fun {q r} h => ?_) (List.pairwise_mergeSort (fun p q r h1 h2 => ?_) (fun p q => ?_) L1)
    · have h := of_decide_eq_true h
      unfold le2 llt
      exact decide_eq_false (by omega)
    · have h1 := of_decide_eq_true h1
      have h2 := of_decide_eq_true h2
      exact decide_eq_true (by omega)
    · rw [Bool.or_eq_true, decide_eq_true_eq, decide_eq_true_eq]
      omega
  refine wpAny_pure ⟨_, rfl, hQ _ s1.heap.objs.size out.toArray c (L1.mergeSort (PySem.W.dataLe false enc)) (fun b u e => ?_) g1 o1 hz hc eo pM pw⟩
  have e5 := k1 b u e
  have lt5 := Heap.lt_size e5
  show (sortedHeap (s1.heap.push (seqObj "list" vs.toArray 0)) s1.heap.objs.size vs out.toArray).get? b = some u
  rw [sortedHeap_old (Nat.ne_of_lt lt5) (by rw [size_push']; exact Nat.lt_succ_of_lt lt5)]
  exact Heap.get?_push_of_some _ e5
end
section
variable {X : Cx}
def rSortedS2 (K : PySem.W.Frag) (P : Program) (w : World) : List V → Hp → VK → Prop := fun vs H Q => ∃ (a : Addr) (L : List (Addr × List Int)),
  vs = [V.ref a] ∧ H a = some (SetTO P w a L) ∧ (∀ p ∈ L, SqT K H p.1 (p.2.map V.int)) ∧ (∀ p ∈ L, p.2.length = 2) ∧
  ∀ L' : List (Addr × List Int), L'.Perm L → (L'.map (·.2)).Nodup → L'.Pairwise le2 → New H (.lst (L'.map fun q => V.ref q.1)) Q
theorem cr_sortedS2 (hc : X.calm = true) (hu : X.A.units + 64 < cLine) : CallR X (.builtin "sorted") (rSortedS2 X.K X.prog X.w) := by
  intro pins s σ H vs us Q I r ⟨a, L, e, ha, hk, h2, q⟩
  subst e
  obtain ⟨es, ep, t, R⟩ := SetT0.full (I.hok a _ ha).1 fun p hp => I.isT (hk p hp)
  rw [Vals.ref1 r]
  refine sorted_set2 R (I.ok.hd hc) h2 hu fun s' p out c L' k g o hp hg hout pm pw => ?_
  have few : L'.length < 64 := by rw [pm.length_eq]; exact R.few
  have len : (L'.map fun q => V.ref q.1).length ≤ sizeLine := by rw [List.length_map, sizeLine_eq]; omega
  have hn : H p = none := I.hok.fresh hp
  have hv : Vals (L'.map fun q => V.ref q.1) out.toList := by rw [hout]; exact vals_of_refs L'
  have J : Inv X pins σ (upd H p (.lst (L'.map fun q => V.ref q.1))) { s with heap := s'.heap, gens := s'.gens, drawn := s'.drawn, toks := s'.toks } :=
    I.call (ch := []) (Un.laid k hp hn) (I.hok.laid k hp ⟨len, out.toList, c, hv, hg⟩) (by rw [g]; exact I.bare) (fun _ z => nomatch z)
  have e : s' = { s with heap := s'.heap, gens := s'.gens, drawn := s'.drawn, toks := s'.toks } := by
    cases s'
    cases s
    cases o
    rfl
  rw [e]
  exact ⟨.ref p, _, J, rfl, (q L' pm ((pm.map (·.2)).nodup_iff.mpr R.nd) pw).go p hn⟩
def rSetN (K : PySem.W.Frag) (P : Program) (w : World) : List V → Hp → VK → Prop := fun xs H Q => ∃ (l : Addr) (ks : List (Addr × List Int)), xs = [V.ref l] ∧ SqL K H l (ks.map fun p => V.ref p.1) ∧
  (∀ p ∈ ks, SqT K H p.1 (p.2.map V.int)) ∧ ks.length < 64 ∧ ∀ a H' L, Same H H' → H a = none → H' a = some (SetTO P w a L) → (∀ p ∈ L, p ∈ ks) → (∀ p ∈ ks, p.2 ∈ L.map (·.2)) → Q (.ref a) H'
theorem cr_setN (hc : X.calm = true) (hu : X.A.units + 64 < cLine) : CallR X (.type "set") (rSetN X.K X.prog X.w) := by
  intro pins s σ H xs us Q I r ⟨l, ks, e, h1, h2, h3, q⟩
  exact cr_setOfT hc hu pins s σ H xs us Q I r ⟨l, ks, e, h1, h2, h3, fun a L n s1 s2 => q a _ L (same_new n) n upd_same s1 s2⟩
end
end Cl

namespace Cl
open PySem PySem.Spec PyProof.Rows L2 HT
/-! ### t[::-1] of a tuple -/
theorem rev_adjust (n : Nat) : Builtin.Slice.sliceAdjust none none (-1) (n : Int) = ((n : Int) - 1, -1) := rfl
theorem rev_places (n : Nat) : Builtin.Slice.slicePlaces ((n : Int) - 1) (-1) (-1) = n := by
  unfold Builtin.Slice.slicePlaces
  rw [if_neg (by decide)]
  split
  · rw [show ((n : Int) - 1 - -1 - 1) / (- -1) = (n : Int) - 1 by rw [show (- -1 : Int) = 1 by decide, Int.ediv_one]; omega]
    omega
  · omega
theorem fm_congr {α β : Type} {f g : α → Option β} : ∀ (l : List α), (∀ k ∈ l, f k = g k) → l.filterMap f = l.filterMap g
  | [], _ => rfl
  | x :: l, h => by
    rw [List.filterMap_cons, List.filterMap_cons, h x List.mem_cons_self, fm_congr l fun k hk => h k (List.mem_cons_of_mem _ hk)]
theorem rev_pick (xs : Array Value) : ((List.range xs.size).filterMap fun (k : Nat) => xs[((xs.size : Int) - 1 + (k : Int) * -1).toNat]?).toArray = xs.toList.reverse.toArray := by
  congr 1
  have e : (List.range xs.size).filterMap (fun (k : Nat) => xs[((xs.size : Int) - 1 + (k : Int) * -1).toNat]?) =
      ((List.range xs.size).map fun k => xs.size - 1 - k).filterMap (xs[·]?) := by
    rw [List.filterMap_map]
    refine fm_congr _ fun k hk => ?_
    have hk := List.mem_range.mp hk
    show xs[((xs.size : Int) - 1 + (k : Int) * -1).toNat]? = xs[xs.size - 1 - k]?
    congr 1
    omega
  rw [e, PySem.W.krv_range, List.filterMap_reverse, PySem.W.krv_all]
section
variable {prog : Program} {w : World} {A : Around} {E : Value → Shared → Prop} {s : Shared}
theorem getItem_tuple_rev {t sl : Addr} {items : Array Value} {tk : Tok} {Q : Value → Shared → Prop} (ht : IsTup s.heap t items)
    (hs : s.heap.IsSliceOf sl .none .none (.int (-1) tk)) (hsz : items.size ≤ sizeLine)
    (h : Q (.ref s.heap.objs.size) { s with heap := s.heap.push { cls := .type "tuple", data := .seq items.toList.reverse.toArray } }) :
    wpAny (model prog w) A (getItem (.ref t) (.ref sl)) Q E s := by
  obtain ⟨os, hos, hcs, hds⟩ := id hs
  have isS : s.TypeIs (.ref sl) "slice" := ⟨os, hos, hcs⟩
  have fits : sizeOk (.seq items.toList.reverse.toArray) := by
    show items.toList.reverse.toArray.size ≤ sizeLine
    rw [List.size_toArray, List.length_reverse, Array.length_toList]
    exact hsz
  unfold getItem
  try with_reducible refine wpAny_holding ?_
  first | refine wpAny_bind (wpAny_pure ?_) | skip
  refine wpAny_bind (wpAny_sequenceKey ht.typeIs (by decide) ?_)
  refine wpAny_bind (wpAny_callSpecial?_slot (name := Str.ofString "__getitem__") ht.typeIs PyProof.Rows.slot_tuple_getitem
    (wpAny_call_entry PyProof.Rows.slot_tuple_getitem ht.typeIs entry_tuple_getitem ?_ (args_tuple_getitem _ _)))
  show wpAny _ _ (Builtin.Tuple.tupleItemsOf (.ref t) >>= _) _ _ s
  refine wpAny_bind (tupleItemsOf_ ht ?_)
  refine wpAny_bind (wpAny_typeOf isS ?_)
  rw [if_pos (by decide)]
  have applied : ∀ (A' : Around) (E' : Value → Shared → Prop) (Q' : Int × Int × Nat → Shared → Prop), Q' ((items.size : Int) - 1, -1, items.size) s →
      wpAny (model prog w) A' (Builtin.Slice.sliceApplied (.ref sl) (pure (items.size : Int))) Q' E' s := fun A' E' Q' q => by
    unfold Builtin.Slice.sliceApplied Builtin.Slice.sliceFields
    refine wpAny_bind (wpAny_bind (wpAny_field hos hds (x := .none) rfl (wpAny_bind (wpAny_field hos hds (x := .none) rfl (wpAny_bind (wpAny_field hos hds (x := .int (-1) tk) rfl (wpAny_pure ?_)))))))
    refine wpAny_bind (slicePart_ (.int (-1) tk) ?_)
    show wpAny _ _ (if ((-1 : Int) == 0) = true then _ else _) _ _ s
    rw [if_neg (by decide)]
    refine wpAny_bind (slicePart_ .none (wpAny_bind (slicePart_ .none (wpAny_bind (wpAny_pure ?_)))))
    show wpAny _ _ (match Builtin.Slice.sliceAdjust none none (-1) (items.size : Int) with | (lo, hi) => pure (lo, (-1 : Int), Builtin.Slice.slicePlaces lo hi (-1))) _ _ s
    rw [rev_adjust]
    show wpAny _ _ (pure ((items.size : Int) - 1, (-1 : Int), Builtin.Slice.slicePlaces ((items.size : Int) - 1) (-1) (-1))) _ _ s
    rw [rev_places]
    exact wpAny_pure q
  refine wpAny_bind (applied _ _ _ ?_)
  have notw : ¬ ((((items.size : Int) - 1) == 0 && (-1 : Int) == 1 && items.size == items.size) = true) := by
    rw [show ((-1 : Int) == 1) = false by decide, Bool.and_false, Bool.false_and]
    decide
  show wpAny _ _ (if (((items.size : Int) - 1) == 0 && (-1 : Int) == 1 && items.size == items.size) = true then _ else _) _ _ s
  rw [if_neg notw, rev_pick]
  first
    | exact wpAny_bind (m := Builtin.Tuple.tupleExact _) (wpAny_newObj_type (wpAny_pure ⟨_, rfl, wpAny_pure h⟩) fits)
    | exact wpAny_bind (m := Builtin.Tuple.tupleExact _) (wpAny_newObj_type (wpAny_bind (wpAny_pure (wpAny_pure ⟨_, rfl, wpAny_pure h⟩))) fits)
    | exact wpAny_bind (wpAny_bind (m := Builtin.Tuple.tupleExact _) (wpAny_newObj_type (wpAny_pure (wpAny_pure ⟨_, rfl, wpAny_pure h⟩)) fits))
    | exact wpAny_bind (wpAny_bind (m := Builtin.Tuple.tupleExact _) (wpAny_newObj_type (wpAny_pure ⟨_, rfl, wpAny_pure h⟩) fits))
end
section
variable {X : Cx} {e : Expr} {te : TE}
def tRevT (K : PySem.W.Frag) (te : TE) : TE := fun σ H Q => te σ H fun x H1 => ∃ a xs, x = .ref a ∧ SqT K H1 a xs ∧ New H1 (.tup xs.reverse) Q
theorem pe_revT {p0 p1 p2 pos : Pos} {j : Nat} (he : PE X e te) :
    PE X (.Subscript e (.Slice none none (some (.UnaryOp .USub (.Constant (.int 1) j p0) p1)) p2) pos) (tRevT X.K te) := by
  constructor
  intro pins s σ H Q I h
  refine Subscript_ (thn (he.run pins s σ H _ I h) fun v s1 ⟨x, H1, I1, r1, a, xs, hx, hl, q⟩ => ?_)
  subst hx
  cases r1
  refine wpAny_Slice ?_
  rw [evalPart_none]
  refine wpAny_pure ?_
  refine wpAny_pure ?_
  rw [evalPart_some]
  have neg : PE X (.UnaryOp .USub (.Constant (.int 1) j p0) p1) _ := pe_un un_neg pe_int
  refine thn (neg.run pins s1 σ H1 (fun y H2 => y = .int (-1) ∧ H2 = H1) I1 ⟨1, rfl, rfl, rfl⟩) fun u s2 ⟨y, H2, I2, ry, hy, hH⟩ => ?_
  subst hy hH
  obtain ⟨t, rfl⟩ := ry
  have I4 : Inv X pins σ H2 { s2 with heap := s2.heap.push { cls := .type "slice", data := .fields #[.none, .none, .int (-1) t] } } :=
    I2.kept (t' := s2.toks) fun b ob z => Heap.get?_push_of_some _ z
  obtain ⟨its, r, ht, hz⟩ := I4.tuple hl
  have nl := r.length
  refine tail_any ht.typeIs PyProof.Rows.slot_tuple_getitem.lookup ?_ (by with_unfolding_all rfl)
  refine getItem_tuple_rev ht (Heap.IsSliceOf.new ..) (by rw [List.size_toArray] <;> omega) ?_
  refine ⟨.ref _, _, I4.laid (t' := s2.toks) (o := .tup xs.reverse) (fun b ob z => Heap.get?_push_of_some _ z) (Nat.le_refl _) ?_, rfl, q.go _ (I4.hok.fresh (Nat.le_refl _))⟩
  exact ⟨by rw [List.length_reverse]; exact hz, _, valsRev r, IsTup.new _ _⟩
end

/-! ### more rules that hand on a new object -/
section
variable {X : Cx}
def rCatTN (K : PySem.W.Frag) : R2 := fun x y H Q => ∃ a b xs ys, x = .ref a ∧ y = .ref b ∧ SqT K H a xs ∧ SqT K H b ys ∧ xs ≠ [] ∧ ys ≠ [] ∧
  xs.length + ys.length ≤ sizeLine ∧ New H (.tup (xs ++ ys)) Q
theorem op_catTN : OpR X (binaryOp .Add) (rCatTN X.K) := fun pins s σ H x y v u Q I rx ry ⟨a, b, xs, ys, h1, h2, h3, h4, h5, h6, h7, q⟩ =>
  op_catT pins s σ H x y v u Q I rx ry ⟨a, b, xs, ys, h1, h2, h3, h4, h5, h7, fun z => absurd z h6, fun _ => q.go⟩
def rCatLN : R2 := fun x y H Q => ∃ l b xs zs, x = .ref l ∧ y = .ref b ∧ H l = some (.lst xs) ∧ H b = some (.lst zs) ∧ xs.length + zs.length ≤ sizeLine ∧ New H (.lst (xs ++ zs)) Q
theorem op_catLN : OpR X (binaryOp .Add) rCatLN := fun pins s σ H x y v u Q I rx ry ⟨l, b, xs, zs, h1, h2, h3, h4, h5, q⟩ =>
  op_cat pins s σ H x y v u Q I rx ry ⟨l, b, xs, zs, h1, h2, h3, h4, h5, q.go⟩
theorem call_tuple_ofN : CallR X (.type "tuple") (fun xs H Q => ∃ p ys, xs = [.ref p] ∧ SqL X.K H p ys ∧ New H (.tup ys) Q) :=
  fun pins s σ H xs us Q I r ⟨p, ys, h1, h2, q⟩ => call_tuple_of pins s σ H xs us Q I r ⟨p, ys, h1, .inl ⟨h2, q.go⟩⟩
end
end Cl

namespace Cl
open PySem PySem.Spec PyProof.Rows L2
/-! ### what two lines have in common: the mathematics -/
abbrev Pt := Int × Int
abbrev Ln := Pt × Pt
abbrev S3 := Int × Int × Int
def trn (p q : Pt) : Int := p.1 * q.2 - p.2 * q.1
def less (p q : Pt) : Pt := (p.1 - q.1, p.2 - q.2)
def sp3 (n m d : Int) : S3 := (n / spP n m d, m / spP n m d, d / spP n m d)
theorem sp3_scale {n m d t : Int} (ht : 0 < t) (hd : 0 < d) : sp3 (n * t) (m * t) (d * t) = sp3 n m d := by
  have hdt : 0 < d * t := Int.mul_pos hd ht
  have e : spP (n * t) (m * t) (d * t) = spP n m d * t := by
    unfold spP gpar
    rw [if_neg (by omega), if_neg (by omega), Int.gcd_mul_right]
    have c : (((Int.gcd n m * t.natAbs : Nat)) : Int) = (Int.gcd n m : Nat) * t := by
      rw [Int.natCast_mul, Int.natAbs_of_nonneg (by omega)]
    rw [c, Int.gcd_mul_right, Int.natCast_mul, Int.natAbs_of_nonneg (by omega)]
  unfold sp3
  rw [e, Int.mul_ediv_mul_of_pos_left _ _ ht, Int.mul_ediv_mul_of_pos_left _ _ ht, Int.mul_ediv_mul_of_pos_left _ _ ht]
/-- the shares and their bottom, the bottom above nought -/
def kfs (l r : Ln) : Int := if trn (less l.2 l.1) (less r.2 r.1) < 0 then -1 else 1
def klm (l r : Ln) : Int × Int × Int :=
  (trn (less r.1 l.1) (less r.2 r.1) * kfs l r, trn (less r.1 l.1) (less l.2 l.1) * kfs l r, trn (less l.2 l.1) (less r.2 r.1) * kfs l r)
def acr (l r : Ln) : List S3 :=
  let t := klm l r
  if (0 ≤ t.1 ∧ t.1 ≤ t.2.2) ∧ (0 ≤ t.2.1 ∧ t.2.1 ≤ t.2.2) then
    [sp3 (t.2.2 * l.1.1 + t.1 * (l.2.1 - l.1.1)) (t.2.2 * l.1.2 + t.1 * (l.2.2 - l.1.2)) t.2.2] else []
def lo (l r : Ln) : Pt := mx (mn l.1 l.2) (mn r.1 r.2)
def hi (l r : Ln) : Pt := mn (mx l.1 l.2) (mx r.1 r.2)
def alo (l r : Ln) : List S3 :=
  if llt (hi l r) (lo l r) then [] else if lo l r = hi l r then [((lo l r).1, (lo l r).2, 1)] else [((lo l r).1, (lo l r).2, 1), ((hi l r).1, (hi l r).2, 1)]
def cmn (l r : Ln) : List S3 :=
  if trn (less l.2 l.1) (less r.2 r.1) ≠ 0 then acr l r else if trn (less l.2 l.1) (less r.1 l.1) ≠ 0 then [] else alo l r
def rev (l : Ln) : Ln := (l.2, l.1)

theorem trn_neg (p q : Pt) : trn p q = -trn q p := by
  unfold trn; grind
theorem mn_comm (p q : Pt) : mn p q = mn q p := by
  obtain ⟨a, b⟩ := p
  obtain ⟨c, d⟩ := q
  unfold mn llt
  by_cases h1 : c < a ∨ (c = a ∧ d < b) <;> by_cases h2 : a < c ∨ (a = c ∧ b < d) <;> simp [h1, h2] <;> omega
theorem mx_comm (p q : Pt) : mx p q = mx q p := by
  obtain ⟨a, b⟩ := p
  obtain ⟨c, d⟩ := q
  unfold mx llt
  by_cases h1 : c < a ∨ (c = a ∧ d < b) <;> by_cases h2 : a < c ∨ (a = c ∧ b < d) <;> simp [h1, h2] <;> omega
theorem lo_swap (l r : Ln) : lo r l = lo l r := mx_comm ..
theorem hi_swap (l r : Ln) : hi r l = hi l r := mn_comm ..
theorem alo_swap (l r : Ln) : alo r l = alo l r := by unfold alo; rw [lo_swap, hi_swap]
theorem alo_rev (l r : Ln) : alo (rev l) r = alo l r := by
  unfold alo lo hi rev
  rw [mn_comm l.2, mx_comm l.2]

theorem klm_swap (l r : Ln) (h : trn (less l.2 l.1) (less r.2 r.1) ≠ 0) : klm r l = ((klm l r).2.1, (klm l r).1, (klm l r).2.2) := by
  have e := trn_neg (less r.2 r.1) (less l.2 l.1)
  have ek : kfs r l = -kfs l r := by
    unfold kfs
    rw [e]
    split <;> split <;> omega
  unfold klm
  rw [ek]
  unfold trn less
  refine Prod.ext ?_ (Prod.ext ?_ ?_) <;> simp only <;> grind
theorem klm_pos (l r : Ln) (h : trn (less l.2 l.1) (less r.2 r.1) ≠ 0) : 0 < (klm l r).2.2 := by
  show 0 < trn (less l.2 l.1) (less r.2 r.1) * kfs l r
  unfold kfs
  split <;> omega
theorem acr_swap (l r : Ln) (h : trn (less l.2 l.1) (less r.2 r.1) ≠ 0) : acr r l = acr l r := by
  unfold acr
  rw [klm_swap l r h]
  simp only
  have e1 : (klm l r).2.2 * r.1.1 + (klm l r).2.1 * (r.2.1 - r.1.1) = (klm l r).2.2 * l.1.1 + (klm l r).1 * (l.2.1 - l.1.1) := by
    unfold klm trn less
    simp only
    grind
  have e2 : (klm l r).2.2 * r.1.2 + (klm l r).2.1 * (r.2.2 - r.1.2) = (klm l r).2.2 * l.1.2 + (klm l r).1 * (l.2.2 - l.1.2) := by
    unfold klm trn less
    simp only
    grind
  rw [e1, e2]
  split <;> split <;> first | rfl | (exfalso; omega)
theorem klm_rev (l r : Ln) (h : trn (less l.2 l.1) (less r.2 r.1) ≠ 0) : klm (rev l) r = ((klm l r).2.2 - (klm l r).1, (klm l r).2.1, (klm l r).2.2) := by
  have e : trn (less l.1 l.2) (less r.2 r.1) = -trn (less l.2 l.1) (less r.2 r.1) := by unfold trn less; grind
  have ek : kfs (rev l) r = -kfs l r := by
    unfold kfs rev
    simp only
    rw [e]
    split <;> split <;> omega
  unfold klm
  rw [ek]
  unfold trn less rev
  refine Prod.ext ?_ (Prod.ext ?_ ?_) <;> simp only <;> grind
theorem acr_rev (l r : Ln) (h : trn (less l.2 l.1) (less r.2 r.1) ≠ 0) : acr (rev l) r = acr l r := by
  unfold acr
  rw [klm_rev l r h]
  simp only
  have e1 : (klm l r).2.2 * (rev l).1.1 + ((klm l r).2.2 - (klm l r).1) * ((rev l).2.1 - (rev l).1.1) = (klm l r).2.2 * l.1.1 + (klm l r).1 * (l.2.1 - l.1.1) := by
    unfold rev
    grind
  have e2 : (klm l r).2.2 * (rev l).1.2 + ((klm l r).2.2 - (klm l r).1) * ((rev l).2.2 - (rev l).1.2) = (klm l r).2.2 * l.1.2 + (klm l r).1 * (l.2.2 - l.1.2) := by
    unfold rev
    grind
  rw [e1, e2]
  split <;> split <;> first | rfl | (exfalso; omega)
theorem cmn_rev (l r : Ln) : cmn (rev l) r = cmn l r := by
  have e : trn (less l.1 l.2) (less r.2 r.1) = -trn (less l.2 l.1) (less r.2 r.1) := by unfold trn less; grind
  have e2 : trn (less l.1 l.2) (less r.1 l.2) = -trn (less l.2 l.1) (less r.1 l.1) := by unfold trn less; grind
  unfold cmn
  show (if trn (less l.1 l.2) (less r.2 r.1) ≠ 0 then acr (rev l) r else if trn (less l.1 l.2) (less r.1 l.2) ≠ 0 then [] else alo (rev l) r) = _
  rw [e, e2, alo_rev]
  by_cases h : trn (less l.2 l.1) (less r.2 r.1) = 0
  · rw [h]; by_cases h2 : trn (less l.2 l.1) (less r.1 l.1) = 0 <;> simp [h2]
  · rw [if_pos (by omega), if_pos h, acr_rev l r h]
theorem par (w u f : Pt) (hw : w ≠ (0, 0)) (h1 : trn w u = 0) (h2 : trn w f = 0) : trn u f = 0 := by
  obtain ⟨w1, w2⟩ := w
  obtain ⟨u1, u2⟩ := u
  obtain ⟨f1, f2⟩ := f
  unfold trn at *
  simp only at *
  by_cases h : w1 = 0
  · have h0 : w2 ≠ 0 := fun z => hw (by rw [h, z])
    have : w2 * (u1 * f2 - u2 * f1) = 0 := by grind
    rcases Int.mul_eq_zero.mp this with z | z
    · exact absurd z h0
    · exact z
  · have : w1 * (u1 * f2 - u2 * f1) = 0 := by grind
    rcases Int.mul_eq_zero.mp this with z | z
    · exact absurd z h
    · exact z
theorem less_ne {p q : Pt} (h : q ≠ p) : less p q ≠ (0, 0) := fun z => h (by
  obtain ⟨a, b⟩ := p
  obtain ⟨c, d⟩ := q
  unfold less at z
  injection z with z1 z2
  simp only at z1 z2
  exact Prod.ext (by simp only; omega) (by simp only; omega))
theorem cmn_swap (l r : Ln) (hl : l.1 ≠ l.2) (hr : r.1 ≠ r.2) : cmn r l = cmn l r := by
  unfold cmn
  have e := trn_neg (less r.2 r.1) (less l.2 l.1)
  by_cases h : trn (less l.2 l.1) (less r.2 r.1) = 0
  · rw [e, h, alo_swap]
    have e3 : trn (less r.2 r.1) (less l.1 r.1) = 0 ↔ trn (less l.2 l.1) (less r.1 l.1) = 0 := by
      have n1 : ∀ p : Pt, trn p (less l.1 r.1) = -trn p (less r.1 l.1) := fun p => by unfold trn less; grind
      rw [n1]
      constructor
      · intro z
        exact par _ _ _ (less_ne hr) (by rw [e, h]; rfl) (by omega)
      · intro z
        have := par _ _ _ (less_ne hl) h z
        omega
    by_cases h2 : trn (less l.2 l.1) (less r.1 l.1) = 0
    · simp [h2, e3.mpr h2]
    · simp [h2, show ¬ trn (less r.2 r.1) (less l.1 r.1) = 0 from fun z => h2 (e3.mp z)]
  · rw [if_pos (by omega), if_pos h, acr_swap l r h]
theorem cmn_rev2 (l r : Ln) (hl : l.1 ≠ l.2) (hr : r.1 ≠ r.2) : cmn l (rev r) = cmn l r := by
  rw [← cmn_swap l (rev r) hl (fun z => hr z.symm), cmn_rev, cmn_swap l r hl hr]

/-! ### along one straight line: the first and the last of what lies in both -/
def ple (p q : Pt) : Prop := llt q p = false
theorem ple_iff {p q : Pt} : ple p q ↔ ¬ (q.1 < p.1 ∨ (q.1 = p.1 ∧ q.2 < p.2)) := by
  unfold ple llt
  exact decide_eq_false_iff_not
theorem ple_refl (p : Pt) : ple p p := ple_iff.mpr (by omega)
theorem ple_trans {p q r : Pt} (h1 : ple p q) (h2 : ple q r) : ple p r := by
  rw [ple_iff] at *
  omega
theorem ple_antisymm {p q : Pt} (h1 : ple p q) (h2 : ple q p) : p = q := by
  rw [ple_iff] at *
  exact Prod.ext (by omega) (by omega)
theorem ple_of {p q : Pt} (h : llt p q = true) : ple p q := by
  have h := of_decide_eq_true h
  rw [ple_iff]
  omega
theorem mn_or (p q : Pt) : (mn p q = p ∨ mn p q = q) ∧ ple (mn p q) p ∧ ple (mn p q) q := by
  unfold mn
  cases h : llt q p with
  | true => exact ⟨.inr rfl, ple_of h, ple_refl _⟩
  | false => exact ⟨.inl rfl, ple_refl _, h⟩
theorem mx_or (p q : Pt) : (mx p q = p ∨ mx p q = q) ∧ ple p (mx p q) ∧ ple q (mx p q) := by
  unfold mx
  cases h : llt p q with
  | true => exact ⟨.inr rfl, ple_of h, ple_refl _⟩
  | false => exact ⟨.inl rfl, ple_refl _, h⟩
def within (p : Pt) (r : Ln) : Prop := ple (mn r.1 r.2) p ∧ ple p (mx r.1 r.2)
def inBoth (l r : Ln) (p : Pt) : Prop := ((p = l.1 ∨ p = l.2) ∧ within p r) ∨ ((p = r.1 ∨ p = r.2) ∧ within p l)
theorem self_in {p : Pt} {l : Ln} (h : p = l.1 ∨ p = l.2) : within p l := by
  obtain ⟨_, a2, a3⟩ := mn_or l.1 l.2
  obtain ⟨_, b2, b3⟩ := mx_or l.1 l.2
  rcases h with rfl | rfl
  · exact ⟨a2, b2⟩
  · exact ⟨a3, b3⟩
theorem inBoth_two {l r : Ln} {p : Pt} (h : inBoth l r p) : within p l ∧ within p r := by
  rcases h with ⟨h1, h2⟩ | ⟨h1, h2⟩
  · exact ⟨self_in h1, h2⟩
  · exact ⟨h2, self_in h1⟩
theorem inBoth_mid {l r : Ln} {p : Pt} (h : inBoth l r p) : ple (lo l r) p ∧ ple p (hi l r) := by
  obtain ⟨⟨a1, a2⟩, b1, b2⟩ := inBoth_two h
  unfold lo hi
  constructor
  · rcases (mx_or (mn l.1 l.2) (mn r.1 r.2)).1 with z | z <;> rw [z] <;> assumption
  · rcases (mn_or (mx l.1 l.2) (mx r.1 r.2)).1 with z | z <;> rw [z] <;> assumption
theorem lo_in {l r : Ln} (h : ple (lo l r) (hi l r)) : inBoth l r (lo l r) := by
  have hl : ple (lo l r) (mx l.1 l.2) := ple_trans h (mn_or _ _).2.1
  have hr : ple (lo l r) (mx r.1 r.2) := ple_trans h (mn_or _ _).2.2
  obtain ⟨c, d1, d2⟩ := mx_or (mn l.1 l.2) (mn r.1 r.2)
  rcases c with z | z
  · refine .inl ⟨?_, d2, hr⟩
    show lo l r = _ ∨ lo l r = _
    unfold lo; rw [z]; exact (mn_or _ _).1
  · refine .inr ⟨?_, d1, hl⟩
    show lo l r = _ ∨ lo l r = _
    unfold lo; rw [z]; exact (mn_or _ _).1
theorem hi_in {l r : Ln} (h : ple (lo l r) (hi l r)) : inBoth l r (hi l r) := by
  have hl : ple (mn l.1 l.2) (hi l r) := ple_trans (mx_or _ _).2.1 h
  have hr : ple (mn r.1 r.2) (hi l r) := ple_trans (mx_or _ _).2.2 h
  obtain ⟨c, d1, d2⟩ := mn_or (mx l.1 l.2) (mx r.1 r.2)
  rcases c with z | z
  · refine .inl ⟨?_, hr, d2⟩
    show hi l r = _ ∨ hi l r = _
    unfold hi; rw [z]; exact (mx_or _ _).1
  · refine .inr ⟨?_, hl, d1⟩
    show hi l r = _ ∨ hi l r = _
    unfold hi; rw [z]; exact (mx_or _ _).1
def one3 (p : Pt) : S3 := (p.1, p.2, 1)
theorem along_due (l r : Ln) (T : List Pt) (hs : T.Pairwise ple) (nd : T.Nodup) (mem : ∀ p, p ∈ T ↔ inBoth l r p) :
    (T.take 1 ++ (T.drop 1).drop ((T.drop 1).length - 1)).map one3 = alo l r := by
  unfold alo
  cases hh : llt (hi l r) (lo l r) with
  | true =>
    have : T = [] := by
      refine List.eq_nil_iff_forall_not_mem.mpr fun p hp => ?_
      obtain ⟨a, b⟩ := inBoth_mid ((mem p).mp hp)
      have z : ple (lo l r) (hi l r) := ple_trans a b
      unfold ple at z
      rw [hh] at z
      cases z
    subst this
    rfl
  | false =>
    have hle : ple (lo l r) (hi l r) := hh
    have m1 := (mem _).mpr (lo_in hle)
    have m2 := (mem _).mpr (hi_in hle)
    cases T with
    | nil => cases m1
    | cons a t =>
      obtain ⟨p1, p2⟩ := List.pairwise_cons.mp hs
      obtain ⟨n1, n2⟩ := List.nodup_cons.mp nd
      have ha : a = lo l r := by
        have b := (inBoth_mid ((mem a).mp List.mem_cons_self)).1
        rcases List.mem_cons.mp m1 with z | z
        · exact z.symm
        · exact ple_antisymm (p1 _ z) b
      subst ha
      rw [if_neg (by decide)]
      rcases List.eq_nil_or_concat t with rfl | ⟨t', b, rfl⟩
      · have : hi l r = lo l r := by simpa using m2
        rw [if_pos this.symm]
        rfl
      · have hb : b = hi l r := by
          have c := (inBoth_mid ((mem b).mp (List.mem_cons_of_mem _ (by simp)))).2
          refine ple_antisymm c ?_
          rcases List.mem_cons.mp m2 with z | z
          · rw [z]; exact p1 b (by simp)
          · rcases List.mem_append.mp (by simpa using z : hi l r ∈ t' ++ [b]) with z | z
            · rw [List.concat_eq_append] at p2
              exact (List.pairwise_append.mp p2).2.2 _ z _ (by simp)
            · rw [List.mem_singleton.mp z]; exact ple_refl _
        have ne : lo l r ≠ hi l r := fun z => n1 (by rw [z, ← hb]; simp)
        rw [if_neg ne]
        subst hb
        simp [one3]
end Cl

namespace Cl
open PySem PySem.Spec PyProof.Rows L2
/-! ### lines, spots and tuples of them where they stand -/
def AtL (K : PySem.W.Frag) (H : Hp) (v : V) (l : Ln) : Prop := ∃ a u w, v = .ref a ∧ SqT K H a [u, w] ∧ At2 K H u l.1 ∧ At2 K H w l.2
def At3 (K : PySem.W.Frag) (H : Hp) (v : V) (s : S3) : Prop := ∃ a, v = .ref a ∧ SqT K H a [.int s.1, .int s.2.1, .int s.2.2]
inductive AllAt {α : Type} (R : V → α → Prop) : List V → List α → Prop
  | nil : AllAt R [] []
  | cons {v : V} {x : α} {vs : List V} {xs : List α} : R v x → AllAt R vs xs → AllAt R (v :: vs) (x :: xs)
def AtS (K : PySem.W.Frag) (H : Hp) (v : V) (ss : List S3) : Prop := ∃ a vs, v = .ref a ∧ SqT K H a vs ∧ AllAt (At3 K H) vs ss
def AtP (K : PySem.W.Frag) (H : Hp) (v : V) (ps : List Pt) : Prop := ∃ a vs, v = .ref a ∧ SqT K H a vs ∧ AllAt (At2 K H) vs ps
def BdP (p : Pt) : Prop := (-(2 ^ 60) < p.1 ∧ p.1 < 2 ^ 60) ∧ (-(2 ^ 60) < p.2 ∧ p.2 < 2 ^ 60)
def BdC (p : Pt) : Prop := (-(2 ^ 40) < p.1 ∧ p.1 < 2 ^ 40) ∧ (-(2 ^ 40) < p.2 ∧ p.2 < 2 ^ 40)
def BdL (l : Ln) : Prop := BdC l.1 ∧ BdC l.2
section
variable {K : PySem.W.Frag} {H H' : Hp} {v : V}
theorem AtL.same {l : Ln} (h : AtL K H v l) (s : Same H H') : AtL K H' v l := by
  obtain ⟨a, u, w, rfl, h1, h2, h3⟩ := h
  exact ⟨a, u, w, rfl, seT s h1, h2.same s, h3.same s⟩
theorem At3.same {t : S3} (h : At3 K H v t) (s : Same H H') : At3 K H' v t := by
  obtain ⟨a, rfl, h⟩ := h
  exact ⟨a, rfl, seT s h⟩
theorem AllAt.map {α : Type} {R R' : V → α → Prop} (f : ∀ v x, R v x → R' v x) : ∀ {vs : List V} {xs : List α}, AllAt R vs xs → AllAt R' vs xs
  | _, _, .nil => .nil
  | _, _, .cons h t => .cons (f _ _ h) (AllAt.map f t)
theorem AllAt.length {α : Type} {R : V → α → Prop} : ∀ {vs : List V} {xs : List α}, AllAt R vs xs → vs.length = xs.length
  | _, _, .nil => rfl
  | _, _, .cons _ t => by rw [List.length_cons, List.length_cons, t.length]
theorem AllAt.get {α : Type} {R : V → α → Prop} : ∀ {vs : List V} {xs : List α} {i : Nat} {v : V}, AllAt R vs xs → vs[i]? = some v → ∃ x, xs[i]? = some x ∧ R v x
  | _, _, 0, v, .cons h t, e => by cases e; exact ⟨_, rfl, h⟩
  | _, _, i + 1, v, .cons h t, e => AllAt.get t (i := i) e
theorem AllAt.app {α : Type} {R : V → α → Prop} : ∀ {vs ws : List V} {xs ys : List α}, AllAt R vs xs → AllAt R ws ys → AllAt R (vs ++ ws) (xs ++ ys)
  | _, _, _, _, .nil, h => h
  | _, _, _, _, .cons a t, h => .cons a (AllAt.app t h)
theorem AtS.same {ss : List S3} (h : AtS K H v ss) (s : Same H H') : AtS K H' v ss := by
  obtain ⟨a, vs, rfl, h1, h2⟩ := h
  exact ⟨a, vs, rfl, seT s h1, h2.map fun _ _ z => z.same s⟩
theorem AtP.same {ps : List Pt} (h : AtP K H v ps) (s : Same H H') : AtP K H' v ps := by
  obtain ⟨a, vs, rfl, h1, h2⟩ := h
  exact ⟨a, vs, rfl, seT s h1, h2.map fun _ _ z => z.same s⟩
def d3 (s : S3) : PyData := .tuple [.int s.1, .int s.2.1, .int s.2.2]
theorem AtS.dp {ss : List S3} (h : AtS K H v ss) : Dp K H v (.tuple (ss.map d3)) := by
  obtain ⟨a, vs, rfl, h1, h2⟩ := h
  refine .tup h1 ?_
  clear h1
  induction h2 with
  | nil => exact .nil
  | cons h t ih =>
    obtain ⟨b, rfl, h⟩ := h
    exact .cons (.tup h (.cons (.int _) (.cons (.int _) (.cons (.int _) .nil)))) ih
theorem AtL.rev {l : Ln} {a : Addr} {xs : List V} (h : AtL K H (.ref a) l) (h2 : SqT K H a xs) : True := trivial
end
theorem bd_less {p q : Pt} (h1 : BdC p) (h2 : BdC q) : BdP (less p q) := by
  unfold BdP BdC less at *
  simp only at *
  omega
theorem BdL.rev {l : Ln} (h : BdL l) : BdL (rev l) := ⟨h.2, h.1⟩
/-! ### promises of the program's defs -/
def spStep (K : PySem.W.Frag) : Sp := fun vs H Q _ => ∃ v l, vs = [v] ∧ AtL K H v l ∧ ∀ w H', Same H H' → At2 K H' w (less l.2 l.1) → Q w H'
def spTurn (K : PySem.W.Frag) : Sp := fun vs H Q _ => ∃ u v p q, vs = [u, v] ∧ At2 K H u p ∧ At2 K H v q ∧ BdP p ∧ Q (.int (trn p q)) H
def spSide (K : PySem.W.Frag) : Sp := fun vs H Q _ => ∃ u v l p, vs = [u, v] ∧ AtL K H u l ∧ At2 K H v p ∧ BdL l ∧ ∀ H', Same H H' → Q (.int (trn (less l.2 l.1) (less p l.1))) H'
def spSpotAt (K : PySem.W.Frag) : Sp := fun vs H Q _ => ∃ v l k m, vs = [v, .int k, .int m] ∧ AtL K H v l ∧ BdL l ∧ m ≠ 0 ∧ m.natAbs < 2 ^ 200 ∧
  ∀ w H', Same H H' → At3 K H' w (sp3 (m * l.1.1 + k * (l.2.1 - l.1.1)) (m * l.1.2 + k * (l.2.2 - l.1.2)) m) → Q w H'
def spTwo (K : PySem.W.Frag) (f : Ln → Ln → List S3) (C : Ln → Ln → Prop) : Sp := fun vs H Q _ => ∃ u v l r, vs = [u, v] ∧ AtL K H u l ∧ AtL K H v r ∧ BdL l ∧ BdL r ∧ C l r ∧
  ∀ w H', Same H H' → AtS K H' w (f l r) → Q w H'
theorem trn_lt {p q : Pt} (hp : BdP p) (hq : BdP q) : (trn p q).natAbs < 2 ^ 122 := by
  unfold BdP at *
  unfold trn
  have b : ∀ a b : Int, -(2 ^ 60) < a → a < 2 ^ 60 → -(2 ^ 60) < b → b < 2 ^ 60 → (a * b).natAbs < 2 ^ 120 := fun a b h1 h2 h3 h4 => wide_lt (a := 60) (b := 60) (by omega) (by omega)
  have b1 := b p.1 q.2 (by omega) (by omega) (by omega) (by omega)
  have b2 := b p.2 q.1 (by omega) (by omega) (by omega) (by omega)
  omega

section
variable {K : PySem.W.Frag} {H H' : Hp} {v : V} {d l : Addr}
theorem stT {a : Addr} {xs : List V} (S : Step d l H H') (D : Deck H d l) (h : SqT K H a xs) : SqT K H' a xs := by
  obtain ⟨ns, s, c, h1, h2, h3⟩ := D.ex
  rcases h with (h | ⟨o, h⟩) | h
  · exact .inl (.inl (S.tupH D h))
  · exact .inl (.inr ⟨o, S.at (ne_of h h1 (by intro z; cases z)) (ne_of h h2 (by intro z; cases z)) h⟩)
  · exact .inr h
theorem At2.step {p : Pt} (h : At2 K H v p) (S : Step d l H H') (D : Deck H d l) : At2 K H' v p := by
  obtain ⟨a, rfl, h⟩ := h
  exact ⟨a, rfl, stT S D h⟩
theorem AtL.step {r : Ln} (h : AtL K H v r) (S : Step d l H H') (D : Deck H d l) : AtL K H' v r := by
  obtain ⟨a, u, w, rfl, h1, h2, h3⟩ := h
  exact ⟨a, u, w, rfl, stT S D h1, h2.step S D, h3.step S D⟩
end
def BdN (B : Int) (p : Pt) : Prop := (-B ≤ p.1 ∧ p.1 ≤ B) ∧ (-B ≤ p.2 ∧ p.2 ≤ B)
def spUnlike (K : PySem.W.Frag) : Sp := fun vs H Q _ => ∃ u v p q, vs = [u, v] ∧ At2 K H u p ∧ At2 K H v q ∧
  ∀ w H' l, Same H H' → AtL K H' w l → l.1 = p → l.1 ≠ l.2 → (l.2 = q ∨ l.2 = (p.1 + 1, p.2)) → Q w H'
def spLess (K : PySem.W.Frag) : Sp := fun vs H Q _ => ∃ u v p q, vs = [u, v] ∧ At2 K H u p ∧ At2 K H v q ∧ ∀ w H', Same H H' → At2 K H' w (less p q) → Q w H'
def spLowest (K : PySem.W.Frag) : Sp := fun vs H Q _ => ∃ n m d : Int, vs = [.int n, .int m, .int d] ∧ 0 < d ∧ d.natAbs < 2 ^ 200 ∧ ∀ w H', Same H H' → At3 K H' w (sp3 n m d) → Q w H'
def spRight (K : PySem.W.Frag) : Sp := fun vs H Q _ => ∃ u v l r, vs = [u, v] ∧ AtL K H u l ∧ AtL K H v r ∧ BdL l ∧ BdL r ∧ l.1 ≠ l.2 ∧ r.1 ≠ r.2 ∧ ∀ H', Same H H' → Q (.bl true) H'
theorem gcd_fmod (a b : Int) (h : b ≠ 0) : Int.gcd b (a.fmod b) = Int.gcd a b := by
  have e : a.fmod b = a - b * a.fdiv b := Int.fmod_def a b
  rw [e, Int.gcd_comm a b, Int.sub_eq_add_neg, ← Int.mul_neg, Int.gcd_add_mul_left_right]
theorem fmod_small (a b : Int) (h : b ≠ 0) : (a.fmod b).natAbs < b.natAbs := by
  rcases Int.lt_or_gt_of_ne h with hb | hb
  · have e1 : (-a).fmod (-b) = -(a.fmod b) := Int.neg_fmod_neg ..
    have h1 := Int.fmod_nonneg_of_pos (-a) (show 0 < -b by omega)
    have h2 := Int.fmod_lt_of_pos (-a) (show 0 < -b by omega)
    omega
  · have h1 := Int.fmod_nonneg_of_pos a hb
    have h2 := Int.fmod_lt_of_pos a hb
    omega

/-! ### what a comprehension picks of two points -/
structure Sel (K : PySem.W.Frag) (H0 : Hp) (pts : List Pt) (r : Ln) (i : Nat) (ks : List (Addr × List Int)) : Prop where
  tup : ∀ q ∈ ks, SqT K H0 q.1 (q.2.map V.int) ∧ q.2.length = 2
  len : ks.length ≤ i
  mem : ∀ x, (∃ q ∈ ks, pr q = x) ↔ ∃ j, j < i ∧ pts[j]? = some x ∧ within x r
section
variable {K : PySem.W.Frag} {H0 : Hp} {pts : List Pt} {r : Ln} {i : Nat} {ks : List (Addr × List Int)} {pt : Pt} {c : Addr}
theorem Sel.nil : Sel K H0 pts r 0 [] := ⟨fun q h => (nomatch h), Nat.le_refl _, fun x => ⟨fun ⟨q, h, _⟩ => (nomatch h), fun ⟨j, h, _⟩ => absurd h (Nat.not_lt_zero _)⟩⟩
theorem Sel.keep (S : Sel K H0 pts r i ks) (h : pts[i]? = some pt) (w : within pt r) (hc : SqT K H0 c [.int pt.1, .int pt.2]) :
    Sel K H0 pts r (i + 1) (ks ++ [(c, [pt.1, pt.2])]) := by
  refine ⟨fun q hq => ?_, by rw [List.length_append]; exact Nat.add_le_add_right S.len 1, fun x => ⟨?_, ?_⟩⟩
  · rcases List.mem_append.mp hq with z | z
    · exact S.tup q z
    · rw [List.mem_singleton.mp z]; exact ⟨hc, rfl⟩
  · rintro ⟨q, hq, e⟩
    rcases List.mem_append.mp hq with z | z
    · obtain ⟨j, a, b⟩ := (S.mem x).mp ⟨q, z, e⟩
      exact ⟨j, by omega, b⟩
    · rw [List.mem_singleton.mp z] at e
      subst e
      exact ⟨i, by omega, h, w⟩
  · rintro ⟨j, hj, a, b⟩
    by_cases e : j = i
    · subst e
      rw [h] at a
      cases a
      exact ⟨_, List.mem_append.mpr (.inr (List.mem_singleton.mpr rfl)), rfl⟩
    · obtain ⟨q, z, e2⟩ := (S.mem x).mpr ⟨j, by omega, a, b⟩
      exact ⟨q, List.mem_append.mpr (.inl z), e2⟩
theorem Sel.drop (S : Sel K H0 pts r i ks) (h : pts[i]? = some pt) (w : ¬ within pt r) : Sel K H0 pts r (i + 1) ks := by
  refine ⟨S.tup, Nat.le_succ_of_le S.len, fun x => ⟨fun z => ?_, ?_⟩⟩
  · obtain ⟨j, a, b⟩ := (S.mem x).mp z
    exact ⟨j, by omega, b⟩
  · rintro ⟨j, hj, a, b⟩
    by_cases e : j = i
    · subst e
      rw [h] at a
      cases a
      exact absurd b w
    · exact (S.mem x).mpr ⟨j, by omega, a, b⟩
theorem Sel.two {p q : Pt} (S : Sel K H0 [p, q] r 2 ks) (x : Pt) : (∃ q ∈ ks, pr q = x) ↔ (x = p ∨ x = q) ∧ within x r := by
  rw [S.mem x]
  constructor
  · rintro ⟨j, hj, a, b⟩
    match j, hj, a with
    | 0, _, a => cases a; exact ⟨.inl rfl, b⟩
    | 1, _, a => cases a; exact ⟨.inr rfl, b⟩
  · rintro ⟨a | a, b⟩
    · exact ⟨0, by omega, by rw [a]; rfl, b⟩
    · exact ⟨1, by omega, by rw [a]; rfl, b⟩
end
theorem pr_ints {q : Addr × List Int} (h : q.2.length = 2) : q.2.map V.int = [.int (pr q).1, .int (pr q).2] := by
  rw [pr_of h]
  rfl
theorem nodup_pr {L : List (Addr × List Int)} (h : ∀ q ∈ L, q.2.length = 2) (nd : (L.map (·.2)).Nodup) : (L.map pr).Nodup := by
  have e : ∀ l : List (Addr × List Int), (∀ q ∈ l, q.2.length = 2) → l.map (·.2) = (l.map pr).map fun p : Pt => [p.1, p.2] := by
    intro l
    induction l with
    | nil => intro _; rfl
    | cons q l ih =>
      intro h
      rw [List.map_cons, List.map_cons, List.map_cons, ih fun r hr => h r (List.mem_cons_of_mem _ hr), pr_of (h q List.mem_cons_self)]
  rw [e L h] at nd
  exact List.Pairwise.of_map _ (fun _ _ hne z => hne (by rw [z])) nd
theorem cut_first (xs : List V) : cutV xs none (some 1) = xs.take 1 := by
  unfold cutV
  rw [HT.sIx_none, show HT.sIx xs.length xs.length (some 1) = min 1 xs.length from HT.sIx_nat _ _ 1, List.drop_zero, Nat.sub_zero]
  cases xs with
  | nil => rfl
  | cons x r => rw [List.length_cons, Nat.min_eq_left (by omega)]
theorem cut_rest (xs : List V) : cutV xs (some 1) none = xs.drop 1 := by
  unfold cutV
  rw [HT.sIx_none, show HT.sIx xs.length 0 (some 1) = min 1 xs.length from HT.sIx_nat _ _ 1]
  cases xs with
  | nil => rfl
  | cons x r =>
    rw [List.length_cons, Nat.min_eq_left (by omega)]
    show List.take (r.length + 1 - 1) r = r
    rw [Nat.add_sub_cancel, List.take_length]
theorem cut_last (xs : List V) : cutV xs (some (-1)) none = xs.drop (xs.length - 1) := by
  unfold cutV
  have e : HT.sIx xs.length 0 (some (-1)) = xs.length - 1 := by
    show (if (-1 : Int) < 0 then ((-1 : Int) + (xs.length : Int)).toNat else min (-1 : Int).toNat xs.length) = _
    rw [if_pos (by decide)]
    omega
  rw [HT.sIx_none, e]
  exact List.take_of_length_le (by rw [List.length_drop]; omega)

/-! ### the same rules within a comprehension, the written part named -/
section
variable {X : Cx} {K : PySem.W.Frag}
theorem op_le2k (hK : X.K = K) (hu : X.A.units + 64 < cLine) : OpR X (compareOp .LtE) (rCmp2 K fun p q => !llt q p) := hK ▸ op_le2 hu
theorem op_gt2k (hK : X.K = K) (hu : X.A.units + 64 < cLine) : OpR X (compareOp .Gt) (rCmp2 K fun p q => llt q p) := hK ▸ op_gt2 hu
theorem cr_min1k (hK : X.K = K) (hc : X.calm = true) (hu : X.A.units + 64 < cLine) : CallR X (.builtin "min") (rBest1 K mn) := hK ▸ cr_min1 hc hu
theorem cr_max1k (hK : X.K = K) (hc : X.calm = true) (hu : X.A.units + 64 < cLine) : CallR X (.builtin "max") (rBest1 K mx) := hK ▸ cr_max1 hc hu
theorem op_catTNk (hK : X.K = K) : OpR X (binaryOp .Add) (rCatTN K) := hK ▸ op_catTN
theorem ix_tupk (hK : X.K = K) : IxR X (rIxT K) := hK ▸ ix_tup
theorem ix_listk (hK : X.K = K) : IxR X (rIxL K) := hK ▸ ix_list
theorem op_neDk (hK : X.K = K) (hu : X.A.units + 64 < cLine) : OpR X (compareOp .NotEq) (rNeD K) := hK ▸ op_neD hu
theorem op_eqDk (hK : X.K = K) (hu : X.A.units + 64 < cLine) : OpR X (compareOp .Eq) (rEqD K) := hK ▸ op_eqD hu
end

theorem acc3 {K : PySem.W.Frag} {H5 H' H7 : Hp} {pD p7 : Addr} {ws : List V} {ss : List S3} {t : S3} (nD : H5 pD = none) (t1 : Same H5 H') (e : H' pD = some (.lst ws))
    (all : AllAt (At3 K H') ws ss) (s7 : Same H' H7) (n7 : H' p7 = none) (g7 : H7 p7 = some (.tup [.int t.1, .int t.2.1, .int t.2.2])) (len : ss.length ≤ 900) :
    ∃ acc, H7 pD = some (.lst acc) ∧ acc.length < sizeLine ∧ (Same H5 (upd H7 pD (.lst (acc ++ [.ref p7]))) ∧
      ∃ ws', (upd H7 pD (.lst (acc ++ [.ref p7]))) pD = some (.lst ws') ∧ AllAt (At3 K (upd H7 pD (.lst (acc ++ [.ref p7])))) ws' (ss ++ [t])) := by
  have npD : pD ≠ p7 := ne_of_none e n7
  have k7 := s7 _ _ e
  have lw := all.length
  have sT : ∀ {o : HO} {b : Addr} {xs : List V}, SqT K H7 b xs → SqT K (upd H7 pD o) b xs := fun {o b xs} z => by
    rcases z with (z | ⟨oo, z⟩) | z
    · exact .inl (.inl (by rw [upd_ne (ne_of z k7 (by intro z; cases z))]; exact z))
    · exact .inl (.inr ⟨oo, by rw [upd_ne (ne_of z k7 (by intro z; cases z))]; exact z⟩)
    · exact .inr z
  refine ⟨ws, k7, small1000 (by omega), fun b o z => ?_, ws ++ [.ref p7], upd_same, ?_⟩
  · rw [upd_ne (ne_of_none z nD)]
    exact (t1.trans s7) _ _ z
  · refine AllAt.app (all.map fun v s h => ?_) (.cons ⟨p7, rfl, .inl (.inl ?_)⟩ .nil)
    · obtain ⟨b, rfl, h9⟩ := h.same s7
      exact ⟨b, rfl, sT h9⟩
    · rw [upd_ne npD.symm]
      exact g7
end Cl

namespace Cl
open PySem PySem.Spec PyProof.Rows L2
/-! ### what two lines have in common is shown shortly -/
def ok3 (s : S3) : Prop := okI s.1 ∧ okI s.2.1 ∧ okI s.2.2
theorem okI.sh {i : Int} (h : okI i) : i.natAbs.log2 < 1920 := by have := h.log; omega
theorem fine3 : ∀ {ss : List S3}, ss.length ≤ 2 → (∀ s ∈ ss, ok3 s) → Fine (.tuple (ss.map d3))
  | [], _, _ => by constructor <;> decide
  | [a], _, h => by
    obtain ⟨h1, h2, h3⟩ := h a (by simp)
    have a1 := h1.len
    have a2 := h2.len
    have a3 := h3.len
    have b1 := h1.sh
    have b2 := h2.sh
    have b3 := h3.sh
    constructor
    · simp [d3, PyData.leavesShort, PyData.leavesShortAll, a1, a2, a3]
    · simp [d3, PyData.showable, PyData.showableAll, b1, b2, b3]
    · rfl
    · simp [d3, PyData.depth, PyData.depthAll]
    · simp [d3, PyData.bulk, PyData.bulkAll]
  | [a, b], _, h => by
    obtain ⟨h1, h2, h3⟩ := h a (by simp)
    obtain ⟨g1, g2, g3⟩ := h b (by simp)
    have a1 := h1.len
    have a2 := h2.len
    have a3 := h3.len
    have b1 := h1.sh
    have b2 := h2.sh
    have b3 := h3.sh
    have c1 := g1.len
    have c2 := g2.len
    have c3 := g3.len
    have e1 := g1.sh
    have e2 := g2.sh
    have e3 := g3.sh
    constructor
    · simp [d3, PyData.leavesShort, PyData.leavesShortAll, a1, a2, a3, c1, c2, c3]
    · simp [d3, PyData.showable, PyData.showableAll, b1, b2, b3, e1, e2, e3]
    · rfl
    · simp [d3, PyData.depth, PyData.depthAll]
    · simp [d3, PyData.bulk, PyData.bulkAll]
theorem BdC.or {p q r : Pt} (hp : BdC p) (hq : BdC q) (h : r = p ∨ r = q) : BdC r := by rcases h with rfl | rfl <;> assumption
theorem ok_one3 {p : Pt} (h : BdC p) : ok3 (one3 p) := by
  unfold BdC at h
  exact ⟨okI.of (show -(2 ^ 189) < p.1 by omega) (show p.1 < 2 ^ 189 by omega), okI.of (show -(2 ^ 189) < p.2 by omega) (show p.2 < 2 ^ 189 by omega), okI.of (show -(2 ^ 189) < (1 : Int) by omega) (show (1 : Int) < 2 ^ 189 by omega)⟩
theorem okI_div {n p : Int} (h : n.natAbs < 2 ^ 190) : okI (n / p) := Nat.lt_of_le_of_lt (Int.natAbs_ediv_le_natAbs n p) h
theorem fine_cmn {l r : Ln} (bl : BdL l) (br : BdL r) : Fine (.tuple ((cmn l r).map d3)) := by
  have b1 := bd_less bl.2 bl.1
  have b2 := bd_less br.2 br.1
  have b3 := bd_less br.1 bl.1
  have t1 := trn_lt b1 b2
  have t2 := trn_lt b3 b2
  have kM : (klm l r).2.2.natAbs < 2 ^ 122 := by
    show (trn (less l.2 l.1) (less r.2 r.1) * kfs l r).natAbs < 2 ^ 122
    unfold kfs
    split <;> omega
  have kN : (klm l r).1.natAbs < 2 ^ 122 := by
    show (trn (less r.1 l.1) (less r.2 r.1) * kfs l r).natAbs < 2 ^ 122
    unfold kfs
    split <;> omega
  have hlo : BdC (lo l r) := by
    obtain ⟨c, _⟩ := mx_or (mn l.1 l.2) (mn r.1 r.2)
    exact BdC.or (BdC.or bl.1 bl.2 (mn_or l.1 l.2).1) (BdC.or br.1 br.2 (mn_or r.1 r.2).1) c
  have hhi : BdC (hi l r) := by
    obtain ⟨c, _⟩ := mn_or (mx l.1 l.2) (mx r.1 r.2)
    exact BdC.or (BdC.or bl.1 bl.2 (mx_or l.1 l.2).1) (BdC.or br.1 br.2 (mx_or r.1 r.2).1) c
  unfold cmn
  split
  · unfold acr
    simp only
    split
    · refine fine3 (by simp) fun s hs => ?_
      rw [List.mem_singleton.mp hs]
      obtain ⟨⟨x1, x2⟩, x3, x4⟩ := bl.1
      unfold BdP less at b1
      obtain ⟨⟨y1, y2⟩, y3, y4⟩ := b1
      simp only at y1 y2 y3 y4
      have m1 := wide_lt (i := (klm l r).2.2) (j := l.1.1) (a := 122) (b := 40) kM (by omega)
      have m2 := wide_lt (i := (klm l r).2.2) (j := l.1.2) (a := 122) (b := 40) kM (by omega)
      have m3 := wide_lt (i := (klm l r).1) (j := l.2.1 - l.1.1) (a := 122) (b := 60) kN (by omega)
      have m4 := wide_lt (i := (klm l r).1) (j := l.2.2 - l.1.2) (a := 122) (b := 60) kN (by omega)
      exact ⟨okI_div (by omega), okI_div (by omega), okI_div (by omega)⟩
    · exact fine3 (by simp) fun s hs => nomatch hs
  · split
    · exact fine3 (by simp) fun s hs => nomatch hs
    · unfold alo
      split
      · exact fine3 (by simp) fun s hs => nomatch hs
      · split
        · refine fine3 (by simp) fun s hs => ?_
          rw [List.mem_singleton.mp hs]
          exact ok_one3 hlo
        · refine fine3 (by simp) fun s hs => ?_
          rcases List.mem_cons.mp hs with rfl | hs
          · exact ok_one3 hlo
          · rw [List.mem_singleton.mp hs]
            exact ok_one3 hhi

/-! ### a list that is written to: tuples and the deck stay -/
section
variable {K : PySem.W.Frag} {H : Hp} {M d l : Addr} {xs : List V} {o : HO} {v : V}
theorem updT {b : Addr} {ys : List V} (e : H M = some (.lst xs)) (h : SqT K H b ys) : SqT K (upd H M o) b ys := by
  rcases h with (z | ⟨oo, z⟩) | z
  · exact .inl (.inl (by rw [upd_ne (ne_of z e (by intro z; cases z))]; exact z))
  · exact .inl (.inr ⟨oo, by rw [upd_ne (ne_of z e (by intro z; cases z))]; exact z⟩)
  · exact .inr z
theorem At2.upd {p : Pt} (h : At2 K H v p) (e : H M = some (.lst xs)) : At2 K (upd H M o) v p := by
  obtain ⟨a, rfl, h⟩ := h
  exact ⟨a, rfl, updT e h⟩
theorem AtL.upd {r : Ln} (h : AtL K H v r) (e : H M = some (.lst xs)) : AtL K (L2.upd H M o) v r := by
  obtain ⟨a, u, w, rfl, h1, h2, h3⟩ := h
  exact ⟨a, u, w, rfl, updT e h1, At2.upd h2 e, At2.upd h3 e⟩
theorem Deck.upd (D : Deck H d l) (h1 : M ≠ d) (h2 : M ≠ l) : Deck (L2.upd H M o) d l := by
  obtain ⟨ns, s, c, e1, e2, e3⟩ := D.ex
  exact ⟨D.ne, ns, s, c, by rw [upd_ne h1.symm]; exact e1, by rw [upd_ne h2.symm]; exact e2, e3⟩
end
/-! ### lines drawn -/
def GoodLn (B : Int) (r : Ln) : Prop := BdN B r.1 ∧ BdN B r.2 ∧ r.1 ≠ r.2
def spPoint (K : PySem.W.Frag) : Sp := fun vs H Q _ => ∃ (d l : Addr) (g : Int), vs = [.ref d, .int g] ∧ 0 < g ∧ g ≤ 10 ∧ Deck H d l ∧
  ∀ w H' p, Step d l H H' → At2 K H' w p → BdN 100 p → Q w H'
def spBeside (K : PySem.W.Frag) : Sp := fun vs H Q _ => ∃ (d l : Addr) (v u w : V) (r : Ln) (p q : Pt), vs = [.ref d, v, u, w] ∧ Deck H d l ∧ AtL K H v r ∧ GoodLn 200 r ∧
  At2 K H u p ∧ BdN 100 p ∧ At2 K H w q ∧ BdN 100 q ∧ ∀ w H' r', Step d l H H' → AtL K H' w r' → GoodLn 3000 r' → Q w H'
def spLine (K : PySem.W.Frag) : Sp := fun vs H Q _ => ∃ (d l : Addr) (g : Int) (L : Addr) (ws : List V) (ls : List Ln), vs = [.ref d, .int g, .ref L] ∧ 0 < g ∧ g ≤ 10 ∧ Deck H d l ∧
  L ≠ d ∧ L ≠ l ∧ H L = some (.lst ws) ∧ AllAt (AtL K H) ws ls ∧ ls.length ≤ 10 ∧ (∀ r ∈ ls, GoodLn 3000 r) ∧
  ∀ w H' r', Step d l H H' → AtL K H' w r' → GoodLn 3000 r' → Q w H'
def AtT (K : PySem.W.Frag) (H : Hp) (v : V) (ls : List Ln) : Prop := ∃ a vs, v = .ref a ∧ SqT K H a vs ∧ AllAt (AtL K H) vs ls
def spLines (K : PySem.W.Frag) (n : Nat) : Sp := fun vs H Q _ => ∃ (d l : Addr) (g : Int), vs = [.ref d, .int g, .int n] ∧ 0 < g ∧ g ≤ 10 ∧ Deck H d l ∧
  ∀ w H' ls, Step d l H H' → AtT K H' w ls → ls.length = n → (∀ r ∈ ls, BdL r ∧ r.1 ≠ r.2) → Q w H'
def dl (r : Ln) : PyData := .tuple [pd r.1, pd r.2]
theorem AtL.dp {K : PySem.W.Frag} {H : Hp} {v : V} {r : Ln} (h : AtL K H v r) : Dp K H v (dl r) := by
  obtain ⟨a, u, w, rfl, h1, h2, h3⟩ := h
  exact .tup h1 (.cons h2.dp (.cons h3.dp .nil))
theorem lines_dp {K : PySem.W.Frag} {H : Hp} : ∀ {ws : List V} {ls : List Ln}, AllAt (AtL K H) ws ls → DpAll K H ws (ls.map dl)
  | _, _, .nil => .nil
  | _, _, .cons h t => .cons h.dp (lines_dp t)
theorem shapedLines (ls : List Ln) : SeqAt.shaped (.list (ls.map dl)) = true := by
  have h1 : ∀ ls : List Ln, PyData.canLayAll0 (ls.map dl) = true := by
    intro ls
    induction ls with
    | nil => rfl
    | cons n r ih => simp [PyData.canLayAll0, PyData.canLay0, dl, pd, ih]
  have h2 : ∀ ls : List Ln, PyData.depthAll (ls.map dl) ≤ 2 := by
    intro ls
    induction ls with
    | nil => decide
    | cons n r ih =>
      simp only [List.map_cons, PyData.depthAll]
      have : (dl n).depth = 2 := by simp [dl, pd, PyData.depth, PyData.depthAll]
      omega
  have h3 := h2 ls
  simp [SeqAt.shaped, PyData.canLay0, PyData.depth, h1]
  omega
theorem eqvNilL (ls : List Ln) : PyData.eqv (.list (ls.map dl)) (.list []) = ls.isEmpty := by
  cases ls <;> simp [PyData.eqv, PyData.eqvAll]
theorem AllAt.three {α : Type} {R : V → α → Prop} {vs : List V} {xs : List α} (h : AllAt R vs xs) (l : xs.length = 3) :
    ∃ v0 v1 v2 x0 x1 x2, vs = [v0, v1, v2] ∧ xs = [x0, x1, x2] ∧ R v0 x0 ∧ R v1 x1 ∧ R v2 x2 := by
  cases h with
  | nil => cases l
  | cons h0 h =>
    cases h with
    | nil => cases l
    | cons h1 h =>
      cases h with
      | nil => cases l
      | cons h2 h =>
        cases h with
        | nil => exact ⟨_, _, _, _, _, _, rfl, rfl, h0, h1, h2⟩
        | cons _ _ => simp at l
end Cl

namespace Cl
open PySem PySem.Spec PyProof.Rows L2
/-! ### what part of a line lies in a cell -/
abbrev Sh := Int × Int
def later (a b : Sh) : Sh := if a.1 * b.2 < b.1 * a.2 then b else a
def soon (a b : Sh) : Sh := if b.1 * a.2 < a.1 * b.2 then b else a
theorem frac_le {a b c d e f : Int} (h1 : a * d ≤ c * b) (h2 : c * f ≤ e * d) (hb : 0 < b) (hd : 0 < d) (hf : 0 < f) : a * f ≤ e * b := by
  refine Int.le_of_mul_le_mul_right (a := d) ?_ hd
  have k1 := Int.mul_le_mul_of_nonneg_right h1 (Int.le_of_lt hf)
  have k2 := Int.mul_le_mul_of_nonneg_right h2 (Int.le_of_lt hb)
  grind
theorem later_le {a b : Sh} {p q : Int} (ha : 0 < a.2) (hb : 0 < b.2) (hq : 0 < q) :
    ((later a b).1 * q ≤ p * (later a b).2) ↔ (a.1 * q ≤ p * a.2 ∧ b.1 * q ≤ p * b.2) := by
  unfold later
  split
  · rename_i h
    exact ⟨fun z => ⟨frac_le (Int.le_of_lt h) z ha hb hq, z⟩, fun z => z.2⟩
  · rename_i h
    exact ⟨fun z => ⟨z, frac_le (Int.not_lt.mp h) z hb ha hq⟩, fun z => z.1⟩
theorem soon_le {a b : Sh} {p q : Int} (ha : 0 < a.2) (hb : 0 < b.2) (hq : 0 < q) :
    (p * (soon a b).2 ≤ (soon a b).1 * q) ↔ (p * a.2 ≤ a.1 * q ∧ p * b.2 ≤ b.1 * q) := by
  unfold soon
  split
  · rename_i h
    exact ⟨fun z => ⟨frac_le z (Int.le_of_lt h) hq hb ha, z⟩, fun z => z.2⟩
  · rename_i h
    exact ⟨fun z => ⟨z, frac_le z (Int.not_lt.mp h) hq ha hb⟩, fun z => z.1⟩
theorem later_pos {a b : Sh} (ha : 0 < a.2) (hb : 0 < b.2) : 0 < (later a b).2 := by unfold later; split <;> assumption
theorem soon_pos {a b : Sh} (ha : 0 < a.2) (hb : 0 < b.2) : 0 < (soon a b).2 := by unfold soon; split <;> assumption
/-- the point at the share p of q lies in the cell's row or column, the greater side not with it -/
def HO1 (g start step num p q : Int) : Prop := (2 * num - 1) * g * q ≤ 2 * (start * q + step * p) ∧ 2 * (start * q + step * p) < (2 * num + 1) * g * q
def CL1 (g start step num p q : Int) : Prop := (2 * num - 1) * g * q ≤ 2 * (start * q + step * p) ∧ 2 * (start * q + step * p) ≤ (2 * num + 1) * g * q
def inc (f l : Sh) (step near far : Int) : Option (Sh × Sh) :=
  if step = 0 then (if near > 0 ∨ far < 0 then none else some (f, l))
  else if step < 0 then some (later f (-far, 2 * -step), soon l (-near, 2 * -step)) else some (later f (near, 2 * step), soon l (far, 2 * step))
theorem cl1_iff (g start step num p q : Int) : CL1 g start step num p q ↔ (((2 * num - 1) * g - 2 * start) * q ≤ 2 * step * p ∧ 2 * step * p ≤ ((2 * num + 1) * g - 2 * start) * q) := by
  unfold CL1
  constructor <;> intro h <;> constructor <;> grind
theorem inc_none {g start step num : Int} {f l : Sh} (h : inc f l step ((2 * num - 1) * g - 2 * start) ((2 * num + 1) * g - 2 * start) = none) {p q : Int} (hq : 0 < q) : ¬ CL1 g start step num p q := by
  unfold inc at h
  split at h
  · rename_i hs
    split at h
    · rename_i hz
      rw [cl1_iff, hs]
      intro ⟨k1, k2⟩
      rcases hz with z | z
      · have := Int.mul_pos z hq
        omega
      · have := Int.mul_pos (show 0 < -((2 * num + 1) * g - 2 * start) by omega) hq
        rw [Int.neg_mul] at this
        omega
    · cases h
  · split at h <;> cases h
theorem inc_some {g start step num : Int} {f l f' l' : Sh} (hf : 0 < f.2) (hl : 0 < l.2) (h : inc f l step ((2 * num - 1) * g - 2 * start) ((2 * num + 1) * g - 2 * start) = some (f', l')) :
    0 < f'.2 ∧ 0 < l'.2 ∧ ∀ p q : Int, 0 < q → ((f.1 * q ≤ p * f.2 ∧ p * l.2 ≤ l.1 * q ∧ CL1 g start step num p q) ↔ (f'.1 * q ≤ p * f'.2 ∧ p * l'.2 ≤ l'.1 * q)) := by
  unfold inc at h
  split at h
  · rename_i hs
    split at h
    · cases h
    · rename_i hz
      cases h
      refine ⟨hf, hl, fun p q hq => ⟨fun z => ⟨z.1, z.2.1⟩, fun z => ⟨z.1, z.2, ?_⟩⟩⟩
      rw [cl1_iff, hs]
      have h1 : ((2 * num - 1) * g - 2 * start) ≤ 0 := by omega
      have h2 : 0 ≤ ((2 * num + 1) * g - 2 * start) := by omega
      have := Int.mul_le_mul_of_nonneg_right h1 (Int.le_of_lt hq)
      have := Int.mul_nonneg h2 (Int.le_of_lt hq)
      omega
  · rename_i hs
    split at h
    · rename_i hz
      cases h
      have h2 : (0 : Int) < 2 * -step := by omega
      refine ⟨later_pos hf h2, soon_pos hl h2, fun p q hq => ?_⟩
      rw [later_le hf h2 hq, soon_le hl h2 hq, cl1_iff]
      simp only
      constructor
      · intro ⟨a, b, c, d⟩
        refine ⟨⟨a, ?_⟩, b, ?_⟩ <;> grind
      · intro ⟨⟨a, c⟩, b, d⟩
        refine ⟨a, b, ?_, ?_⟩ <;> grind
    · rename_i hz
      cases h
      have h2 : (0 : Int) < 2 * step := by omega
      refine ⟨later_pos hf h2, soon_pos hl h2, fun p q hq => ?_⟩
      rw [later_le hf h2 hq, soon_le hl h2 hq, cl1_iff]
      simp only
      constructor
      · intro ⟨a, b, c, d⟩
        refine ⟨⟨a, ?_⟩, b, ?_⟩ <;> grind
      · intro ⟨⟨a, c⟩, b, d⟩
        refine ⟨a, b, ?_, ?_⟩ <;> grind
def HOc (g : Int) (r : Ln) (c : Pt) (p q : Int) : Prop := HO1 g r.1.1 (r.2.1 - r.1.1) c.1 p q ∧ HO1 g r.1.2 (r.2.2 - r.1.2) c.2 p q
def Meets (g : Int) (r : Ln) (c : Pt) : Prop := ∃ p q : Int, 0 < q ∧ 0 ≤ p ∧ p ≤ q ∧ HOc g r c p q
def rimL (g n : Int) : Int := (2 * n - 1) * g
def rimH (g n : Int) : Int := (2 * n + 1) * g
def sharesW (g : Int) (r : Ln) (c : Pt) : Option (Sh × Sh) :=
  match inc (0, 1) (1, 1) (r.2.1 - r.1.1) (rimL g c.1 - 2 * r.1.1) (rimH g c.1 - 2 * r.1.1) with
  | none => none
  | some (f, l) => match inc f l (r.2.2 - r.1.2) (rimL g c.2 - 2 * r.1.2) (rimH g c.2 - 2 * r.1.2) with
    | none => none
    | some (f, l) => if l.1 * f.2 < f.1 * l.2 then none else some (f, l)
def midP (f l : Sh) : Int := f.1 * l.2 + l.1 * f.2
def midQ (f l : Sh) : Int := 2 * f.2 * l.2
theorem sharesW_none {g : Int} {r : Ln} {c : Pt} (h : sharesW g r c = none) : ¬ Meets g r c := by
  intro ⟨p, q, hq, h0, h1, ha, hb⟩
  have ca : CL1 g r.1.1 (r.2.1 - r.1.1) c.1 p q := ⟨ha.1, Int.le_of_lt ha.2⟩
  have cb : CL1 g r.1.2 (r.2.2 - r.1.2) c.2 p q := ⟨hb.1, Int.le_of_lt hb.2⟩
  unfold sharesW rimL rimH at h
  split at h
  · exact inc_none (by assumption) hq ca
  · rename_i f l e1
    obtain ⟨f2, l2, k1⟩ := inc_some (by decide) (by decide) e1
    have k1 := (k1 p q hq).mp ⟨by simp only; omega, by simp only; omega, ca⟩
    split at h
    · exact inc_none (by assumption) hq cb
    · rename_i f' l' e2
      obtain ⟨f3, l3, k2⟩ := inc_some f2 l2 e2
      have k2 := (k2 p q hq).mp ⟨k1.1, k1.2, cb⟩
      split at h
      · rename_i z
        have := frac_le k2.1 k2.2 f3 hq l3
        omega
      · cases h
theorem sharesW_some {g : Int} {r : Ln} {c : Pt} {f l : Sh} (h : sharesW g r c = some (f, l)) :
    0 < f.2 ∧ 0 < l.2 ∧ f.1 * l.2 ≤ l.1 * f.2 ∧ ∀ p q : Int, 0 < q → ((0 ≤ p ∧ p ≤ q ∧ CL1 g r.1.1 (r.2.1 - r.1.1) c.1 p q ∧ CL1 g r.1.2 (r.2.2 - r.1.2) c.2 p q) ↔ (f.1 * q ≤ p * f.2 ∧ p * l.2 ≤ l.1 * q)) := by
  unfold sharesW rimL rimH at h
  split at h
  · cases h
  · rename_i f1 l1 e1
    obtain ⟨f2, l2, k1⟩ := inc_some (by decide) (by decide) e1
    split at h
    · cases h
    · rename_i f' l' e2
      obtain ⟨f3, l3, k2⟩ := inc_some f2 l2 e2
      split at h
      · cases h
      · rename_i z
        cases h
        refine ⟨f3, l3, by omega, fun p q hq => ⟨fun w => (k2 p q hq).mp ?_, fun w => ?_⟩⟩
        · have := (k1 p q hq).mp ⟨by simp only; omega, by simp only; omega, w.2.2.1⟩
          exact ⟨this.1, this.2, w.2.2.2⟩
        · obtain ⟨a, b, d⟩ := (k2 p q hq).mpr w
          obtain ⟨a', b', d'⟩ := (k1 p q hq).mpr ⟨a, b⟩
          simp only at a' b'
          exact ⟨by omega, by omega, d', d⟩
theorem at_end {a s p q z n F : Int} (w : 2 * (a * q + s * p) * n < F * q * n) (w2 : 2 * (a * n + s * z) * q = F * n * q) (k : s * (z * q) ≤ s * (p * n)) : False := by
  have e1 : 2 * (a * q + s * p) * n = 2 * (a * q * n) + 2 * (s * (p * n)) := by grind
  have e2 : 2 * (a * n + s * z) * q = 2 * (a * q * n) + 2 * (s * (z * q)) := by grind
  have e3 : F * n * q = F * q * n := Int.mul_right_comm ..
  omega
theorem ends_eq {a s k l m n F : Int} (e : 2 * (a * (2 * m * n) + s * (k * n + l * m)) = F * (2 * m * n)) (e1 : 2 * (a * m + s * k) * n ≤ F * m * n) (e2 : 2 * (a * n + s * l) * m ≤ F * n * m) :
    2 * (a * m + s * k) * n = F * m * n ∧ 2 * (a * n + s * l) * m = F * n * m := by
  have c1 : 2 * (a * (2 * m * n) + s * (k * n + l * m)) = 2 * (a * m + s * k) * n + 2 * (a * n + s * l) * m := by grind
  have c2 : F * (2 * m * n) = F * m * n + F * n * m := by grind
  omega
/-- the middle of the part within lies in the cell, or nothing does -/
theorem meets_mid {g : Int} {r : Ln} {c : Pt} {f l : Sh} (h : sharesW g r c = some (f, l)) : Meets g r c ↔ HOc g r c (midP f l) (midQ f l) := by
  obtain ⟨f2, l2, fl, k⟩ := sharesW_some h
  have hQ : 0 < midQ f l := Int.mul_pos (by omega) l2
  have hm : f.1 * midQ f l ≤ midP f l * f.2 ∧ midP f l * l.2 ≤ l.1 * midQ f l := by
    unfold midP midQ
    have a1 := Int.mul_le_mul_of_nonneg_right fl (Int.le_of_lt f2)
    have a2 := Int.mul_le_mul_of_nonneg_right fl (Int.le_of_lt l2)
    constructor <;> grind
  obtain ⟨m0, m1, ca, cb⟩ := (k _ _ hQ).mpr hm
  constructor
  · intro ⟨p, q, hq, h0, h1, ha, hb⟩
    have kt := (k p q hq).mp ⟨h0, h1, ⟨ha.1, Int.le_of_lt ha.2⟩, ⟨hb.1, Int.le_of_lt hb.2⟩⟩
    have kf := (k f.1 f.2 f2).mpr ⟨Int.le_refl _, fl⟩
    have kl := (k l.1 l.2 l2).mpr ⟨fl, Int.le_refl _⟩
    have one : ∀ start step num : Int, HO1 g start step num p q → CL1 g start step num f.1 f.2 → CL1 g start step num l.1 l.2 → CL1 g start step num (midP f l) (midQ f l) → HO1 g start step num (midP f l) (midQ f l) := by
      intro start step num ht hf hl hmid
      refine ⟨hmid.1, Int.lt_iff_le_and_ne.mpr ⟨hmid.2, fun e => ?_⟩⟩
      -- both ends lie at the greater side
      have e1 : 2 * (start * f.2 + step * f.1) * l.2 ≤ (2 * num + 1) * g * f.2 * l.2 := Int.mul_le_mul_of_nonneg_right hf.2 (Int.le_of_lt l2)
      have e2 : 2 * (start * l.2 + step * l.1) * f.2 ≤ (2 * num + 1) * g * l.2 * f.2 := Int.mul_le_mul_of_nonneg_right hl.2 (Int.le_of_lt f2)
      obtain ⟨s1, s2⟩ := ends_eq e e1 e2
      have t1 : 2 * (start * f.2 + step * f.1) = (2 * num + 1) * g * f.2 := Int.eq_of_mul_eq_mul_right (by omega) s1
      have t2 : 2 * (start * l.2 + step * l.1) = (2 * num + 1) * g * l.2 := Int.eq_of_mul_eq_mul_right (by omega) s2
      have ht2 := ht.2
      rcases Int.lt_or_le step 0 with hs | hs
      · have k3 := Int.mul_le_mul_of_nonneg_left kt.2 (show 0 ≤ -step by omega)
        rw [Int.neg_mul, Int.neg_mul] at k3
        exact at_end (Int.mul_lt_mul_of_pos_right ht2 l2) (by rw [t2]) (by omega)
      · have k3 := Int.mul_le_mul_of_nonneg_left kt.1 hs
        exact at_end (Int.mul_lt_mul_of_pos_right ht2 f2) (by rw [t1]) k3
    exact ⟨one _ _ _ ha kf.2.2.1 kl.2.2.1 ca, one _ _ _ hb kf.2.2.2 kl.2.2.2 cb⟩
  · intro w
    exact ⟨_, _, hQ, m0, m1, w⟩
end Cl

namespace Cl
open PySem PySem.Spec PyProof.Rows L2
/-! ### shares that are tried one by one -/
/-- of a rising list: what N parted by q is, is in it, or lies strictly between two neighbours -/
theorem consec {q N : Int} (hq : 0 < q) : ∀ (L : List Int), L.Pairwise (· ≤ ·) → (∃ a ∈ L, a * q ≤ N) → (∃ b ∈ L, N ≤ b * q) →
    (∃ a ∈ L, a * q = N) ∨ ∃ a b, (a, b) ∈ L.dropLast.zip L.tail ∧ a * q < N ∧ N < b * q ∧ ∀ c ∈ L, c ≤ a ∨ b ≤ c
  | [], _, ⟨_, h, _⟩, _ => nomatch h
  | [a], _, ⟨x, hx, h1⟩, ⟨y, hy, h2⟩ => by
    rw [List.mem_singleton] at hx hy
    subst hx
    subst hy
    exact .inl ⟨_, List.mem_singleton_self _, Int.le_antisymm h1 h2⟩
  | a :: b :: r, hp, ⟨x, hx, h1⟩, ⟨y, hy, h2⟩ => by
    have ha : ∀ {z : Int}, z ∈ b :: r → a ≤ z := fun h => List.rel_of_pairwise_cons hp h
    have hp2 := List.Pairwise.of_cons hp
    have hax : a * q ≤ N := by
      rcases List.mem_cons.mp hx with rfl | hx
      · exact h1
      · exact Int.le_trans (Int.mul_le_mul_of_nonneg_right (ha hx) (Int.le_of_lt hq)) h1
    rcases Int.lt_or_le N (b * q) with hb | hb
    · rcases Int.lt_or_eq_of_le hax with h | h
      · refine .inr ⟨a, b, ?_, h, hb, fun c hc => ?_⟩
        · simp
        · rcases List.mem_cons.mp hc with rfl | hc
          · exact .inl (Int.le_refl _)
          · rcases List.mem_cons.mp hc with rfl | hc
            · exact .inr (Int.le_refl _)
            · exact .inr (List.rel_of_pairwise_cons hp2 hc)
      · exact .inl ⟨a, List.mem_cons_self .., h⟩
    · have hy2 : ∃ y ∈ b :: r, N ≤ y * q := by
        rcases List.mem_cons.mp hy with rfl | hy
        · exact ⟨b, List.mem_cons_self .., Int.le_trans h2 (Int.mul_le_mul_of_nonneg_right (ha (List.mem_cons_self ..)) (Int.le_of_lt hq))⟩
        · exact ⟨y, hy, h2⟩
      rcases consec hq (b :: r) hp2 ⟨b, List.mem_cons_self .., hb⟩ hy2 with ⟨z, hz, e⟩ | ⟨u, v, hz, k1, k2, k3⟩
      · exact .inl ⟨z, List.mem_cons_of_mem _ hz, e⟩
      · refine .inr ⟨u, v, ?_, k1, k2, fun c hc => ?_⟩
        · show (u, v) ∈ (a :: (b :: r).dropLast).zip ((b :: r).tail.cons b)
          simp only [List.tail_cons, List.zip_cons_cons, List.mem_cons]
          exact .inr hz
        · rcases List.mem_cons.mp hc with rfl | hc
          · left
            have hub : b ≤ u ∨ u < b := by omega
            rcases k3 b (List.mem_cons_self ..) with h | h
            · exact Int.le_trans (ha (List.mem_cons_self ..)) h
            · have : v * q ≤ b * q := Int.mul_le_mul_of_nonneg_right h (Int.le_of_lt hq)
              omega
          · exact k3 c hc
/-- one of the two rows: where what lies at the share p of q lies in it, so what lies at s, no crossing of its sides being strictly between -/
theorem row_mid {g start step num W p q a b s : Int} (hW : 0 < W) (hq : 0 < q) (ht : HO1 g start step num p q) (h1 : a * q < 2 * W * p) (h2 : 2 * W * p < b * q) (m1 : a < s) (m2 : s < b)
    (hc : step ≠ 0 → ∀ side ∈ [rimL g num, rimH g num], ∃ c : Int, 2 * step * c = (side - 2 * start) * W ∧ (2 * c ≤ a ∨ b ≤ 2 * c)) : HO1 g start step num s (2 * W) := by
  obtain ⟨t1, t2⟩ := ht
  have W2 : 0 < 2 * W := by omega
  by_cases hs : step = 0
  · subst hs
    have e1 : (2 * num - 1) * g ≤ 2 * start := Int.le_of_mul_le_mul_right (a := q) (by
      have : 2 * (start * q + 0 * p) = 2 * start * q := by rw [Int.zero_mul, Int.add_zero, Int.mul_assoc]
      omega) hq
    have e2 : 2 * start < (2 * num + 1) * g := Int.lt_of_mul_lt_mul_right (a := q) (by
      have : 2 * (start * q + 0 * p) = 2 * start * q := by rw [Int.zero_mul, Int.add_zero, Int.mul_assoc]
      omega) (Int.le_of_lt hq)
    have k : 2 * (start * (2 * W) + 0 * s) = 2 * start * (2 * W) := by rw [Int.zero_mul, Int.add_zero, Int.mul_assoc]
    refine ⟨?_, ?_⟩
    · rw [k]; exact Int.mul_le_mul_of_nonneg_right e1 (Int.le_of_lt W2)
    · rw [k]; exact Int.mul_lt_mul_of_pos_right e2 W2
  · obtain ⟨c1, e1, n1⟩ := hc hs (rimL g num) (by simp)
    obtain ⟨c2, e2, n2⟩ := hc hs (rimH g num) (by simp)
    unfold rimL at e1
    unfold rimH at e2
    unfold HO1
    generalize (2 * num - 1) * g = lo at *
    generalize (2 * num + 1) * g = hi at *
    -- times 2 W: step (2 W p - 2 c1 q) ≥ 0, step (2 W p - 2 c2 q) < 0
    have f1 := Int.mul_le_mul_of_nonneg_right t1 (Int.le_of_lt W2)
    have f2 := Int.mul_lt_mul_of_pos_right t2 W2
    have x1 : lo * q * (2 * W) = 2 * (step * (2 * c1 * q)) + 2 * (start * q * (2 * W)) := by
      have : 2 * step * c1 * q = (lo - 2 * start) * W * q := by rw [e1]
      grind
    have x2 : hi * q * (2 * W) = 2 * (step * (2 * c2 * q)) + 2 * (start * q * (2 * W)) := by
      have : 2 * step * c2 * q = (hi - 2 * start) * W * q := by rw [e2]
      grind
    have x3 : 2 * (start * q + step * p) * (2 * W) = 2 * (step * (2 * W * p)) + 2 * (start * q * (2 * W)) := by grind
    have g1 : step * (2 * c1 * q) ≤ step * (2 * W * p) := by omega
    have g2 : step * (2 * W * p) < step * (2 * c2 * q) := by omega
    have y1 : lo * (2 * W) = 2 * (step * (2 * c1)) + 2 * (start * (2 * W)) := by grind
    have y2 : hi * (2 * W) = 2 * (step * (2 * c2)) + 2 * (start * (2 * W)) := by grind
    have y3 : 2 * (start * (2 * W) + step * s) = 2 * (step * s) + 2 * (start * (2 * W)) := by grind
    have mul_q : ∀ u v : Int, u ≤ v → u * q ≤ v * q := fun u v h => Int.mul_le_mul_of_nonneg_right h (Int.le_of_lt hq)
    rcases Int.lt_or_le step 0 with hs | hs
    · have h1' : 2 * W * p ≤ 2 * c1 * q := Int.not_lt.mp fun z => by
        have := Int.mul_lt_mul_of_pos_left z (show 0 < -step by omega)
        rw [Int.neg_mul, Int.neg_mul] at this
        omega
      have h2' : 2 * c2 * q < 2 * W * p := Int.lt_of_not_ge fun z => by
        have := Int.mul_le_mul_of_nonneg_left z (show 0 ≤ -step by omega)
        rw [Int.neg_mul, Int.neg_mul] at this
        omega
      have b1 : b ≤ 2 * c1 := by
        rcases n1 with z | z
        · have := mul_q _ _ z
          omega
        · exact z
      have b2 : 2 * c2 ≤ a := by
        rcases n2 with z | z
        · exact z
        · have := mul_q _ _ z
          omega
      have w1 := Int.mul_lt_mul_of_pos_left (show s < 2 * c1 by omega) (show 0 < -step by omega)
      have w2 := Int.mul_lt_mul_of_pos_left (show 2 * c2 < s by omega) (show 0 < -step by omega)
      rw [Int.neg_mul, Int.neg_mul] at w1 w2
      exact ⟨by omega, by omega⟩
    · have hs' : 0 < step := by omega
      have h1' : 2 * c1 * q ≤ 2 * W * p := Int.le_of_mul_le_mul_left g1 hs'
      have h2' : 2 * W * p < 2 * c2 * q := Int.lt_of_mul_lt_mul_left g2 hs
      have b1 : 2 * c1 ≤ a := by
        rcases n1 with z | z
        · exact z
        · have := mul_q _ _ z
          omega
      have b2 : b ≤ 2 * c2 := by
        rcases n2 with z | z
        · have := mul_q _ _ z
          omega
        · exact z
      have w1 := Int.mul_lt_mul_of_pos_left (show 2 * c1 < s by omega) hs'
      have w2 := Int.mul_lt_mul_of_pos_left (show s < 2 * c2 by omega) hs'
      exact ⟨by omega, by omega⟩
theorem mem_zip_tail {a b : Int} : ∀ {L : List Int}, (a, b) ∈ L.dropLast.zip L.tail → a ∈ L ∧ b ∈ L := by
  intro L h
  have h1 := (List.of_mem_zip h).1
  have h2 := (List.of_mem_zip h).2
  exact ⟨(List.dropLast_sublist L).subset h1, List.mem_of_mem_tail h2⟩
/-- the shares that are tried: some of 2 W, rising, both ends and each crossing within them there, and the middles of neighbours -/
theorem tried {g W : Int} {r : Ln} {c : Pt} {L : List Int} (hW : 0 < W) (hp : L.Pairwise (· ≤ ·)) (hL : ∀ s ∈ L, ∃ t : Int, s = 2 * t ∧ 0 ≤ t ∧ t ≤ W) (h0 : 0 ∈ L) (h1 : 2 * W ∈ L)
    (hx : r.2.1 - r.1.1 ≠ 0 → ∀ side ∈ [rimL g c.1, rimH g c.1], ∃ k : Int, 2 * (r.2.1 - r.1.1) * k = (side - 2 * r.1.1) * W ∧ (0 ≤ k → k ≤ W → 2 * k ∈ L))
    (hy : r.2.2 - r.1.2 ≠ 0 → ∀ side ∈ [rimL g c.2, rimH g c.2], ∃ k : Int, 2 * (r.2.2 - r.1.2) * k = (side - 2 * r.1.2) * W ∧ (0 ≤ k → k ≤ W → 2 * k ∈ L)) :
    Meets g r c ↔ ∃ s ∈ L ++ (L.dropLast.zip L.tail).map (fun z => (z.1 + z.2) / 2), HOc g r c s (2 * W) := by
  have rng : ∀ s ∈ L ++ (L.dropLast.zip L.tail).map (fun z => (z.1 + z.2) / 2), 0 ≤ s ∧ s ≤ 2 * W := fun s hs => by
    rcases List.mem_append.mp hs with h | h
    · obtain ⟨t, e, t0, t1⟩ := hL s h
      omega
    · obtain ⟨⟨a, b⟩, hm, rfl⟩ := List.mem_map.mp h
      obtain ⟨ha, hb⟩ := mem_zip_tail hm
      obtain ⟨t, e, t0, t1⟩ := hL _ ha
      obtain ⟨u, f, u0, u1⟩ := hL _ hb
      simp only
      omega
  constructor
  · intro ⟨p, q, hq, p0, p1, ha, hb⟩
    have hN0 : (0 : Int) * q ≤ 2 * W * p := by
      rw [Int.zero_mul]
      exact Int.mul_nonneg (by omega) p0
    have hN1 : 2 * W * p ≤ 2 * W * q := Int.mul_le_mul_of_nonneg_left p1 (by omega)
    rcases consec hq L hp ⟨0, h0, hN0⟩ ⟨2 * W, h1, hN1⟩ with ⟨a, ha', e⟩ | ⟨a, b, hz, k1, k2, k3⟩
    · refine ⟨a, List.mem_append_left _ ha', ?_⟩
      have same : ∀ start step num : Int, HO1 g start step num p q → HO1 g start step num a (2 * W) := fun start step num ⟨t1, t2⟩ => by
        have x : 2 * (start * (2 * W) + step * a) * q = 2 * (start * q + step * p) * (2 * W) := by
          have : step * (a * q) = step * (2 * W * p) := by rw [e]
          grind
        have y : ∀ z : Int, z * q * (2 * W) = z * (2 * W) * q := fun z => by rw [Int.mul_right_comm]
        have s1 := Int.mul_le_mul_of_nonneg_right t1 (show 0 ≤ 2 * W by omega)
        have s2 := Int.mul_lt_mul_of_pos_right t2 (show 0 < 2 * W by omega)
        rw [y, ← x] at s1
        rw [y, ← x] at s2
        exact ⟨Int.le_of_mul_le_mul_right s1 hq, Int.lt_of_mul_lt_mul_right s2 (Int.le_of_lt hq)⟩
      exact ⟨same _ _ _ ha, same _ _ _ hb⟩
    · obtain ⟨ma, mb⟩ := mem_zip_tail hz
      obtain ⟨t, ea, t0, t1⟩ := hL _ ma
      obtain ⟨u, eb, u0, u1⟩ := hL _ mb
      have hab : a < b := Int.lt_of_mul_lt_mul_right (Int.lt_trans k1 k2) (Int.le_of_lt hq)
      have m1 : a < (a + b) / 2 := by omega
      have m2 : (a + b) / 2 < b := by omega
      refine ⟨(a + b) / 2, List.mem_append_right _ (List.mem_map.mpr ⟨(a, b), hz, rfl⟩), ?_, ?_⟩
      · refine row_mid hW hq ha k1 k2 m1 m2 fun hs side hm => ?_
        obtain ⟨k, e, hk⟩ := hx hs side hm
        refine ⟨k, e, ?_⟩
        by_cases z0 : 0 ≤ k
        · by_cases z1 : k ≤ W
          · exact k3 _ (hk z0 z1)
          · right; omega
        · left; omega
      · refine row_mid hW hq hb k1 k2 m1 m2 fun hs side hm => ?_
        obtain ⟨k, e, hk⟩ := hy hs side hm
        refine ⟨k, e, ?_⟩
        by_cases z0 : 0 ≤ k
        · by_cases z1 : k ≤ W
          · exact k3 _ (hk z0 z1)
          · right; omega
        · left; omega
  · intro ⟨s, hs, h⟩
    obtain ⟨s0, s1⟩ := rng s hs
    exact ⟨s, 2 * W, by omega, s0, s1, h⟩
/-- turned about, and moved by whole corners -/
theorem Meets.rev {g : Int} {r : Ln} {c : Pt} : Meets g (r.2, r.1) c ↔ Meets g r c := by
  have one : ∀ {r : Ln}, Meets g r c → Meets g (r.2, r.1) c := fun {r} ⟨p, q, hq, p0, p1, ha, hb⟩ => by
    refine ⟨q - p, q, hq, by omega, by omega, ?_, ?_⟩
    · have e : r.2.1 * q + (r.1.1 - r.2.1) * (q - p) = r.1.1 * q + (r.2.1 - r.1.1) * p := by grind
      unfold HO1 at ha ⊢
      simp only
      rw [e]
      exact ha
    · have e : r.2.2 * q + (r.1.2 - r.2.2) * (q - p) = r.1.2 * q + (r.2.2 - r.1.2) * p := by grind
      unfold HO1 at hb ⊢
      simp only
      rw [e]
      exact hb
  exact ⟨fun h => one h, fun h => one h⟩
theorem Meets.move {g i j : Int} {r : Ln} {c : Pt} : Meets g ((r.1.1 + i * g, r.1.2 + j * g), (r.2.1 + i * g, r.2.2 + j * g)) (c.1 + i, c.2 + j) ↔ Meets g r c := by
  have one : ∀ start step num i p q : Int, HO1 g (start + i * g) step (num + i) p q ↔ HO1 g start step num p q := fun start step num i p q => by
    unfold HO1
    have e1 : (2 * (num + i) - 1) * g * q = (2 * num - 1) * g * q + 2 * (i * g * q) := by grind
    have e2 : (2 * (num + i) + 1) * g * q = (2 * num + 1) * g * q + 2 * (i * g * q) := by grind
    have e3 : 2 * ((start + i * g) * q + step * p) = 2 * (start * q + step * p) + 2 * (i * g * q) := by grind
    rw [e1, e2, e3]
    omega
  unfold Meets HOc
  simp only [show ∀ a b k : Int, a + k - (b + k) = a - b from fun a b k => by omega, one]
theorem nr_eq {n d i : Int} (h : 0 < d) : nr n d = i ↔ (2 * i - 1) * d ≤ 2 * n ∧ 2 * n < (2 * i + 1) * d := by
  have k := nr_lies (n := n) h
  constructor
  · intro e
    rw [← e]
    exact k
  · intro ⟨a, b⟩
    have c1 : (2 * nr n d - 1) * d < (2 * i + 1) * d := by omega
    have c2 : (2 * i - 1) * d < (2 * nr n d + 1) * d := by omega
    have := Int.lt_of_mul_lt_mul_right c1 (Int.le_of_lt h)
    have := Int.lt_of_mul_lt_mul_right c2 (Int.le_of_lt h)
    omega
theorem in_cell {g start step num p q : Int} (hg : 0 < g) (hq : 0 < q) : nr (q * start + p * step) (q * g) = num ↔ HO1 g start step num p q := by
  rw [nr_eq (Int.mul_pos hq hg)]
  unfold HO1
  rw [show start * q + step * p = q * start + p * step by rw [Int.mul_comm q, Int.mul_comm p], show (2 * num - 1) * g * q = (2 * num - 1) * (q * g) by rw [Int.mul_assoc, Int.mul_comm g q], show (2 * num + 1) * g * q = (2 * num + 1) * (q * g) by rw [Int.mul_assoc, Int.mul_comm g q]]
theorem HO1.scale {g start step num p q k : Int} (hk : 0 < k) : HO1 g start step num (p * k) (q * k) ↔ HO1 g start step num p q := by
  unfold HO1
  have e1 : (2 * num - 1) * g * (q * k) = (2 * num - 1) * g * q * k := by rw [Int.mul_assoc _ q k]
  have e2 : (2 * num + 1) * g * (q * k) = (2 * num + 1) * g * q * k := by rw [Int.mul_assoc _ q k]
  have e3 : 2 * (start * (q * k) + step * (p * k)) = 2 * (start * q + step * p) * k := by grind
  rw [e1, e2, e3]
  exact ⟨fun ⟨a, b⟩ => ⟨Int.le_of_mul_le_mul_right a hk, Int.lt_of_mul_lt_mul_right b (Int.le_of_lt hk)⟩, fun ⟨a, b⟩ => ⟨Int.mul_le_mul_of_nonneg_right a (Int.le_of_lt hk), Int.mul_lt_mul_of_pos_right b hk⟩⟩
/-- in lowest terms the middle lies in the cell just when it does -/
theorem mid_low {g p q k : Int} {r : Ln} {c : Pt} (hk : 0 < k) : HOc g r c (p * k) (q * k) ↔ HOc g r c p q := by
  unfold HOc
  rw [HO1.scale hk, HO1.scale hk]
end Cl

namespace Cl
open PySem PySem.Spec PyProof.Rows L2
/-! ### promises: shares of lines within cells -/
def ShB (s : Sh) : Prop := -(2 ^ 60) < s.1 ∧ s.1 < 2 ^ 60 ∧ 0 < s.2 ∧ s.2 < 2 ^ 60
def spRims (K : PySem.W.Frag) : Sp := fun vs H Q _ => ∃ g n : Int, vs = [.int g, .int n] ∧ 0 < g ∧ g < 2 ^ 60 ∧ New H (.tup [.int (rimL g n), .int (rimH g n)]) Q
def spLow (K : PySem.W.Frag) : Sp := fun vs H Q _ => ∃ n d : Int, vs = [.int n, .int d] ∧ 0 < d ∧ d < 2 ^ 200 ∧
  ∀ w H' (p q k : Int), Same H H' → 0 < k → n = p * k → d = q * k → 0 < q → At2 K H' w (p, q) → Q w H'
def spSooner (K : PySem.W.Frag) : Sp := fun vs H Q _ => ∃ u v p q, vs = [u, v] ∧ At2 K H u p ∧ At2 K H v q ∧ ShB p ∧ ShB q ∧ Q (.bl (decide (p.1 * q.2 < q.1 * p.2))) H
def spLater (K : PySem.W.Frag) (f : Sh → Sh → Sh) : Sp := fun vs H Q _ => ∃ u v p q, vs = [u, v] ∧ At2 K H u p ∧ At2 K H v q ∧ ShB p ∧ ShB q ∧ ∀ w, At2 K H w (f p q) → Q w H
theorem later_ShB {a b : Sh} (ha : ShB a) (hb : ShB b) : ShB (later a b) := by unfold later; split <;> assumption
theorem soon_ShB {a b : Sh} (ha : ShB a) (hb : ShB b) : ShB (soon a b) := by unfold soon; split <;> assumption
theorem low_parts {n d : Int} (hd : 0 < d) : ∃ k : Int, k = (Int.gcd n d : Nat) ∧ 0 < k ∧ k ≤ d ∧ n = n / k * k ∧ d = d / k * k ∧ 0 < d / k := by
  have h0 : 0 < Int.gcd n d := Int.gcd_pos_of_ne_zero_right _ (by omega)
  have h1 : ((Int.gcd n d : Nat) : Int) ∣ n := Int.gcd_dvd_left ..
  have h2 : ((Int.gcd n d : Nat) : Int) ∣ d := Int.gcd_dvd_right ..
  refine ⟨_, rfl, by omega, Int.le_of_dvd hd h2, (Int.ediv_mul_cancel h1).symm, (Int.ediv_mul_cancel h2).symm, Int.ediv_pos_of_pos_of_dvd hd (by omega) h2⟩
end Cl

namespace Cl
open PySem PySem.Spec PyProof.Rows L2
/-! ### a loop over zip of three tuples -/
def Itz3 (K : PySem.W.Frag) (a b c : Addr) : It :=
  ⟨fun i H => ∃ xs ys zs : List V, SqT K H a xs ∧ SqT K H b ys ∧ SqT K H c zs ∧ i < xs.length ∧ i < ys.length ∧ i < zs.length,
    fun i H v H' => ∃ T x y u, v = .ref T ∧ H T = none ∧ H' = upd H T (.tup [x, y, u]) ∧ (∀ xs, SqT K H a xs → xs[i]? = some x) ∧ (∀ ys, SqT K H b ys → ys[i]? = some y) ∧ ∀ zs, SqT K H c zs → zs[i]? = some u,
    fun i H => ∃ xs ys zs : List V, SqT K H a xs ∧ SqT K H b ys ∧ SqT K H c zs ∧ i = min (min xs.length ys.length) zs.length⟩
theorem turn_zip3 {P : Program} {w : World} {K : PySem.W.Frag} {elts : List Expr} {kk : Nat} {tpos : Pos} {a b c z TI TO i1 i2 i3 : Addr} (S : ZipSep3 z TI TO i1 i2 i3 [i1, a] [i2, b] [i3, c]) (n1 : a ≠ i1) (n2 : b ≠ i2) (n3 : c ≠ i3) :
    Turn P w K (.Tuple elts kk tpos) (Itz3 K a b c) [z, TI, TO, i1, i2, i3] z (fun i h => IsZip h z TI TO .none ∧ IsTupOf3 h TI (.ref i1) (.ref i2) (.ref i3) ∧ (∃ x y u, IsTupOf3 h TO x y u) ∧ h.IsTupleIter i1 a i ∧ h.IsTupleIter i2 b i ∧ h.IsTupleIter i3 c i) where
  mem := by simp
  obj := fun i h st d hd => by
    obtain ⟨hz, hTI, ⟨x, y, u, hTO⟩, ⟨o1, e1, _, d1⟩, ⟨o2, e2, _, d2⟩, ⟨o3, e3, _, d3⟩⟩ := st
    simp only [List.mem_cons, List.not_mem_nil, or_false] at hd
    rcases hd with rfl | rfl | rfl | rfl | rfl | rfl
    · exact ⟨_, hz, fun v q => nomatch q⟩
    · exact ⟨_, hTI, fun v q => nomatch q⟩
    · exact ⟨_, hTO, fun v q => nomatch q⟩
    · exact ⟨o1, e1, fun v q => by rw [d1] at q; cases q⟩
    · exact ⟨o2, e2, fun v q => by rw [d2] at q; cases q⟩
    · exact ⟨o3, e3, fun v q => by rw [d3] at q; cases q⟩
  keep := fun i h h' st k => by
    obtain ⟨hz, hTI, ⟨x, y, u, hTO⟩, h1, h2, h3⟩ := st
    exact ⟨k z (by simp) _ hz, k TI (by simp) _ hTI, ⟨x, y, u, k TO (by simp) _ hTO⟩, h1.at fun o q => k i1 (by simp) o q, h2.at fun o q => k i2 (by simp) o q, h3.at fun o q => k i3 (by simp) o q⟩
  item := by
    intro X hP hw hK hc i pins s σ H E I hf st hg
    subst hP hw hK
    obtain ⟨hz, hTI, hTO, h1, h2, h3⟩ := st
    obtain ⟨xs, ys, zs, q1, q2, q3, l1, l2, l3⟩ := hg
    obtain ⟨t1, r1, p1, _⟩ := I.tuple q1
    obtain ⟨t2, r2, p2, _⟩ := I.tuple q2
    obtain ⟨t3, r3, p3, _⟩ := I.tuple q3
    have m1 := r1.length
    have m2 := r2.length
    have m3 := r3.length
    have hh : X.A.in1.handled = none := I.ok.hd hc
    have W := GoesN.zip3 (elts := elts) (x1 := kk) (pos := tpos) S (Draws.tuple (prog := X.prog) (w := X.w) hh i1 a n1 t1.toArray) (Draws.tuple hh i2 b n2 t2.toArray) (Draws.tuple hh i3 c n3 t3.toArray)
    refine W.goes i s _ E (by simp; omega) ⟨hz, hTI, hTO, ⟨h1, p1⟩, ⟨h2, p2⟩, ⟨h3, p3⟩⟩ fun v h' tk hY st' hk htk => ?_
    obtain ⟨T, x, y, u, rfl, hT, hx, hy, hu, hTup⟩ := hY
    obtain ⟨z', TI', TO', ⟨h1', _⟩, ⟨h2', _⟩, ⟨h3', _⟩⟩ := st'
    obtain ⟨x', ex, rx⟩ := r1.get (List.getElem?_eq_getElem l1)
    obtain ⟨y', ey, ry⟩ := r2.get (List.getElem?_eq_getElem l2)
    obtain ⟨u', eu, ru⟩ := r3.get (List.getElem?_eq_getElem l3)
    have ex' : x' = x := by simpa [ex] using hx
    have ey' : y' = y := by simpa [ey] using hy
    have eu' : u' = u := by simpa [eu] using hu
    subst ex' ey' eu'
    have new : ObjOk X.prog X.w (upd H T (.tup [xs[i], ys[i], zs[i]])) h' T (.tup [xs[i], ys[i], zs[i]]) :=
      ⟨by show 3 ≤ sizeLine; decide, [x', y', u'], .cons rx (.cons ry (.cons ru .nil)), hTup⟩
    have hk2 : ∀ d o, d ∉ [z, TI, TO, i1, i2, i3] → s.heap.get? d = some o → h'.get? d = some o := fun d o hd e =>
      hk d o (fun q => hd (by simp only [List.mem_cons, List.not_mem_nil, or_false] at q ⊢; rcases q with q | q | q | q | q <;> simp [q])) e
    have I1 := I.turnedNew (t' := tk) (ch := [z, TI, TO, i1, i2, i3]) hk2 hf hT new
    refine ⟨.ref T, _, I1, rfl, ⟨T, _, _, _, rfl, I.hok.fresh hT, rfl, fun l hl => by rw [I.tuple_inj hl q1]; exact List.getElem?_eq_getElem l1, fun l hl => by rw [I.tuple_inj hl q2]; exact List.getElem?_eq_getElem l2, fun l hl => by rw [I.tuple_inj hl q3]; exact List.getElem?_eq_getElem l3⟩, ⟨z', TI', TO', h1', h2', h3'⟩, fun d hd => ?_⟩
    have hlt : d < s.heap.objs.size := by
      simp only [List.mem_cons, List.not_mem_nil, or_false] at hd
      obtain ⟨_, _, _, hTO⟩ := hTO
      rcases hd with q | q | q | q | q | q
      · rw [q]; exact Heap.lt_size hz
      · rw [q]; exact Heap.lt_size hTI
      · rw [q]; exact Heap.lt_size hTO
      · rw [q]; obtain ⟨_, e1, _⟩ := h1; exact Heap.lt_size e1
      · rw [q]; obtain ⟨_, e1, _⟩ := h2; exact Heap.lt_size e1
      · rw [q]; obtain ⟨_, e1, _⟩ := h3; exact Heap.lt_size e1
    rw [upd_ne (Nat.ne_of_lt (Nat.lt_of_lt_of_le hlt hT))]
    exact (hf d hd).1
  done := by
    intro X hP hw hK hc i pins s σ H E I hf st hg
    subst hP hw hK
    obtain ⟨hz, hTI, hTO, h1, h2, h3⟩ := st
    obtain ⟨xs, ys, zs, q1, q2, q3, l⟩ := hg
    obtain ⟨t1, r1, p1, _⟩ := I.tuple q1
    obtain ⟨t2, r2, p2, _⟩ := I.tuple q2
    obtain ⟨t3, r3, p3, _⟩ := I.tuple q3
    have m1 := r1.length
    have m2 := r2.length
    have m3 := r3.length
    have hh : X.A.in1.handled = none := I.ok.hd hc
    have W := GoesN.zip3 (elts := elts) (x1 := kk) (pos := tpos) S (Draws.tuple (prog := X.prog) (w := X.w) hh i1 a n1 t1.toArray) (Draws.tuple hh i2 b n2 t2.toArray) (Draws.tuple hh i3 c n3 t3.toArray)
    have hi : i = min (min t1.toArray.size t2.toArray.size) t3.toArray.size := by simp; omega
    subst hi
    refine W.stops s _ E ⟨hz, hTI, hTO, ⟨h1, p1⟩, ⟨h2, p2⟩, ⟨h3, p3⟩⟩ fun h' tk hk htk => I.turnedL (t' := tk) (ch := [z, TI, TO, i1, i2, i3]) (fun d o hd e => ?_) hf
    exact hk d o (fun q => hd (by simp only [List.mem_cons, List.not_mem_nil, or_false] at q ⊢; rcases q with q | q | q | q | q <;> simp [q])) e
  self := fun A i s Q E st h => wpAny_pyIter_zip st.1 h
def iZip3 (K : PySem.W.Frag) (ta : TA) : TI := fun σ H R => ta σ H fun vs H1 => ∃ a b c xs ys zs, vs = [.ref a, .ref b, .ref c] ∧ SqT K H1 a xs ∧ SqT K H1 b ys ∧ SqT K H1 c zs ∧ R (Itz3 K a b c) H1
theorem pi_zip3 {X : Cx} {e e2 e3 : Expr} {ta : TA} {p pos tpos : Pos} {elts : List Expr} {kk : Nat} (hg : Gl X "zip") (hm : X.mg "zip" = none) (ha : PA X [e, e2, e3] ta)
    (hs : starEach [e, e2, e3] X.env = (false, eval e X.env) :: starEach [e2, e3] X.env := by rfl) (hpl : (backTo pos (starEach [e2, e3] X.env)).any (·.1) = false := by rfl) :
    PI X (.Tuple elts kk tpos) (.Call (.Name "zip" p) [e, e2, e3] [] pos) (iZip3 X.K ta) := by
  refine ⟨fun pins s σ H R I h => ?_⟩
  refine Call_ (ld_blt I hg hm PyProof.Rows.boot_zip (PyProof.Rows.callWith_type1 (thn (ha.run pos pins s σ H _ I h) fun us s1 ⟨vs, H1, I1, r1, q1⟩ => ?_) hs hpl))
  obtain ⟨a, b, c, xs, ys, zs, ex, q1, q2, q3, q⟩ := q1
  subst ex
  cases r1 with
  | cons r rr =>
    cases rr with
    | cons r' rr =>
      cases rr with
      | cons r'' rr =>
        cases rr
        cases r
        cases r'
        cases r''
        obtain ⟨t1, v1, p1, _⟩ := I1.tuple q1
        obtain ⟨t2, v2, p2, _⟩ := I1.tuple q2
        obtain ⟨t3, v3, p3, _⟩ := I1.tuple q3
        have la : a < s1.heap.objs.size := by obtain ⟨o1, g1, _⟩ := id p1; exact Heap.lt_size g1
        have lb : b < s1.heap.objs.size := by obtain ⟨o1, g1, _⟩ := id p2; exact Heap.lt_size g1
        have lc : c < s1.heap.objs.size := by obtain ⟨o1, g1, _⟩ := id p3; exact Heap.lt_size g1
        have fresh : ∀ d, d ∈ [s1.heap.objs.size + 5, s1.heap.objs.size + 3, s1.heap.objs.size + 4, s1.heap.objs.size, s1.heap.objs.size + 1, s1.heap.objs.size + 2] → FpOk X pins H1 d := fun d hd => by
          have hle : s1.heap.objs.size ≤ d := by
            simp only [List.mem_cons, List.not_mem_nil, or_false] at hd
            rcases hd with z | z | z | z | z | z
            · rw [z]; exact Nat.le_add_right _ _
            · rw [z]; exact Nat.le_add_right _ _
            · rw [z]; exact Nat.le_add_right _ _
            · rw [z]; exact Nat.le_refl _
            · rw [z]; exact Nat.le_add_right _ _
            · rw [z]; exact Nat.le_add_right _ _
          exact I1.fpOk hle (I1.hok.fresh hle)
        refine zip_begins3 (begins_tuple a t1.toArray) (begins_tuple b t2.toArray) (begins_tuple c t3.toArray) p1 p2 p3 fun h' hz hTI hTO h1 h2 h3 hsz hk => wpAny_pyIter_zip hz ?_
        have I2 : Inv X pins σ H1 { s1 with heap := h' } := I1.kept (t' := s1.toks) hk
        have ne : ∀ (d : Addr) (k : Nat), d < s1.heap.objs.size → d ≠ s1.heap.objs.size + k := fun d k hd => Nat.ne_of_lt (Nat.lt_of_lt_of_le hd (Nat.le_add_right _ _))
        exact ⟨s1.heap.objs.size + 5, [s1.heap.objs.size + 5, s1.heap.objs.size + 3, s1.heap.objs.size + 4, s1.heap.objs.size, s1.heap.objs.size + 1, s1.heap.objs.size + 2], _, _, H1, rfl, I2,
          turn_zip3 (zip_sep3 (fp1 := [a]) (fp2 := [b]) (fp3 := [c]) (fun d hd => by rw [List.mem_singleton.mp hd]; exact la) (fun d hd => by rw [List.mem_singleton.mp hd]; exact lb) (fun d hd => by rw [List.mem_singleton.mp hd]; exact lc)) (ne a 0 la) (ne b 1 lb) (ne c 2 lc),
          ⟨hz, hTI, ⟨_, _, _, hTO⟩, ⟨_, h1, rfl, rfl⟩, ⟨_, h2, rfl, rfl⟩, ⟨_, h3, rfl, rfl⟩⟩, fresh, q⟩
theorem for_zip3 {K : PySem.W.Frag} {a b c : Addr} {xs ys zs : List V} {g : TG} {tb : TS} {D : Ends} {σ : L2.St} {H : Hp} (hl : xs.length = ys.length) (hl2 : xs.length = zs.length) (Pv : Nat → L2.St → Hp → Prop) (h0 : Pv 0 σ H) (hq : ∀ i σ H, Pv i σ H → SqT K H a xs ∧ SqT K H b ys ∧ SqT K H c zs)
    (hs : ∀ (i : Nat) (x y u : V) (T : Addr) (σ : L2.St) (H : Hp), xs[i]? = some x → ys[i]? = some y → zs[i]? = some u → Pv i σ H → H T = none → g (.ref T) σ (upd H T (.tup [x, y, u])) fun σ2 H2 => tb { D with nx := Pv (i + 1), ct := Pv (i + 1), bk := D.nx } σ2 H2) (hd : ∀ σ H, Pv xs.length σ H → D.nx σ H) :
    ∃ W : Nat → Nat → L2.St → Hp → Prop, (∃ m, W 0 m σ H) ∧ ∀ i m σ H, W i m σ H →
      ((Itz3 K a b c).stop i H ∧ D.nx σ H) ∨ ((Itz3 K a b c).go i H ∧ ∃ N : L2.St → Hp → Prop, (∀ σ' H', N σ' H' → ∃ m', m' < m ∧ W (i + 1) m' σ' H') ∧ ∀ v H', (Itz3 K a b c).yld i H v H' → g v σ H' fun σ2 H2 => tb { D with nx := N, ct := N, bk := D.nx } σ2 H2) := by
  refine ⟨fun i m σ H => m = xs.length - i ∧ i ≤ xs.length ∧ Pv i σ H, ⟨xs.length, rfl, Nat.zero_le _, h0⟩, ?_⟩
  rintro i m σ H ⟨rfl, hi, p⟩
  obtain ⟨qx, qy, qz⟩ := hq i σ H p
  by_cases hlt : i < xs.length
  · refine .inr ⟨⟨xs, ys, zs, qx, qy, qz, hlt, by omega, by omega⟩, Pv (i + 1), fun σ' H' p' => ⟨xs.length - (i + 1), by omega, rfl, hlt, p'⟩, fun v H' y => ?_⟩
    obtain ⟨T, x', y', u', rfl, hT, rfl, f1, f2, f3⟩ := y
    exact hs i x' y' u' T σ H (f1 xs qx) (f2 ys qy) (f3 zs qz) p hT
  · have e : i = xs.length := by omega
    subst e
    exact .inl ⟨⟨xs, ys, zs, qx, qy, qz, by omega⟩, hd σ H p⟩
end Cl

namespace Cl
open PySem PySem.Spec PyProof.Rows L2
/-! ### pairs of lines of great numbers -/
def AtPair (K : PySem.W.Frag) (H : Hp) (v : V) (l r : Ln) : Prop := ∃ a u w, v = .ref a ∧ SqT K H a [u, w] ∧ AtL K H u l ∧ AtL K H w r
def GoodPair (l r : Ln) : Prop := BdL l ∧ BdL r ∧ l.1 ≠ l.2 ∧ r.1 ≠ r.2
def spPair (K : PySem.W.Frag) : Sp := fun vs H Q _ => ∃ (d l : Addr), vs = [.ref d] ∧ Deck H d l ∧
  ∀ w H' m n, Step d l H H' → AtPair K H' w m n → GoodPair m n → Q w H'
def spNum (B : Int) : Sp := fun vs H Q _ => ∃ (d l : Addr), vs = [.ref d] ∧ Deck H d l ∧ ∀ v H', -B ≤ v → v ≤ B → Step d l H H' → Q (.int v) H'
def spStepsP (K : PySem.W.Frag) : Sp := fun vs H Q _ => ∃ (d l : Addr), vs = [.ref d] ∧ Deck H d l ∧
  ∀ w H' p, Step d l H H' → At2 K H' w p → BdN 60000 p → p ≠ (0, 0) → Q w H'
theorem bdC_of {p : Pt} (h : BdN 10000000 p) : BdC p := by
  unfold BdN at h
  unfold BdC
  omega
theorem AllAt.twoLn {K : PySem.W.Frag} {H : Hp} {vs : List V} {p q : Pt} (h : AllAt (At2 K H) vs [p, q]) : ∃ u w, vs = [u, w] ∧ At2 K H u p ∧ At2 K H w q := by
  match vs, h with
  | [u, w], .cons a (.cons b .nil) => exact ⟨u, w, rfl, a, b⟩
theorem four {xs : List Int} (h : xs.length = 4) : ∃ x y z w, xs = [x, y, z, w] := by
  match xs, h with
  | [x, y, z, w], _ => exact ⟨x, y, z, w, rfl⟩
end Cl

namespace Cl
open PySem PySem.Spec PyProof.Rows L2
/-! ### a call of a def with a starred argument behind the first -/
section
variable {X : Cx} {k : Nat} {ps : List Str} {sp : Sp} {x : Str} {p pos : Pos} {e : Expr} {es : List Expr} {t : TA}
theorem callDS (D : Def X.prog X.w X.K X.mg X.base k x ps sp) (hr : RG k X.A) (ha : PA X (e :: es) t)
    (hg : Gl X x := by rfl) (hdb : (x == ("__debug__" : Str)) = false := by decide)
    (he : starEach (e :: es) X.env = (false, eval e X.env) :: starEach es X.env := by rfl)
    (hst : (backTo pos (starEach es X.env)).any (·.1) = true := by rfl) :
    PE X (.Call (.Name x p) (e :: es) [] pos) (tCall sp [] E0 t) := by
  obtain ⟨f, fd, F, hm, hk, hb⟩ := D.ex
  constructor
  intro pins s σ H Q I h
  refine wpAny_Call_Name_kw (ld_glob I hg hm ?_ hdb)
  refine PySem.W.callWith_S2 (h₀ := X.base) I.ok.mod.kin hk ?_ he hst
  refine thn (ha.run pos pins s σ H _ I h) fun us s1 ⟨vs, H1, I1, r, q⟩ => ⟨I1.kIn, ?_⟩
  have r2 : Vals (vs ++ []) (us ++ []) := r.append .nil
  have h2 : sp (vs ++ []) H1 Q E0 := q
  have n2 : (us ++ []).length = ps.length := r2.length.symm.trans (F.len _ _ _ _ h2)
  have run := F.run X.A X.stack s1 H1 ⟨us, []⟩ (us ++ []) (vs ++ []) Q E0 hr I1.env0 (hb s1 us I1.kIn n2) r2 h2
  refine wpAny_call (codeAny_mono run fun res s' hq => ?_)
  match res, hq with
  | .error ee, hq => exact pass0 pins σ H1 s1 ee s' I1 hq
  | .ok (.ret u), hq => exact I1.after hq
  | .ok .next, hq => exact hq.elim
  | .ok .brk, hq => exact hq.elim
  | .ok .cont, hq => exact hq.elim
end
/-! ### promises: the part of a line within a cell -/
def BdW (g : Int) (r : Ln) (c : Pt) : Prop := 0 < g ∧ g ≤ 1000 ∧ BdN 3000000 r.1 ∧ BdN 3000000 r.2 ∧ BdN 3000000 c
def AtSh (K : PySem.W.Frag) (H : Hp) (v : V) (f l : Sh) : Prop := ∃ a u w, v = .ref a ∧ SqT K H a [u, w] ∧ At2 K H u f ∧ At2 K H w l
def ShN (s : Sh) : Prop := -(2 ^ 36) < s.1 ∧ s.1 < 2 ^ 36 ∧ 0 < s.2 ∧ s.2 < 2 ^ 24
theorem ShN.b {s : Sh} (h : ShN s) : ShB s := by
  unfold ShN at h
  unfold ShB
  omega
theorem later_ShN {a b : Sh} (ha : ShN a) (hb : ShN b) : ShN (later a b) := by unfold later; split <;> assumption
theorem soon_ShN {a b : Sh} (ha : ShN a) (hb : ShN b) : ShN (soon a b) := by unfold soon; split <;> assumption
def spWithin (K : PySem.W.Frag) : Sp := fun vs H Q _ => ∃ g v r u c, vs = [.int g, v, u] ∧ AtL K H v r ∧ At2 K H u c ∧ BdW g r c ∧
  (sharesW g r c = none → ∀ H', Same H H' → Q .non H') ∧ ∀ f l w H', sharesW g r c = some (f, l) → Same H H' → AtSh K H' w f l → ShN f → ShN l → Q w H'
/-- the two numbers of a point, by 0 and 1 -/
def crd (p : Int × Int) (i : Nat) : Int := if i = 0 then p.1 else p.2
def stg (g : Int) (r : Ln) (c : Pt) : Nat → Option (Sh × Sh)
  | 0 => some ((0, 1), (1, 1))
  | i + 1 => match stg g r c i with
    | none => none
    | some (f, l) => inc f l (crd r.2 i - crd r.1 i) (rimL g (crd c i) - 2 * crd r.1 i) (rimH g (crd c i) - 2 * crd r.1 i)
theorem sharesW_stg (g : Int) (r : Ln) (c : Pt) : sharesW g r c = match stg g r c 2 with
    | none => none
    | some (f, l) => if l.1 * f.2 < f.1 * l.2 then none else some (f, l) := by
  unfold sharesW
  cases h : inc (0, 1) (1, 1) (r.2.1 - r.1.1) (rimL g c.1 - 2 * r.1.1) (rimH g c.1 - 2 * r.1.1) with
  | none => simp [stg, crd, h]
  | some z =>
    obtain ⟨f, l⟩ := z
    cases h2 : inc f l (r.2.2 - r.1.2) (rimL g c.2 - 2 * r.1.2) (rimH g c.2 - 2 * r.1.2) with
    | none => simp [stg, crd, h, h2]
    | some z => simp [stg, crd, h, h2]
theorem stg_none {g : Int} {r : Ln} {c : Pt} {i : Nat} (hi : i < 2) (h : stg g r c (i + 1) = none) : sharesW g r c = none := by
  rw [sharesW_stg]
  obtain rfl | rfl : i = 0 ∨ i = 1 := by omega
  · rw [show stg g r c 2 = match stg g r c 1 with
      | none => none
      | some (f, l) => inc f l (crd r.2 1 - crd r.1 1) (rimL g (crd c 1) - 2 * crd r.1 1) (rimH g (crd c 1) - 2 * crd r.1 1) from rfl, h]
  · rw [h]
theorem rim_b {g n : Int} (h0 : 0 < g) (h1 : g ≤ 1000) (n0 : -3000000 ≤ n) (n1 : n ≤ 3000000) : -(2 ^ 34) < rimL g n ∧ rimL g n < 2 ^ 34 ∧ -(2 ^ 34) < rimH g n ∧ rimH g n < 2 ^ 34 := by
  have k : ∀ z : Int, -6000001 ≤ z → z ≤ 6000001 → -6000001000 ≤ z * g ∧ z * g ≤ 6000001000 := fun z z0 z1 => by
    have a1 : (z + 6000001) * g ≤ (z + 6000001) * 1000 := Int.mul_le_mul_of_nonneg_left h1 (by omega)
    have a2 : (6000001 - z) * g ≤ (6000001 - z) * 1000 := Int.mul_le_mul_of_nonneg_left h1 (by omega)
    have a3 : 0 ≤ (z + 6000001) * g := Int.mul_nonneg (by omega) (by omega)
    have a4 : 0 ≤ (6000001 - z) * g := Int.mul_nonneg (by omega) (by omega)
    rw [Int.add_mul] at a1 a3
    rw [Int.sub_mul] at a2 a4
    omega
  unfold rimL rimH
  have := k (2 * n - 1) (by omega) (by omega)
  have := k (2 * n + 1) (by omega) (by omega)
  omega
/-- corner_at: its spot's corner -/
def spCornerAt (K : PySem.W.Frag) : Sp := fun vs H Q _ => ∃ (g : Int) (v : V) (s : S3), vs = [.int g, v] ∧ At3 K H v s ∧ 0 < g ∧ g < 2 ^ 60 ∧ 0 < s.2.2 ∧ s.2.2 * g < 2 ^ 60 ∧
  ∀ w H', Same H H' → At2 K H' w (nr s.1 (s.2.2 * g), nr s.2.1 (s.2.2 * g)) → Q w H'
def spShare (K : PySem.W.Frag) : Sp := fun vs H Q _ => ∃ g v r u c, vs = [.int g, v, u] ∧ AtL K H v r ∧ At2 K H u c ∧ BdW g r c ∧
  (¬ Meets g r c → ∀ H', Same H H' → Q .non H') ∧ (Meets g r c → ∀ p w H', Same H H' → At2 K H' w p → Q w H')
def spMeets (K : PySem.W.Frag) : Sp := fun vs H Q _ => ∃ g v r u c, vs = [.int g, v, u] ∧ AtL K H v r ∧ At2 K H u c ∧ BdW g r c ∧
  ∀ b H', Same H H' → (b = true ↔ Meets g r c) → Q (.bl b) H'
theorem eqv_pair (i j k l : Int) : PyData.eqv (.tuple [.int i, .int j]) (.tuple [.int k, .int l]) = decide (i = k ∧ j = l) := by
  rw [Bool.eq_iff_iff]
  simp [PyData.eqv, PyData.eqvAll]
theorem mid_b {f l : Sh} (hf : ShN f) (hl : ShN l) : 0 < midQ f l ∧ midQ f l ≤ 2 ^ 49 := by
  unfold ShN at hf hl
  unfold midQ
  have h1 : f.2 * l.2 ≤ 2 ^ 24 * 2 ^ 24 := Int.mul_le_mul (by omega) (by omega) (by omega) (by decide)
  have h2 : 0 < f.2 * l.2 := Int.mul_pos (by omega) (by omega)
  rw [Int.mul_assoc]
  omega
/-- the corner of the point at the share p of q is this one just when the point lies in its cell -/
theorem corner_share {g : Int} {r : Ln} {c : Pt} {p q : Int} (hg : 0 < g) (hq : 0 < q) :
    let s := sp3 (q * r.1.1 + p * (r.2.1 - r.1.1)) (q * r.1.2 + p * (r.2.2 - r.1.2)) q
    0 < s.2.2 ∧ s.2.2 ≤ q ∧ ((nr s.1 (s.2.2 * g), nr s.2.1 (s.2.2 * g)) = c ↔ HOc g r c p q) := by
  obtain ⟨k, _, _, _, _, h2, h3⟩ := spot_pos (n := q * r.1.1 + p * (r.2.1 - r.1.1)) (m := q * r.1.2 + p * (r.2.2 - r.1.2)) hq
  refine ⟨h2, h3, ?_⟩
  obtain ⟨e1, e2⟩ := nr_spot (n := q * r.1.1 + p * (r.2.1 - r.1.1)) (m := q * r.1.2 + p * (r.2.2 - r.1.2)) (g := g) hq
  show (nr _ (_ * g), nr _ (_ * g)) = c ↔ _
  unfold sp3
  simp only
  rw [e1, e2]
  unfold HOc
  rw [← in_cell hg hq, ← in_cell hg hq]
  constructor
  · intro e
    rw [← e]
    exact ⟨rfl, rfl⟩
  · intro ⟨a, b⟩
    exact Prod.ext a b
end Cl

namespace Cl
open PySem PySem.Spec PyProof.Rows L2
/-! ### lines of any grain, drawn; the shares tried -/
def BdR (B : Int) (r : Ln) : Prop := BdN B r.1 ∧ BdN B r.2
def spGrainW : Sp := fun vs H Q _ => ∃ d l : Addr, vs = [.ref d] ∧ Deck H d l ∧ ∀ g H', 0 < g → g ≤ 1000 → Step d l H H' → Q (.int g) H'
def spPointW (K : PySem.W.Frag) : Sp := fun vs H Q _ => ∃ (d l : Addr) (g way : Int), vs = [.ref d, .int g, .int way] ∧ 0 < g ∧ g ≤ 1000 ∧ Deck H d l ∧
  ∀ w H' p, Step d l H H' → At2 K H' w p → BdN 5000 p → Q w H'
def spLineW (K : PySem.W.Frag) : Sp := fun vs H Q _ => ∃ (d l : Addr) (g : Int) (L : Addr) (ws : List V) (ls : List Ln), vs = [.ref d, .int g, .ref L] ∧ 0 < g ∧ g ≤ 1000 ∧ Deck H d l ∧
  L ≠ d ∧ L ≠ l ∧ H L = some (.lst ws) ∧ AllAt (AtL K H) ws ls ∧ ls.length ≤ 10 ∧
  ∀ w H' r', Step d l H H' → AtL K H' w r' → BdR 60000 r' → Q w H'
def spLinesW (K : PySem.W.Frag) : Sp := fun vs H Q _ => ∃ (d l : Addr) (g : Int) (n : Nat), vs = [.ref d, .int g, .int n] ∧ 0 < g ∧ g ≤ 1000 ∧ 0 < n ∧ n ≤ 10 ∧ Deck H d l ∧
  ∀ w H' ls, Step d l H H' → AtT K H' w ls → ls.length = n → (∀ r ∈ ls, BdR 60000 r) → Q w H'
def mvL (dx dy : Int) (r : Ln) : Ln := ((r.1.1 + dx, r.1.2 + dy), (r.2.1 + dx, r.2.2 + dy))
def spMovedW (K : PySem.W.Frag) : Sp := fun vs H Q _ => ∃ (v : V) (ls : List Ln) (dx dy : Int), vs = [v, .int dx, .int dy] ∧ AtT K H v ls ∧ ls.length ≤ 900 ∧
  ∀ w H', Same H H' → AtT K H' w (ls.map (mvL dx dy)) → Q w H'
def spNearestW (K : PySem.W.Frag) : Sp := fun vs H Q _ => ∃ (g : Int) (v : V) (s : S3), vs = [.int g, v] ∧ At3 K H v s ∧ 0 < g ∧ g ≤ 1000 ∧ s.2.2 = 16 ∧
  ∀ w H' p, Same H H' → At2 K H' w p → Q w H'
def spSharesW (K : PySem.W.Frag) : Sp := fun vs H Q _ => ∃ g v r u c, vs = [.int g, v, u] ∧ AtL K H v r ∧ At2 K H u c ∧ 0 < g ∧ g ≤ 1000 ∧ BdR 1100000 r ∧ BdN 1000000 c ∧
  ∀ L H' vs ps, Same H H' → H' L = some (.lst vs) → AllAt (At2 K H') vs ps → (ps ≠ [] ↔ Meets g r c) → Q (.ref L) H'
def spFarW : Sp := fun vs H Q _ => ∃ (d l : Addr), vs = [.ref d] ∧ Deck H d l ∧ ∀ v H', -1000000 ≤ v → v ≤ 1000000 → Step d l H H' → Q (.int v) H'
def spSomeW (K : PySem.W.Frag) : Sp := fun vs H Q _ => ∃ (d l : Addr) (g : Int), vs = [.ref d, .int g] ∧ 0 < g ∧ g ≤ 1000 ∧ Deck H d l ∧
  ∀ w H' r, Step d l H H' → AtL K H' w r → BdR 1100000 r → Q w H'
def spNearW (K : PySem.W.Frag) : Sp := fun vs H Q _ => ∃ (d l : Addr) (g : Int) (v : V) (r : Ln), vs = [.ref d, .int g, v] ∧ 0 < g ∧ g ≤ 1000 ∧ Deck H d l ∧ AtL K H v r ∧
  ∀ w H' c, Step d l H H' → At2 K H' w c → BdN 1000000 c → Q w H'
def AtLC (K : PySem.W.Frag) (H : Hp) (v : V) (x : Ln × Pt) : Prop := ∃ a u w, v = .ref a ∧ SqT K H a [u, w] ∧ AtL K H u x.1 ∧ At2 K H w x.2
theorem AtLC.same {K : PySem.W.Frag} {H H' : Hp} {v : V} {x : Ln × Pt} (h : AtLC K H v x) (s : Same H H') : AtLC K H' v x := by
  obtain ⟨a, u, w, rfl, h1, h2, h3⟩ := h
  exact ⟨a, u, w, rfl, seT s h1, h2.same s, h3.same s⟩
theorem AtLC.upd {K : PySem.W.Frag} {H : Hp} {M : Addr} {xs : List V} {o : HO} {v : V} {x : Ln × Pt} (h : AtLC K H v x) (e : H M = some (.lst xs)) : AtLC K (L2.upd H M o) v x := by
  obtain ⟨a, u, w, rfl, h1, h2, h3⟩ := h
  exact ⟨a, u, w, rfl, updT e h1, h2.upd e, h3.upd e⟩
def spTurnedW (K : PySem.W.Frag) : Sp := fun vs H Q _ => ∃ (g : Int) (v : V) (r : Ln) (u : V) (c : Pt) (b : Addr) (i j : Int), vs = [.int g, v, u, .ref b] ∧ AtL K H v r ∧ At2 K H u c ∧ H b = some (.lst [.int i, .int j]) ∧
  0 < g ∧ g ≤ 1000 ∧ BdR 1100000 r ∧ BdN 1000000 c ∧ -10 ≤ i ∧ i ≤ 10 ∧ -10 ≤ j ∧ j ≤ 10 ∧
  ∀ L H' vs ps, Same H H' → H' L = some (.lst vs) → AllAt (AtLC K H') vs ps → (∀ x ∈ ps, BdW g x.1 x.2 ∧ (Meets g x.1 x.2 ↔ Meets g r c)) → Q (.ref L) H'
theorem cut_init (xs : List V) : cutV xs none (some (-1)) = xs.dropLast := by
  unfold cutV
  have e : HT.sIx xs.length xs.length (some (-1)) = xs.length - 1 := by
    show (if (-1 : Int) < 0 then ((-1 : Int) + (xs.length : Int)).toNat else min (-1 : Int).toNat xs.length) = _
    rw [if_pos (by decide)]
    omega
  rw [HT.sIx_none, e, List.drop_zero, Nat.sub_zero, List.dropLast_eq_take]
theorem cut_tail (xs : List V) : cutV xs (some 1) none = xs.tail := by rw [cut_rest, List.drop_one]
section
variable {X : Cx}
theorem cr_sortedIN : CallR X (.builtin "sorted") (fun vs H Q => ∃ (a : Addr) (ns : List Int), vs = [V.ref a] ∧ SqL X.K H a (ns.map V.int) ∧ ∀ ns' : List Int, ns'.Perm ns → ns'.Pairwise (· ≤ ·) → New H (.lst (ns'.map V.int)) Q) :=
  fun pins s σ H vs us Q I r ⟨a, ns, h1, h2, q⟩ => cr_sortedI pins s σ H vs us Q I r ⟨a, ns, h1, h2, fun ns' p h3 h4 n => (q ns' h3 h4).go p n⟩
def rRepN : R2 := fun x y H Q => ∃ l k xs, x = .ref l ∧ y = .int k ∧ H l = some (.lst xs) ∧ -(2 ^ 63) ≤ k ∧ k < 2 ^ 63 ∧ xs.length * k.toNat ≤ sizeLine ∧ New H (.lst (List.replicate k.toNat xs).flatten) Q
theorem op_repN : OpR X (binaryOp .Mult) rRepN := fun pins s σ H x y v u Q I rx ry ⟨l, k, xs, h1, h2, h3, h4, h5, h6, q⟩ => op_rep pins s σ H x y v u Q I rx ry ⟨l, k, xs, h1, h2, h3, h4, h5, h6, q.go⟩
end
section
variable {X : Cx}
theorem cut_whole {xs : List V} {lo hi : Option Int} (h : HT.sIx xs.length 0 lo = 0 ∧ HT.sIx xs.length xs.length hi = xs.length) : cutV xs lo hi = xs := by
  unfold cutV
  rw [h.1, h.2, List.drop_zero, Nat.sub_zero, List.take_length]
/-- t[lo:hi] of a tuple, a new one or itself -/
def rSlTB (K : PySem.W.Frag) : V → Option Int → Option Int → Hp → VK → Prop := fun x lo hi H Q => ∃ a xs, x = .ref a ∧ SqT K H a xs ∧ ∀ p H', Same H H' → SqT K H' p (cutV xs lo hi) → Q (.ref p) H'
theorem sl_tupB : SlR X (rSlTB X.K) := fun pins s σ H x v vl vu lo hi sl Q I rx hs pl pu ⟨a, xs, h1, h2, q⟩ =>
  sl_tupA pins s σ H x v vl vu lo hi sl Q I rx hs pl pu ⟨a, xs, h1, h2, fun hw => q a H (.refl _) (by rw [cut_whole hw]; exact h2), fun _ p n => q p _ (same_new n) (.inl (.inl upd_same))⟩
/-- t + u of tuples, a new one or one of them -/
def rCatTB (K : PySem.W.Frag) : R2 := fun x y H Q => ∃ a b xs ys, x = .ref a ∧ y = .ref b ∧ SqT K H a xs ∧ SqT K H b ys ∧ xs.length + ys.length ≤ sizeLine ∧ ∀ p H', Same H H' → SqT K H' p (xs ++ ys) → Q (.ref p) H'
theorem op_catTB : OpR X (binaryOp .Add) (rCatTB X.K) := fun pins s σ H x y v u Q I rx ry ⟨a, b, xs, ys, h1, h2, h3, h4, h5, q⟩ =>
  op_catA pins s σ H x y v u Q I rx ry ⟨a, b, xs, ys, h1, h2, h3, h4, h5, fun e => q b H (.refl _) (by rw [e]; exact h4), fun _ e => q a H (.refl _) (by rw [e, List.append_nil]; exact h3), fun _ _ p n => q p _ (same_new n) (.inl (.inl upd_same))⟩
end
theorem small64' {n : Nat} (h : n ≤ 100) : n ≤ sizeLine := by
  have : sizeLine = 16777216 := by decide
  omega
/-- over zip of two lists -/
def lcZ {K : PySem.W.Frag} {a b : Addr} {xs ys : List V} {n : Nat} {g : TG} {tt : TT} {te : TE} {vs : List Nat} {σ : L2.St} {H1 : Hp} {D : Addr} {Qd : Hp → Prop} (hn : n = min xs.length ys.length)
    (Pv : Nat → Hp → Prop) (hD : H1 D = none) (h0 : ∀ H', Same H1 H' → H' D = some (.lst []) → Pv 0 H') (hG : ∀ i H, i ≤ n → Pv i H → SqL K H a xs ∧ SqL K H b ys)
    (hs : ∀ i x H H', i < n → Pv i H → YPair (fun i => xs[i]?) (fun i => ys[i]?) i H x H' → g x (wipe σ vs) H' fun σ2 H2 => wipe σ2 vs = wipe σ vs ∧ tt σ2 H2 fun b H3 =>
      if b = true then te σ2 H3 fun y H4 => ∃ acc, H4 D = some (.lst acc) ∧ acc.length < sizeLine ∧ Pv (i + 1) (upd H4 D (.lst (acc ++ [y]))) else Pv (i + 1) H3)
    (hd : ∀ H, Pv n H → Qd H) := lc_it (walk_zip (K := K) (a := a) (b := b) hn) (g := g) (tt := tt) (te := te) (vs := vs) (σ := σ) (H1 := H1) (D := D) (Qd := Qd) Pv (h0 _ (same_new hD) upd_same) hG hs hd
/-! ### the shares that the law tries -/
def ab (z : Int) : Int := if z < 0 then -z else z
def m1 (z : Int) : Int := if ab z > 1 then ab z else 1
def sgn (z : Int) : Int := if z > 0 then 1 else -1
def crs (first way W side : Int) : Int := (side - first) * (W / ab way) * sgn way
def crsR (g first way k W : Int) : List Int := if way ≠ 0 then [crs first way W (rimL g k), crs first way W (rimH g k)] else []
def wh (r : Ln) : Int := m1 (2 * (r.2.1 - r.1.1)) * m1 (2 * (r.2.2 - r.1.2))
def raw (g : Int) (r : Ln) (c : Pt) : List Int := [0, wh r] ++ crsR g (2 * r.1.1) (2 * (r.2.1 - r.1.1)) c.1 (wh r) ++ crsR g (2 * r.1.2) (2 * (r.2.2 - r.1.2)) c.2 (wh r)
def inB (g first way k W s : Int) : Bool := decide (2 * (2 * k - 1) * g * W ≤ first * 2 * W + way * s) && decide (first * 2 * W + way * s < 2 * (2 * k + 1) * g * W)
theorem ab_pos {z : Int} (h : z ≠ 0) : 0 < ab z := by unfold ab; split <;> omega
theorem m1_pos (z : Int) : 0 < m1 z := by unfold m1 ab; split <;> omega
theorem m1_of {z : Int} (h : z ≠ 0) : m1 z = ab z := by unfold m1 ab; split <;> (split <;> omega)
theorem m1_le {z B : Int} (h1 : -B ≤ z) (h2 : z ≤ B) (hB : 1 ≤ B) : m1 z ≤ B := by unfold m1 ab; split <;> (split <;> omega)
theorem wh_pos (r : Ln) : 0 < wh r := Int.mul_pos (m1_pos _) (m1_pos _)
theorem wh_le {r : Ln} (h : BdR 1100000 r) : wh r ≤ 2 ^ 45 := by
  obtain ⟨h1, h2⟩ := h
  unfold BdN at h1 h2
  have a1 := m1_le (z := 2 * (r.2.1 - r.1.1)) (B := 4400000) (by omega) (by omega) (by omega)
  have a2 := m1_le (z := 2 * (r.2.2 - r.1.2)) (B := 4400000) (by omega) (by omega) (by omega)
  have := Int.mul_le_mul a1 a2 (Int.le_of_lt (m1_pos _)) (by omega)
  unfold wh
  omega
theorem crs_eq {first way W side : Int} (hw : way ≠ 0) (hd : ab way ∣ W) : way * crs first way W side = (side - first) * W := by
  unfold crs
  obtain ⟨q, rfl⟩ := hd
  rw [Int.mul_ediv_cancel_left _ (by have := ab_pos hw; omega)]
  unfold ab sgn
  by_cases h : 0 < way
  · rw [if_pos (show way > 0 from h), if_neg (show ¬ way < 0 by omega)]
    generalize side - first = A
    rw [Int.mul_one, Int.mul_left_comm]
  · rw [if_neg (show ¬ way > 0 from h), if_pos (show way < 0 by omega)]
    generalize side - first = A
    rw [Int.mul_neg, Int.mul_one, Int.mul_neg, Int.neg_mul, Int.mul_neg, Int.mul_left_comm]
theorem ab_dvd1 {r : Ln} (h : 2 * (r.2.1 - r.1.1) ≠ 0) : ab (2 * (r.2.1 - r.1.1)) ∣ wh r := by
  unfold wh
  rw [← m1_of h]
  exact Int.dvd_mul_right _ _
theorem ab_dvd2 {r : Ln} (h : 2 * (r.2.2 - r.1.2) ≠ 0) : ab (2 * (r.2.2 - r.1.2)) ∣ wh r := by
  unfold wh
  rw [← m1_of h]
  exact Int.dvd_mul_left _ _
theorem inB_iff (g start step k W s : Int) : inB g (2 * start) (2 * step) k W s = true ↔ HO1 g start step k s (2 * W) := by
  unfold inB HO1
  rw [Bool.and_eq_true, decide_eq_true_eq, decide_eq_true_eq]
  have e1 : 2 * (2 * k - 1) * g * W = (2 * k - 1) * g * (2 * W) := by grind
  have e2 : 2 * (2 * k + 1) * g * W = (2 * k + 1) * g * (2 * W) := by grind
  have e3 : 2 * start * 2 * W + 2 * step * s = 2 * (start * (2 * W) + step * s) := by grind
  rw [e1, e2, e3]
def keepS (W s : Int) : Bool := decide (0 ≤ s) && decide (s ≤ W)
def mids (L : List Int) : List Int := (L.dropLast.zip L.tail).map fun z => (z.1 + z.2) / 2
def inC (g : Int) (r : Ln) (c : Pt) (s : Int) : Bool := inB g (2 * r.1.1) (2 * (r.2.1 - r.1.1)) c.1 (wh r) s && inB g (2 * r.1.2) (2 * (r.2.2 - r.1.2)) c.2 (wh r) s
theorem shares_end {g : Int} {r : Ln} {c : Pt} {L T : List Int} (hp : L.Perm (((raw g r c).filter (keepS (wh r))).map fun s => 2 * s)) (hs : L.Pairwise (· ≤ ·)) (ht : T.Perm (L ++ mids L)) :
    (T.filter (inC g r c) ≠ [] ↔ Meets g r c) := by
  have W0 := wh_pos r
  have mem : ∀ s, keepS (wh r) s = true → s ∈ raw g r c → 2 * s ∈ L := fun s h1 h2 => hp.mem_iff.mpr (List.mem_map.mpr ⟨s, List.mem_filter.mpr ⟨h2, h1⟩, rfl⟩)
  have kp : ∀ s : Int, 0 ≤ s → s ≤ wh r → keepS (wh r) s = true := fun s h1 h2 => by unfold keepS; rw [decide_eq_true h1, decide_eq_true h2]; rfl
  have t := tried (g := g) (r := r) (c := c) W0 hs (fun s hs => by
    obtain ⟨x, hx, rfl⟩ := List.mem_map.mp (hp.mem_iff.mp hs)
    have k := (List.mem_filter.mp hx).2
    unfold keepS at k
    rw [Bool.and_eq_true, decide_eq_true_eq, decide_eq_true_eq] at k
    exact ⟨x, rfl, k.1, k.2⟩) (by have := mem 0 (kp 0 (by omega) (by omega)) (by simp [raw]); simpa using this) (mem (wh r) (kp _ (by omega) (by omega)) (by simp [raw]))
    (fun hx side hside => by
      have h2 : 2 * (r.2.1 - r.1.1) ≠ 0 := by omega
      refine ⟨crs (2 * r.1.1) (2 * (r.2.1 - r.1.1)) (wh r) side, crs_eq h2 (ab_dvd1 h2), fun k0 k1 => mem _ (kp _ k0 k1) ?_⟩
      unfold raw crsR
      rw [if_pos h2]
      simp only [List.mem_cons, List.not_mem_nil, or_false] at hside
      rcases hside with rfl | rfl <;> simp)
    (fun hx side hside => by
      have h2 : 2 * (r.2.2 - r.1.2) ≠ 0 := by omega
      refine ⟨crs (2 * r.1.2) (2 * (r.2.2 - r.1.2)) (wh r) side, crs_eq h2 (ab_dvd2 h2), fun k0 k1 => mem _ (kp _ k0 k1) ?_⟩
      unfold raw crsR
      rw [if_pos h2]
      simp only [List.mem_cons, List.not_mem_nil, or_false] at hside
      rcases hside with rfl | rfl <;> simp)
  rw [t]
  have hin : ∀ s, inC g r c s = true ↔ HOc g r c s (2 * wh r) := fun s => by
    unfold inC HOc
    rw [Bool.and_eq_true, inB_iff, inB_iff]
  constructor
  · intro hne
    obtain ⟨s, hs⟩ := List.exists_mem_of_ne_nil _ hne
    obtain ⟨h1, h2⟩ := List.mem_filter.mp hs
    exact ⟨s, ht.mem_iff.mp h1, (hin s).mp h2⟩
  · rintro ⟨s, h1, h2⟩ e
    have : s ∈ T.filter (inC g r c) := List.mem_filter.mpr ⟨ht.mem_iff.mpr h1, (hin s).mpr h2⟩
    rw [e] at this
    cases this
theorem AllAt.one {α : Type} {R : V → α → Prop} {vs : List V} {x : α} (h : AllAt R vs [x]) : ∃ v, vs = [v] ∧ R v x := by
  match vs, h with
  | [v], .cons h .nil => exact ⟨v, rfl, h⟩
theorem shapedPts (ps : List Pt) : SeqAt.shaped (.list (ps.map pd)) = true := by
  have h1 : ∀ ps : List Pt, PyData.canLayAll0 (ps.map pd) = true := by
    intro ls
    induction ls with
    | nil => rfl
    | cons n r ih => simp [PyData.canLayAll0, PyData.canLay0, pd, ih]
  have h2 : ∀ ps : List Pt, PyData.depthAll (ps.map pd) ≤ 1 := by
    intro ls
    induction ls with
    | nil => decide
    | cons n r ih =>
      simp only [List.map_cons, PyData.depthAll]
      have : (pd n).depth = 1 := by simp [pd, PyData.depth, PyData.depthAll]
      omega
  have h3 := h2 ps
  simp [SeqAt.shaped, PyData.canLay0, PyData.depth, h1]
  omega
theorem eqvNilP (ps : List Pt) : PyData.eqv (.list (ps.map pd)) (.list []) = ps.isEmpty := by
  cases ps <;> simp [PyData.eqv, PyData.eqvAll]
theorem pts_dp {K : PySem.W.Frag} {H : Hp} : ∀ {ws : List V} {ps : List Pt}, AllAt (At2 K H) ws ps → DpAll K H ws (ps.map pd)
  | _, _, .nil => .nil
  | _, _, .cons h t => .cons h.dp (pts_dp t)
end Cl

namespace Cl
open PySem PySem.Spec PyProof.Rows L2
/-! ### enumerate(tuple) -/
set_option maxHeartbeats 1000000 in
theorem meets_enum1B {v : Value} {o : Obj} {H : Heap → Prop} (B : Begins v o H) :
    _root_.PySem.Meets (Builtin.«enumerate.__new__» ⟨[.type "enumerate", v], []⟩) (fun _ R s => H s.heap ∧
      R (.ok (.ret (.ref (s.heap.push o).objs.size))) { s with heap := (s.heap.push o).push { cls := .type "enumerate", data := .fields #[.none, .bool false, .ref s.heap.objs.size, rawInt 0, .none, .none] } }) :=
  .of_wp fun prog w A R s h => by
    obtain ⟨hp, g, d, tk, os⟩ := s; obtain ⟨h1, h⟩ := h
    have hsub := sub_enumerate
    have q1 : ∀ {A' : Around} {E : Value → Shared → Prop} {Q : Value → Shared → Prop}, Q (.ref hp.objs.size) ⟨hp.push o, g, d, tk, os⟩ → wpAny (model prog w) A' (pyIter v) Q E ⟨hp, g, d, tk, os⟩ :=
      fun q => B.iter prog w _ _ ⟨hp, g, d, tk, os⟩ _ h1 q
    wp_walk using q1
    refine wpAny_stack_any fun st => wpAny_pure ?_
    split
    · rename_i c _ _ _ _ _
      cases (c == Value.type "enumerate")
      · wp_walk using q1
        exact ⟨_, rfl, h⟩
      · wp_walk using q1
        exact ⟨_, rfl, h⟩
    · wp_walk using q1
      exact ⟨_, rfl, h⟩
theorem enum_begins1 {prog : Program} {w : World} {A : Around} {E : Value → Shared → Prop} {s : Shared} {v : Value} {o : Obj} {H : Heap → Prop} {Q : Value → Shared → Prop} (B : Begins v o H) (h1 : H s.heap)
    (h : ∀ h', IsEnum h' (s.heap.objs.size + 1) s.heap.objs.size 0 .none → h'.get? s.heap.objs.size = some o → h'.objs.size = s.heap.objs.size + 2 →
      (∀ b o, s.heap.get? b = some o → h'.get? b = some o) → Q (.ref (s.heap.objs.size + 1)) { s with heap := h' }) :
    wpAny (model prog w) A (call (.type "enumerate") [v]) Q E s := by
  refine callType_new F.called_enumerate (by decide) (F.typeCall_enumerate_1 _) (F.newCall_enumerate_1 _) (fun obj => F.args_object_init_2 obj _) F.entry_enumerate_new
    (meets_enum1B B) ⟨h1, ?_⟩
  have hz : (s.heap.push o).objs.size = s.heap.objs.size + 1 := Heap.size_push ..
  show _ ∧ _
  rw [hz]
  have he : IsEnum ((s.heap.push o).push { cls := .type "enumerate", data := .fields #[.none, .bool false, .ref s.heap.objs.size, rawInt 0, .none, .none] }) (s.heap.objs.size + 1) s.heap.objs.size 0 .none := by
    have := Heap.get?_push_size (s.heap.push o) (o := { cls := .type "enumerate", data := .fields #[.none, .bool false, .ref s.heap.objs.size, rawInt 0, .none, .none] }) rfl
    rw [hz] at this; exact this
  refine ⟨⟨_, he, rfl⟩, h _ he (Heap.get?_push_of_some _ (Heap.get?_push_size _ B.free)) (by rw [Heap.size_push, hz]) fun b o x => Heap.get?_push_of_some _ (Heap.get?_push_of_some _ x)⟩
def Iet (K : PySem.W.Frag) (a : Addr) : It :=
  ⟨fun i H => ∃ (xs : List V) (x : V), SqT K H a xs ∧ xs[i]? = some x, fun i H v H' => ∃ T x, v = .ref T ∧ H T = none ∧ H' = upd H T (.tup [.int (i : Nat), x]) ∧ ∀ xs, SqT K H a xs → xs[i]? = some x, fun i H => ∃ xs : List V, SqT K H a xs ∧ xs.length = i⟩
theorem turn_enumT {P : Program} {w : World} {K : PySem.W.Frag} {elts : List Expr} {kk : Nat} {tpos : Pos} {a e it : Addr} (hei : e ≠ it) (hea : e ≠ a) (hia : it ≠ a) :
    Turn P w K (.Tuple elts kk tpos) (Iet K a) [e, it] e (fun i h => (∃ old, IsEnum h e it ((i : Nat) : Int) old) ∧ h.IsTupleIter it a i) where
  mem := by simp
  obj := fun i h st b hb => by
    obtain ⟨⟨old, he⟩, ⟨o, ho, hc, hd⟩⟩ := st
    have e' : b = e ∨ b = it := by simpa using hb
    rcases e' with z | z
    · rw [z]; exact ⟨_, he, fun v q => nomatch q⟩
    · rw [z]; exact ⟨o, ho, fun v q => by rw [hd] at q; cases q⟩
  keep := fun i h h' st k => let ⟨⟨old, he⟩, hi⟩ := st; ⟨⟨old, k e (by simp) _ he⟩, hi.at fun o q => k it (by simp) o q⟩
  item := by
    intro X hP hw hK hc i pins s σ H E I hf st hg
    subst hP hw hK
    obtain ⟨⟨old, he⟩, hit⟩ := st
    obtain ⟨xs, x, hq, hx⟩ := hg
    obtain ⟨its, rv, p, hz⟩ := I.tuple hq
    obtain ⟨u, hu, ru⟩ := rv.get hx
    have hl := rv.length
    have hlt : i < xs.length := (List.getElem?_eq_some_iff.mp hx).1
    have hh : X.A.in1.handled = none := I.ok.hd hc
    have W := GoesN.enumFrom (elts := elts) (x1 := kk) (pos := tpos) 0 (Draws.tuple (prog := X.prog) (w := X.w) hh it a (Ne.symm hia) its.toArray) e hei (by simp [hei, hea]) (by simp)
    refine W.goes i s _ E (by simp; omega) ⟨⟨old, by rw [Int.zero_add]; exact he⟩, hit, p⟩ fun v h' tk hY st' hk htk => ?_
    obtain ⟨T, t, y, rfl, hT, hy, hTup⟩ := hY
    obtain ⟨⟨old', he'⟩, hit', _⟩ := st'
    rw [Int.zero_add] at hTup he'
    have ey : u = y := by
      have h1 : its.toArray[i]? = some y := hy
      have h2 : its[i]? = some y := by simpa using h1
      rw [hu] at h2
      exact Option.some.inj h2
    subst ey
    have new : ObjOk X.prog X.w (upd H T (.tup [.int (i : Nat), x])) h' T (.tup [.int (i : Nat), x]) :=
      ⟨by show 2 ≤ sizeLine; decide, [_, u], .cons ⟨_, rfl⟩ (.cons ru .nil), hTup⟩
    have I1 := I.turnedNew (t' := tk) (ch := [e, it]) (fun d o hd q => hk d o hd q) hf hT new
    refine ⟨.ref T, _, I1, rfl, ⟨T, x, rfl, I.hok.fresh hT, rfl, fun ys hy => by rw [I.tuple_inj hy hq]; exact hx⟩, ⟨⟨old', he'⟩, hit'⟩, fun b hb => ?_⟩
    have hb' : b < s.heap.objs.size := by
      have e' : b = e ∨ b = it := by simpa using hb
      rcases e' with z | z
      · rw [z]; exact Heap.lt_size he
      · rw [z]; obtain ⟨_, q, _⟩ := hit; exact Heap.lt_size q
    rw [upd_ne (Nat.ne_of_lt (Nat.lt_of_lt_of_le hb' hT))]
    exact (hf b hb).1
  done := by
    intro X hP hw hK hc i pins s σ H E I hf st hg
    subst hP hw hK
    obtain ⟨⟨old, he⟩, hit⟩ := st
    obtain ⟨xs, hq, hx⟩ := hg
    obtain ⟨its, rv, p, hz⟩ := I.tuple hq
    have hl := rv.length
    have hh : X.A.in1.handled = none := I.ok.hd hc
    have W := GoesN.enumFrom (elts := elts) (x1 := kk) (pos := tpos) 0 (Draws.tuple (prog := X.prog) (w := X.w) hh it a (Ne.symm hia) its.toArray) e hei (by simp [hei, hea]) (by simp)
    have hi : i = its.toArray.size := by simp; omega
    subst hi
    exact W.stops s _ E ⟨⟨old, by rw [Int.zero_add]; exact he⟩, hit, p⟩ fun h' tk hk htk => I.turnedL (t' := tk) (ch := [e, it]) (fun d o hd q => hk d o hd q) hf
  self := fun A i s Q E st h => let ⟨⟨_, he⟩, _⟩ := st; wpAny_pyIter_enum he h
def iEnumT (K : PySem.W.Frag) (ta : TA) : TI := fun σ H R => ta σ H fun vs H1 => ∃ a xs, vs = [.ref a] ∧ SqT K H1 a xs ∧ R (Iet K a) H1
theorem pi_enumT {X : Cx} {e : Expr} {ta : TA} {p pos tpos : Pos} {elts : List Expr} {kk : Nat} (hg : Gl X "enumerate") (hm : X.mg "enumerate" = none) (ha : PA X [e] ta) (hs : starEach [e] X.env = [(false, eval e X.env)] := by rfl) :
    PI X (.Tuple elts kk tpos) (.Call (.Name "enumerate" p) [e] [] pos) (iEnumT X.K ta) := by
  refine ⟨fun pins s σ H R I h => ?_⟩
  refine Call_ (ld_blt I hg hm boot_enumerate (PyProof.Rows.callWith_type1 (thn (ha.run pos pins s σ H _ I h) fun us s1 ⟨vs, H1, I1, r1, q1⟩ => ?_) hs rfl))
  obtain ⟨a, xs, ex, hq, q⟩ := q1
  subst ex
  cases r1 with
  | cons r rr =>
    cases rr
    cases r
    obtain ⟨its, rv, p', hz⟩ := I1.tuple hq
    have la : a < s1.heap.objs.size := by obtain ⟨o1, g1, _⟩ := id p'; exact Heap.lt_size g1
    refine enum_begins1 (begins_tuple a its.toArray) p' fun h' he hit hsz hk => wpAny_pyIter_enum he ?_
    have I2 : Inv X pins σ H1 { s1 with heap := h' } := I1.kept (t' := s1.toks) hk
    refine ⟨s1.heap.objs.size + 1, [s1.heap.objs.size + 1, s1.heap.objs.size], _, _, H1, rfl, I2, turn_enumT (Nat.succ_ne_self _) (Nat.ne_of_gt (Nat.lt_succ_of_lt la)) (Nat.ne_of_gt la), ⟨⟨.none, he⟩, ⟨_, hit, rfl, rfl⟩⟩, fun b hb => ?_, q⟩
    have e' : b = s1.heap.objs.size + 1 ∨ b = s1.heap.objs.size := by simpa using hb
    have hle : s1.heap.objs.size ≤ b := by
      rcases e' with z | z
      · rw [z]; exact Nat.le_add_right _ _
      · rw [z]; exact Nat.le_refl _
    exact I1.fpOk hle (I1.hok.fresh hle)
theorem for_enumT {K : PySem.W.Frag} {a : Addr} {xs : List V} {g : TG} {tb : TS} {D : Ends} {σ : L2.St} {H : Hp} (Pv : Nat → L2.St → Hp → Prop) (h0 : Pv 0 σ H) (hq : ∀ i σ H, Pv i σ H → SqT K H a xs)
    (hs : ∀ (i : Nat) (x : V) (T : Addr) (σ : L2.St) (H : Hp), xs[i]? = some x → Pv i σ H → H T = none → g (.ref T) σ (upd H T (.tup [.int (i : Nat), x])) fun σ2 H2 => tb { D with nx := Pv (i + 1), ct := Pv (i + 1), bk := D.nx } σ2 H2) (hd : ∀ σ H, Pv xs.length σ H → D.nx σ H) :
    ∃ W : Nat → Nat → L2.St → Hp → Prop, (∃ m, W 0 m σ H) ∧ ∀ i m σ H, W i m σ H →
      ((Iet K a).stop i H ∧ D.nx σ H) ∨ ((Iet K a).go i H ∧ ∃ N : L2.St → Hp → Prop, (∀ σ' H', N σ' H' → ∃ m', m' < m ∧ W (i + 1) m' σ' H') ∧ ∀ v H', (Iet K a).yld i H v H' → g v σ H' fun σ2 H2 => tb { D with nx := N, ct := N, bk := D.nx } σ2 H2) := by
  refine ⟨fun i m σ H => m = xs.length - i ∧ i ≤ xs.length ∧ Pv i σ H, ⟨xs.length, rfl, Nat.zero_le _, h0⟩, ?_⟩
  rintro i m σ H ⟨rfl, hi, p⟩
  have qx := hq i σ H p
  by_cases hlt : i < xs.length
  · refine .inr ⟨⟨xs, xs[i], qx, List.getElem?_eq_getElem hlt⟩, Pv (i + 1), fun σ' H' p' => ⟨xs.length - (i + 1), by omega, rfl, hlt, p'⟩, fun v H' y => ?_⟩
    obtain ⟨T, x', rfl, hT, rfl, f1⟩ := y
    exact hs i x' T σ H (f1 xs qx) p hT
  · have e : i = xs.length := by omega
    subst e
    exact .inl ⟨⟨xs, qx, rfl⟩, hd σ H p⟩
/-! ### xs == [] -/
def rEqNil (K : PySem.W.Frag) : R2 := fun x y H Q => ∃ a b xs, x = .ref a ∧ y = .ref b ∧ SqL K H a xs ∧ SqL K H b [] ∧ Q (.bl xs.isEmpty) H
theorem op_eqNil {X : Cx} (hu : X.A.units + 64 < cLine) : OpR X (compareOp .Eq) (rEqNil X.K) := by
  intro pins s σ H x y v u Q I rx ry h
  obtain ⟨a, b, xs, rfl, rfl, ha, hb, q⟩ := h
  cases rx
  cases ry
  obtain ⟨its, rv, p, _⟩ := I.list ha
  obtain ⟨its2, rv2, p2, _⟩ := I.list hb
  cases rv2
  cases xs with
  | nil =>
    cases rv
    refine SeqAt.eq_listAt (e := fun _ => true) p.isList p2.isList rfl (by omega) (fun j h1 _ => absurd h1 (Nat.not_lt_zero _)) ?_
    exact ⟨.bl _, H, I, rfl, q⟩
  | cons x xs =>
    have hl := rv.length
    refine SeqAt.eq_list_lengthsAt p.isList p2.isList ?_ (by omega) ?_
    · rw [bne_iff_ne]
      simp only [List.size_toArray, List.length_nil]
      rw [← hl]
      simp
    · exact ⟨.bl _, H, I, rfl, q⟩
def rNeNil (K : PySem.W.Frag) : R2 := fun x y H Q => ∃ a b xs, x = .ref a ∧ y = .ref b ∧ SqL K H a xs ∧ SqL K H b [] ∧ Q (.bl (!xs.isEmpty)) H
section
variable {X : Cx} {K : PySem.W.Frag}
theorem op_eqNilk (hK : X.K = K) (hu : X.A.units + 64 < cLine) : OpR X (compareOp .Eq) (rEqNil K) := hK ▸ op_eqNil hu
theorem op_catTBk (hK : X.K = K) : OpR X (binaryOp .Add) (rCatTB K) := hK ▸ op_catTB
theorem call_reprk (hK : X.K = K) (hg : X.A.guards = some []) (hu : X.A.units + 64 < cLine) : CallR X (.builtin "repr") (rReprF K) := hK ▸ call_repr hg hu
theorem sl_tupBk (hK : X.K = K) : SlR X (rSlTB K) := hK ▸ sl_tupB
end
theorem acc_new {H5 H' : Hp} {pD : Addr} {ws : List V} {y : V} (nD : H5 pD = none) (t1 : Same H5 H') (e : H' pD = some (.lst ws)) (len : ws.length ≤ 900) :
    ∃ acc, H' pD = some (.lst acc) ∧ acc.length < sizeLine ∧ Same H5 (upd H' pD (.lst (acc ++ [y]))) ∧ (upd H' pD (.lst (acc ++ [y]))) pD = some (.lst (ws ++ [y])) := by
  refine ⟨ws, e, small1000 (by omega), fun b o z => ?_, upd_same⟩
  rw [upd_ne (ne_of_none z nD)]
  exact t1 _ _ z
theorem Same.seq {K : PySem.W.Frag} {H H' : Hp} {a : Addr} {xs : List V} (s : Same H H') (h : SqL K H a xs) : SqL K H' a xs := by
  rcases h with (h | ⟨o, h⟩) | h
  · exact .inl (.inl (s _ _ h))
  · exact .inl (.inr ⟨o, s _ _ h⟩)
  · exact .inr h
/-- a promise that nothing keeps: for a def's own calls at its last level -/
def spNever : Sp := fun _ _ _ _ => False
theorem never {P : Program} {w : World} {K : PySem.W.Frag} {mg : Str → Option Value} {base : Heap} {k : Nat} {f : Addr} {fd : FuncData} {ps : List Str} : FnG P w K mg base CX0 k f fd ps spNever :=
  ⟨fun _ _ _ _ h => h.elim, fun _ _ _ _ _ _ _ _ _ _ _ _ _ h => h.elim⟩
end Cl

namespace Cl
open PySem PySem.Spec PyProof.Rows L2
open GxR (TabB TabG Tabbed GenS inv_tab sh_eta)
/-! ### a tuple of tuples, walked -/
theorem letOwned_tupleiter {prog : Program} {w : World} {A : Around} {E : Value → Shared → Prop} {s : Shared} {elts : List Expr} {x1} {pos : Pos} {I l T : Addr} {i : Nat} {Q : Unit → Shared → Prop} (hit : s.heap.IsTupleIter I l i) (hQ : Q () s) :
    wpAny (model prog w) A (letOwnedTupleGo (.Tuple elts x1 pos) (.ref I) (.ref T)) Q E s := by
  obtain ⟨o, ho, hc, hd⟩ := hit
  unfold letOwnedTupleGo
  refine wpAny_bind (wpAny_load ho ?_)
  rw [hc, hd]
  show wpAny _ A (if (["enumerate", "zip", "dict_itemiterator", "dict_reverseitemiterator", "odict_iterator", "itertools.zip_longest", "itertools.pairwise"].contains "tuple_iterator" &&
      (#[.ref l, .int i 0] : Array Value)[0]? == some (rawInt T)) = true then _ else _) Q E s
  rw [if_neg (by
    intro h
    rw [show (["enumerate", "zip", "dict_itemiterator", "dict_reverseitemiterator", "odict_iterator", "itertools.zip_longest", "itertools.pairwise"].contains "tuple_iterator") = false from by decide, Bool.false_and] at h
    cases h)]
  exact wpAny_pure hQ
theorem walksTT {prog : Program} {w : World} {A : Around} (hh : A.handled = none) (I ax : Addr) (hne : ax ≠ I) (items : Array Value) (Ts : Nat → Addr) (vals : Nat → Array Value)
    (hit : ∀ j, j < items.size → items[j]? = some (.ref (Ts j))) (hTI : ∀ j, j < items.size → Ts j ≠ I) :
    WalksU prog w A I (I :: ax :: (List.range items.size).map Ts) [I] items.size (fun j v => j < items.size ∧ v = vals j)
      (fun j h => h.IsTupleIter I ax j ∧ h.IsTuple ax items ∧ ∀ k, k < items.size → h.IsTuple (Ts k) (vals k))
      (fun j T h => (j < items.size ∧ T = Ts j) ∧ h.IsTupleIter I ax (j + 1) ∧ h.IsTuple ax items ∧ ∀ k, k < items.size → h.IsTuple (Ts k) (vals k)) where
  sub := fun b hb => by simp at hb; simp [hb]
  frame := fun _ _ _ st hk => ⟨st.1.at fun o e => hk I (by simp) o e, st.2.1.at fun o e => hk ax (by simp) o e,
    fun k hk' => (st.2.2 k hk').at fun o e => hk (Ts k) (List.mem_cons_of_mem _ (List.mem_cons_of_mem _ (List.mem_map.mpr ⟨k, List.mem_range.mpr hk', rfl⟩))) o e⟩
  item := fun i s Q E hi st hQ => by
    refine wpAny_pyNext_tuple_item st.1 st.2.1 (x := .ref (Ts i)) (hit i hi) fun h' hit' hs' => ?_
    have tup : ∀ k, k < items.size → h'.IsTuple (Ts k) (vals k) := fun k hk' => (st.2.2 k hk').extBut hs'.extBut (hTI k hk')
    exact hQ (Ts i) (vals i) h' s.toks ⟨hi, rfl⟩ (tup i hi) ⟨⟨hi, rfl⟩, hit', st.2.1.extBut hs'.extBut hne, tup⟩ fun b o hb e => hs'.extBut b o (fun h => hb (by simp [h])) e
  go := fun _ _ _ _ _ s Q _ hm hQ => letOwned_tupleiter hm.2.1 (hQ s.heap hm.2 fun _ _ _ e => e)
  apart := fun j T _ hm hmem => by
    rcases List.mem_cons.mp hmem with e | e
    · exact hTI j hm.1.1 (hm.1.2 ▸ e)
    · cases e
  done := fun s Q E st hQ => wpAny_pyNext_tuple_end hh st.1 st.2.1 (by simp) fun h' he' => hQ h' s.toks fun b o hb e => he' b o (fun h => hb (by simp [h])) e
  self := fun _ _ _ _ st hQ => wpAny_pyIter_tupleiter st.1 hQ
/-! ### expressions of whole numbers, evaluated quietly -/
def Sees (P : Program) (w : World) (env : Env) (h : Heap) (e : Expr) (v : V) : Prop :=
  ∀ (A : Around) (E : Value → Shared → Prop) (Q : Value → Shared → Prop) (s : Shared), s.heap = h → (∀ u k, RelV v u → Q u { s with toks := k }) → wpAny (model P w) A (eval e env) Q E s
section
variable {P : Program} {w : World} {env : Env} {h : Heap} {x : Str} {a b : Expr} {i j : Int} {pos : Pos}
theorem sees_loc {m : Str → Option Value} {t : Tok} (hk : env.scope.kind = .function) (hl : env.scope.names.lookup x = some .local) (hn : h.Ns env.locals m) (hm : m x = some (.int i t)) (hd : (x == ("__debug__" : Str)) = false := by decide) : Sees P w env h (.Name x pos) (.int i) :=
  fun A E Q s hs q => wpAny_Name (wpAny_loadName_local hk hl (hs ▸ hn) hm (q _ s.toks ⟨t, rfl⟩)) hd
theorem sees_free {c : Addr} {t : Tok} (hk : env.scope.kind = .function) (hl : env.scope.names.lookup x = some .free) (hc : env.cells.lookup x = some c) (hv : h.IsCell c (some (.int i t))) (hd : (x == ("__debug__" : Str)) = false := by decide)
    (hcd : (x == ("__classdict__" : Str)) = false := by decide) : Sees P w env h (.Name x pos) (.int i) :=
  fun A E Q s hs q => wpAny_Name (wpAny_loadName_free hk hl hc (hs ▸ hv) (q _ s.toks ⟨t, rfl⟩) hcd) hd
theorem sees_int {k : Nat} : Sees P w env h (.Constant (.int i) k pos) (.int i) := fun A E Q s hs q => wpAny_Constant_int (q _ _ ⟨_, rfl⟩)
theorem sees_add (ha : Sees P w env h a (.int i)) (hb : Sees P w env h b (.int j)) : Sees P w env h (.BinOp a .Add b pos) (.int (i + j)) := fun A E Q s hs q => by
  refine wpAny_BinOp (ha A _ _ s hs fun u k r => hb A _ _ _ hs fun u' k' r' => ?_)
  obtain ⟨t, rfl⟩ := r
  obtain ⟨t', rfl⟩ := r'
  exact add_int (q _ _ ⟨_, rfl⟩)
theorem sees_mul (ha : Sees P w env h a (.int i)) (hb : Sees P w env h b (.int j)) (c : IntMulOk i j) : Sees P w env h (.BinOp a .Mult b pos) (.int (i * j)) := fun A E Q s hs q => by
  refine wpAny_BinOp (ha A _ _ s hs fun u k r => hb A _ _ _ hs fun u' k' r' => ?_)
  obtain ⟨t, rfl⟩ := r
  obtain ⟨t', rfl⟩ := r'
  exact mul_int (q _ _ ⟨_, rfl⟩) c
theorem sees_lt (ha : Sees P w env h a (.int i)) (hb : Sees P w env h b (.int j)) : Sees P w env h (.Compare a [.Lt] [b] pos) (.bl (decide (i < j))) := fun A E Q s hs q => by
  refine wpAny_Compare1 (ha A _ _ s hs fun u k r => hb A _ _ _ hs fun u' k' r' => ?_) (nomark b)
  obtain ⟨t, rfl⟩ := r
  obtain ⟨t', rfl⟩ := r'
  exact lt_int (q _ _ rfl)
theorem sees_gt (ha : Sees P w env h a (.int i)) (hb : Sees P w env h b (.int j)) : Sees P w env h (.Compare a [.Gt] [b] pos) (.bl (decide (j < i))) := fun A E Q s hs q => by
  refine wpAny_Compare1 (ha A _ _ s hs fun u k r => hb A _ _ _ hs fun u' k' r' => ?_) (nomark b)
  obtain ⟨t, rfl⟩ := r
  obtain ⟨t', rfl⟩ := r'
  exact gt_int (q _ _ rfl)
theorem sees_ge (ha : Sees P w env h a (.int i)) (hb : Sees P w env h b (.int j)) : Sees P w env h (.Compare a [.GtE] [b] pos) (.bl (decide (j ≤ i))) := fun A E Q s hs q => by
  refine wpAny_Compare1 (ha A _ _ s hs fun u k r => hb A _ _ _ hs fun u' k' r' => ?_) (nomark b)
  obtain ⟨t, rfl⟩ := r
  obtain ⟨t', rfl⟩ := r'
  exact ge_int (q _ _ rfl)
end
theorem cl_lookup {cells : List (Str × Addr)} {names : List (Str × NameKind)} {n : Str} {c : Addr} (h : (n, NameKind.free) ∈ names) (hc : cells.lookup n = some c) : (cloFrom cells names []).lookup n = some c := by
  have hm := cloFrom_has (cells := cells) (acc := []) h
  cases q : (cloFrom cells names []).lookup n with
  | none =>
    have : ∀ (L : List (Str × Addr)), L.lookup n = none → ∀ c, (n, c) ∉ L := fun L => by
      induction L with
      | nil => intro _ c z; cases z
      | cons y L ih =>
        obtain ⟨y1, y2⟩ := y
        intro e c z
        rw [List.lookup_cons] at e
        split at e
        · cases e
        · rename_i hb
          rcases List.mem_cons.mp z with z | z
          · cases z
            simp at hb
          · exact ih e c z
    exact absurd hm (this _ q _)
  | some c' =>
    have : ∀ (L : List (Str × Addr)) c', L.lookup n = some c' → (n, c') ∈ L := fun L => by
      induction L with
      | nil => intro c' z; cases z
      | cons y L ih =>
        obtain ⟨y1, y2⟩ := y
        intro c' e
        rw [List.lookup_cons] at e
        split at e
        · rename_i hb
          cases e
          rw [eq_of_beq hb]
          exact List.mem_cons_self ..
        · exact List.mem_cons_of_mem _ (ih _ e)
    rcases cloFrom_mem (this _ _ q) with z | ⟨_, z⟩
    · cases z
    · rw [z, hc]
      rfl
/-- a captured whole number -/
def CapI (cells : List (Str × Addr)) (h : Heap) (n : Str) (i : Int) : Prop := ∃ c t, cells.lookup n = some c ∧ h.IsCell c (some (.int i t))

theorem CapI.keeps {cells : List (Str × Addr)} {h h' : Heap} {n : Str} {i : Int} {P : Addr} {vs : Array Value} (x : CapI cells h n i) (hP : ∃ o, h.get? P = some o ∧ o.data = .fields vs) (k : ∀ b o, b ≠ P → h.get? b = some o → h'.get? b = some o) : CapI cells h' n i := by
  obtain ⟨c, t, e, o, g, d⟩ := x
  refine ⟨c, t, e, o, k c o (fun z => ?_) g, d⟩
  obtain ⟨o', g', d'⟩ := hP
  rw [z, g'] at g
  cases g
  rw [d] at d'
  cases d'
/-- the element: a test of the pair (x, y) and three captured whole numbers -/
def EltP (P : Program) (w : World) (scope : Scope) (xa xb n1 n2 n3 : Str) (elt : Expr) (C : Int → Int → Int → Int × Int → Prop) (f : Int → Int → Int → Int × Int → Bool) : Prop :=
  ∀ (cenv : Env) (h : Heap) (i1 i2 i3 x y : Int) (tx ty : Tok) (m : Str → Option Value), cenv.scope = scope → CapI cenv.cells h n1 i1 → CapI cenv.cells h n2 i2 → CapI cenv.cells h n3 i3 →
    h.Ns cenv.locals m → m xa = some (.int x tx) → m xb = some (.int y ty) → C i1 i2 i3 (x, y) → Sees P w cenv h elt (.bl (f i1 i2 i3 (x, y)))
structure GenP (env : Env) (scope : Scope) (xa xb n1 n2 n3 : Str) : Prop where
  kind : scope.kind = .function
  co : scope.isCoroutine = false
  cell : ∀ y ∈ scope.names, y.2 ≠ .cell
  dot : scope.names.lookup (".0" : Str) = some NameKind.local
  la : scope.names.lookup xa = some .local
  lb : scope.names.lookup xb = some .local
  ab : xa ≠ xb
  f1 : (n1, NameKind.free) ∈ scope.names
  f2 : (n2, NameKind.free) ∈ scope.names
  f3 : (n3, NameKind.free) ∈ scope.names
  free : ∀ y ∈ scope.names, y.2 = .free → y.1 = n1 ∨ y.1 = n2 ∨ y.1 = n3
  c1 : env.scope.names.lookup n1 = some .cell
  c2 : env.scope.names.lookup n2 = some .cell
  c3 : env.scope.names.lookup n3 = some .cell
  e1 : (env.cells.lookup n1).isSome = true
  e2 : (env.cells.lookup n2).isSome = true
  e3 : (env.cells.lookup n3).isSome = true
def tAllP (K : PySem.W.Frag) (P : Addr) (s1 s2 s3 : Nat) (C : Int → Int → Int → Int × Int → Prop) (f : Int → Int → Int → Int × Int → Bool) (te : TE) : TE := fun σ H Q => te σ H fun v H1 => ∃ (a : Addr) (vs : List V) (ps : List (Int × Int)) (i1 i2 i3 : Int), v = .ref a ∧ SqT K H1 a vs ∧ AllAt (At2 K H1) vs ps ∧
  σ[s1]? = some (some (.int i1)) ∧ σ[s2]? = some (some (.int i2)) ∧ σ[s3]? = some (some (.int i3)) ∧ (∀ p ∈ ps, C i1 i2 i3 p) ∧ TabG H1 P ∧ ∀ H2, Same H1 H2 → TabG H2 P → Q (.bl (ps.all (f i1 i2 i3))) H2
theorem cap_of {X : Cx} {pins : List (Addr × Obj)} {σ : L2.St} {H : Hp} {s : Shared} {i : Nat} {n : Str} {z : Int} (I : Inv X pins σ H s) (hN : X.N[i]? = some n) (hc : X.env.scope.names.lookup n = some .cell) (e : σ[i]? = some (some (.int z))) :
    CapI X.env.cells s.heap n z := by
  obtain ⟨m, hn, hl⟩ := I.loc
  obtain ⟨u, r, l⟩ := hl i n _ hN e (.inr (.inl hc))
  obtain ⟨t, rfl⟩ := r
  rcases l with ⟨hk, _⟩ | ⟨_, c, hc', hcell⟩
  · have : X.env.scope.names.lookup n = some .local := hk
    rw [hc] at this
    cases this
  · exact ⟨c, t, hc', hcell⟩

section
variable {X : Cx}
theorem pe_allP {c P : Addr} {elt iter : Expr} {xa xb n1 n2 n3 : Str} {pa pb pt p pos gpos : Pos} {kt : Nat} {scope : Scope} {te : TE} {k s1 s2 s3 : Nat} {C : Int → Int → Int → Int × Int → Prop} {f : Int → Int → Int → Int × Int → Bool}
    (hr : Room k X.A) (hg : Gl X "all") (hm : X.mg "all" = none) (TB : TabB X.base X.mg c P) (hcode : X.env.code = .ref c) (hi : PE X iter te) (S : GenP X.env scope xa xb n1 n2 n3)
    (hN1 : X.N[s1]? = some n1) (hN2 : X.N[s2]? = some n2) (hN3 : X.N[s3]? = some n3) (hel : EltP X.prog X.w scope xa xb n1 n2 n3 elt C f)
    (hs : ∀ v, genFold iter X.env v = pure v := by intro _; rfl)
    (he : starEach [.GeneratorExp elt [⟨.Tuple [.Name xa pa, .Name xb pb] kt pt, iter, [], 0⟩] scope gpos] X.env = (false, eval (.GeneratorExp elt [⟨.Tuple [.Name xa pa, .Name xb pb] kt pt, iter, [], 0⟩] scope gpos) X.env) :: starEach [] X.env := by rfl) :
    PE X (.Call (.Name "all" p) [.GeneratorExp elt [⟨.Tuple [.Name xa pa, .Name xb pb] kt pt, iter, [], 0⟩] scope gpos] [] pos) (tAllP X.K P s1 s2 s3 C f te) := by
  have isS : ∀ {o : Option Addr}, o.isSome = true → ∃ c, o = some c := fun {o} h => by cases o with
    | none => cases h
    | some c => exact ⟨c, rfl⟩
  have hfree : ∀ y ∈ scope.names, y.2 = .free → ∃ c, X.env.cells.lookup y.1 = some c := fun y hy e => by
    rcases S.free y hy e with z | z | z <;> rw [z]
    · exact isS S.e1
    · exact isS S.e2
    · exact isS S.e3
  refine ⟨fun pins s σ H Q I h => ?_⟩
  refine wpAny_Call_Name_kw (ld_blt I hg hm PyProof.Rows.boot_all ?_)
  refine PyProof.Rows.callWith_builtin1 ?_ he (by rfl)
  rw [he]
  show wpAny _ _ (spliced ((false, eval (.GeneratorExp elt [⟨.Tuple [.Name xa pa, .Name xb pb] kt pt, iter, [], 0⟩] scope gpos) X.env) :: backTo pos (starEach [] X.env))) _ _ s
  refine Calls.spliced_cons ?_
  refine wpAny_GeneratorExp_walksQTD hr.hd S.co (closure_ok hfree) S.cell S.dot S.la S.lb S.ab S.kind (by have := hr.dp; omega) ?_ hs
  refine thn (hi.run pins s σ H _ I h) fun xv s1' ⟨v, H1, I1, r1, q1⟩ => ?_
  obtain ⟨a, vs, prs, i1, i2, i3, rfl, hS, hall, g1, g2, g3, hC, hT, q⟩ := q1
  cases r1
  have k1 := cap_of I1 hN1 S.c1 g1
  have k2 := cap_of I1 hN2 S.c2 g2
  have k3 := cap_of I1 hN3 S.c3 g3
  have cl : ∀ {n : Str} {i : Int}, (n, NameKind.free) ∈ scope.names → CapI X.env.cells s1'.heap n i → CapI (cloFrom X.env.cells scope.names []) s1'.heap n i := fun h ⟨c, t, e, z⟩ => ⟨c, t, cl_lookup h e, z⟩
  replace k1 := cl S.f1 k1
  replace k2 := cl S.f2 k2
  replace k3 := cl S.f3 k3
  clear cl
  obtain ⟨ps, hP, ht⟩ := id hT
  obtain ⟨its, rv, tup, hz⟩ := I1.tuple hS
  have lx := rv.length
  have lp := hall.length
  have hpair : ∀ j, ∃ z : Addr × Array Value, j < its.length → ∃ x y t1 t2, its[j]? = some (.ref z.1) ∧ s1'.heap.IsTuple z.1 z.2 ∧ z.2 = #[.int x t1, .int y t2] ∧ prs[j]? = some (x, y) := fun j => by
    by_cases hj : j < its.length
    · obtain ⟨u, eu, ru⟩ := rv.get (List.getElem?_eq_getElem (show j < vs.length by omega))
      obtain ⟨pr, ep, b, eb, hb⟩ := hall.get (List.getElem?_eq_getElem (show j < vs.length by omega))
      rw [eb] at ru
      cases ru
      obtain ⟨its2, rv2, tup2, _⟩ := I1.tuple hb
      cases rv2 with
      | cons r1 rr =>
        cases rr with
        | cons r2 rr =>
          cases rr
          obtain ⟨t1, rfl⟩ := r1
          obtain ⟨t2, rfl⟩ := r2
          exact ⟨(b, #[.int pr.1 t1, .int pr.2 t2]), fun _ => ⟨pr.1, pr.2, t1, t2, eu, tup2, rfl, ep⟩⟩
    · exact ⟨(0, #[]), fun z => absurd z hj⟩
  obtain ⟨F, hF⟩ := Classical.skolem.mp hpair
  refine wpAny_pyIter_tuple tup ?_
  have hPs : s1'.heap.get? P = some { cls := .none, data := .fields ps } := I1.hok P _ hP
  have hPlt : P < s1'.heap.objs.size := Heap.lt_size hPs
  have halt : a < s1'.heap.objs.size := by obtain ⟨o, e, _⟩ := id tup; exact Heap.lt_size e
  have haP : a ≠ P := fun e => by
    obtain ⟨o, e1, e2, _⟩ := id tup
    rw [e, hPs] at e1
    cases e1
    cases e2
  have hTlt : ∀ j, j < its.length → (F j).1 < s1'.heap.objs.size ∧ (F j).1 ≠ P := fun j hj => by
    obtain ⟨_, _, _, _, _, tj, _, _⟩ := hF j hj
    obtain ⟨o, e1, e2, _⟩ := id tj
    refine ⟨Heap.lt_size e1, fun e => ?_⟩
    rw [e, hPs] at e1
    cases e1
    cases e2
  generalize hito : ({ cls := .type "tuple_iterator", data := .fields #[.ref a, .int 0 0] } : Obj) = ito
  have hP2 : (s1'.heap.push ito).get? P = some { cls := .none, data := .fields ps } := Heap.get?_push_of_some _ hPs
  have cd : PySem.W.CodeHd (s1'.heap.push ito) c P := TB.code.keeps fun b u e => Heap.get?_push_of_some _ (I1.bk b u e)
  have lim2 : (s1'.heap.push ito).NoLimit := I1.nolimit.push ito
  have sz2 : (s1'.heap.push ito).objs.size = s1'.heap.objs.size + 1 := Heap.size_push ..
  have cont : ∀ (code : Value) (h3 : Heap) (tk : Nat) (ps' : Array Value), Heap.ExtBut P (s1'.heap.push ito) h3 → (s1'.heap.push ito).objs.size ≤ h3.objs.size → h3.get? P = some { cls := .none, data := .fields ps' } → (∃ more, ps' = ps ++ more) → TriplesOk ps'.toList →
      wpAny (model X.prog X.w) X.A (builtinsFor X.env.globals X.env.builtins) (fun bi s₄ =>
        ∃ Ia fp wr n₀ Pt St₀ Mid pz F, Value.ref s1'.heap.objs.size = .ref Ia ∧ (∀ A' : Around, A'.handled = none → WalksU X.prog X.w A' Ia fp wr n₀ Pt St₀ Mid) ∧ (∀ i vals, Pt i vals → ∃ va vb, vals = #[va, vb]) ∧ St₀ 0 s₄.heap ∧ (∀ b ∈ fp, b < s₄.heap.objs.size) ∧ s₄.heap.NoLimit ∧ cStatics ∉ wr ∧
          (∀ href : Heap, (∀ b o, s₄.heap.get? b = some o → href.get? b = some o) →
            QuietGenTD X.prog X.w (genEnv scope (cloFrom X.env.cells scope.names []) s₄.heap.objs.size code bi X.env) xa xb [] elt (List.range s₄.heap.objs.size) wr Pt pz F href (X.A.depth + 1) (X.A.units + 8)) ∧
          (∀ a h₅ tk gs, gs.bare = true → s₄.heap.objs.size < a → h₅.objs.size = a + 1 → (∀ b o, s₄.heap.get? b = some o → h₅.get? b = some o) →
            WalksS X.prog X.w X.A.in4 a (a :: s₄.heap.objs.size :: List.range s₄.heap.objs.size) (s₄.heap.objs.size :: wr) (GenOnlyQ s₄.gens.size) (passing pz n₀ 0).length
              (fun j y => ∃ i, (passing pz n₀ 0)[j]? = some i ∧ F i y) (GenAt X.prog X.w X.A.in4 a s₄.gens.size s₄.heap.objs.size (List.range s₄.heap.objs.size) wr pz n₀ F) →
            GenAt X.prog X.w X.A.in4 a s₄.gens.size s₄.heap.objs.size (List.range s₄.heap.objs.size) wr pz n₀ F 0 { s₄ with gens := s₄.gens.push gs, toks := tk, heap := h₅ } →
            wpAny (model X.prog X.w) X.A (spliced (backTo pos (starEach [] X.env))) (fun vs s2 => wpAny (model X.prog X.w) X.A (call (.builtin "all") (.ref a :: vs)) (EP X pins σ Q) X.xe s2) X.xe { s₄ with gens := s₄.gens.push gs, toks := tk, heap := h₅ })) X.xe { s1' with heap := h3, toks := tk } := by
    intro code h3 tk ps' hx hsz hP3 hmore ht3
    obtain ⟨bm, ob, e1, e2, e3, e4, e5, e6, e7, e8⟩ := TB.bm
    have keep3 : ∀ b u, b ≠ P → s1'.heap.get? b = some u → h3.get? b = some u := fun b u hb e => hx b u hb (Heap.get?_push_of_some _ e)
    have hcP : cStatics ≠ P := fun e => by
      obtain ⟨_, hns, _⟩ := I1.nolimit
      obtain ⟨o', es, ep, ho, hd, _⟩ := hns
      rw [e, hPs] at ho
      cases ho
      cases hd
    have hcl : cStatics < s1'.heap.objs.size := let ⟨_, hns, _⟩ := I1.nolimit; hns.lt
    have szle : s1'.heap.objs.size < h3.objs.size := by rw [sz2] at hsz; exact hsz
    refine wpAny_builtinsFor (m := X.mg) (by rw [I1.ok.glob]; exact ((I1.mod.glob.keeps I1.bk).push ito).extBut hx TB.gP) e1 e2 (keep3 _ _ e4 (I1.bk _ _ e5)) e6 e7 e8 ?_
    refine ⟨s1'.heap.objs.size, _, [s1'.heap.objs.size], its.toArray.size, _, _, _, (fun _ => true), (fun i y => i < its.toArray.size ∧ y = .bool (f i1 i2 i3 (prs.getD i (0, 0)))), rfl,
      fun A' hA => walksTT hA s1'.heap.objs.size a (Nat.ne_of_lt halt) its.toArray (fun j => (F j).1) (fun j => (F j).2) (fun j hj => ?_) (fun j hj => ?_), ?_, ⟨?_, ?_, ?_⟩, ?_, lim2.extBut hx hcP, ?_, ?_, ?_⟩
    · have hj : j < its.length := by simpa using hj
      obtain ⟨_, _, _, _, ej, _⟩ := hF j hj
      simpa using ej
    · have hj : j < its.length := by simpa using hj
      exact Nat.ne_of_lt (hTlt j hj).1
    · rintro i vals ⟨hi', rfl⟩
      have hi' : i < its.length := by simpa using hi'
      obtain ⟨x, y, t1, t2, _, _, e, _⟩ := hF i hi'
      exact ⟨_, _, e⟩
    · refine ⟨ito, hx _ _ (fun z => Nat.ne_of_lt hPlt z.symm) (Heap.get?_push_size _ (by rw [← hito]; rfl)), by rw [← hito], by rw [← hito]; rfl⟩
    · obtain ⟨o, g1, g2, g3⟩ := id tup
      exact ⟨o, keep3 a o haP g1, g2, g3⟩
    · intro j hj
      have hj : j < its.length := by simpa using hj
      obtain ⟨_, _, _, _, _, ⟨o, g1, g2, g3⟩, _⟩ := hF j hj
      exact ⟨o, keep3 _ o (hTlt j hj).2 g1, g2, g3⟩
    · intro b hb
      show b < h3.objs.size
      rcases List.mem_cons.mp hb with z | z
      · rw [z]; exact szle
      · rcases List.mem_cons.mp z with z | z
        · rw [z]; exact Nat.lt_trans halt szle
        · obtain ⟨j, hj, rfl⟩ := List.mem_map.mp z
          have hj : j < its.length := by simpa using hj
          exact Nat.lt_trans (hTlt j hj).1 szle
    · intro z
      rw [List.mem_singleton.mp z] at hcl
      exact Nat.lt_irrefl _ hcl
    · intro href hhref
      refine ⟨fun A' E' i va vb s₂ m₂ hA hD hU hPv hn hma hmb hk => ?_, fun A' E' i va vb s₂ m₂ hA hD hU hPv hp hn hma hmb hk => ?_⟩
      · simp only [List.forIn_nil]
        exact wpAny_pure ⟨rfl, GxR.keeps_refl _⟩
      · have key : ∀ b o, b ≠ P → s1'.heap.get? b = some o → s₂.heap.get? b = some o := fun b o hb e =>
          hk b (List.mem_range.mpr (Heap.lt_size (keep3 b o hb e))) (fun z => by
            have l := Heap.lt_size e
            rw [List.mem_singleton.mp z] at l
            exact Nat.lt_irrefl _ l) o (hhref b o (keep3 b o hb e))
        obtain ⟨hi0, ev⟩ := hPv
        have hi' : i < its.length := by simpa using hi0
        obtain ⟨x, y, t1, t2, _, _, e, ep⟩ := hF i hi'
        rw [e] at ev
        cases ev
        have hPd : ∃ o, s1'.heap.get? P = some o ∧ o.data = .fields ps := ⟨_, hPs, rfl⟩
        have see := hel (genEnv scope (cloFrom X.env.cells scope.names []) h3.objs.size code builtinsNs X.env) s₂.heap i1 i2 i3 x y t1 t2 m₂ rfl (k1.keeps hPd key) (k2.keeps hPd key) (k3.keeps hPd key) hn hma hmb (hC _ (List.mem_of_getElem? ep))
        refine see A' E' _ s₂ rfl fun u kk r => ?_
        cases r
        refine ⟨⟨hi0, ?_⟩, GxR.keeps_tok _ _⟩
        rw [List.getD_eq_getElem?_getD, ep]
        rfl
    · intro g h5 tk5 gs hgb hag hsz5 hk5 W5 hat
      simp only [GxR.passing_true, List.length_range] at W5
      refine Calls.spliced_nil ?_
      have W := W5.in4_1
      refine call_all_walkS (W.self 0 _ _ _ hat ⟨g, _, _, _, _, _, _, fun j => f i1 i2 i3 (prs.getD j (0, 0)), rfl, W, hat, ?_, fun s' hm => ?_⟩)
      · intro j y sj Qj Ej hy hQj
        obtain ⟨i, hij, hi2, rfl⟩ := hy
        try rw [GxR.passing_true] at hij
        obtain ⟨hj, ej⟩ := List.getElem?_eq_some_iff.mp hij
        rw [List.getElem_range] at ej
        subst ej
        exact wpAny_truthy_bool hQj
      · obtain ⟨more, em⟩ := hmore
        have nwr : ∀ b u, s1'.heap.get? b = some u → b ∉ h3.objs.size :: [s1'.heap.objs.size] := fun b u e hb => by
          have hl := Heap.lt_size e
          simp only [List.mem_cons, List.not_mem_nil, or_false] at hb
          rcases hb with z | z
          · rw [z] at hl
            have h9 : (h3.objs.size : Nat) < s1'.heap.objs.size := hl
            omega
          · rw [z] at hl
            exact Nat.lt_irrefl _ hl
        have J := inv_tab (more := more) (h' := s'.heap) (g' := s'.gens) (d' := s'.drawn) (t' := s'.toks) I1 hP (fun b u hb e => hm.heap b u (nwr b u e) (hk5 b u (keep3 b u hb e)))
          (by rw [← em]; exact hm.heap P _ (nwr P _ hPs) (hk5 P _ hP3)) (AllBare.movedS (I1.bare.push hgb) hm)
        rw [sh_eta s1' s' hm.os] at J
        have tb : Tabbed P H1 (upd H1 P (.tbl (ps ++ more))) := ⟨⟨ps ++ more, upd_same, by rw [← em]; exact ht3⟩, fun b hb => upd_ne hb⟩
        refine ⟨.bl _, _, J, ?_, q _ (Same.tabbed hT tb) tb.1⟩
        show Value.bool _ = Value.bool _
        have hall2 := all_range (prs.map (f i1 i2 i3))
        rw [List.length_map, List.all_map] at hall2
        have e9 : (List.range its.toArray.size).all (fun j => f i1 i2 i3 (prs.getD j (0, 0))) = (List.range prs.length).all fun j => (prs.map (f i1 i2 i3)).getD j false := by
          rw [show its.toArray.size = prs.length by simp; omega, Bool.eq_iff_iff, List.all_eq_true, List.all_eq_true]
          constructor
          · intro z j hj
            have := z j hj
            have hj := List.mem_range.mp hj
            rw [List.getD_eq_getElem?_getD, List.getElem?_eq_getElem hj] at this
            rw [List.getD_eq_getElem?_getD, List.getElem?_map, List.getElem?_eq_getElem hj]
            exact this
          · intro z j hj
            have := z j hj
            have hj := List.mem_range.mp hj
            rw [List.getD_eq_getElem?_getD, List.getElem?_map, List.getElem?_eq_getElem hj] at this
            rw [List.getD_eq_getElem?_getD, List.getElem?_eq_getElem hj]
            exact this
        rw [e9, hall2]
        rfl
  refine ⟨lim2, ?_⟩
  cases hf : codeAmong gpos ps.toList with
  | none =>
    refine wpAny_genexprCodeX hcode (cd.code hP2 ht) (cd.tab hP2) hf fun c' h' tk hx hge hlt hco' _ htab' _ => ?_
    obtain ⟨o1, vs, f1, tf, fl, tg, inF, tx, tt, op, _, _, _, _, _, _, _, _, _, htr, _⟩ := hco'
    exact cont _ h' tk _ hx (Nat.le_trans hge (Nat.le_of_lt hlt)) htab'.2 ⟨_, rfl⟩ htr
  | some cv =>
    refine wpAny_genexprCode_hit hcode (cd.code hP2 ht) hf ?_
    exact cont cv (s1'.heap.push ito) s1'.toks ps (Heap.ExtBut.refl _ _) (Nat.le_refl _) hP2 ⟨#[], by simp⟩ ht
end
/-! ### thing == () -/
def rEqTNil (K : PySem.W.Frag) : R2 := fun x y H Q => ∃ a b xs, x = .ref a ∧ y = .ref b ∧ SqT K H a xs ∧ SqT K H b [] ∧ Q (.bl xs.isEmpty) H
theorem op_eqTNil {X : Cx} (hu : X.A.units + 64 < cLine) : OpR X (compareOp .Eq) (rEqTNil X.K) := by
  intro pins s σ H x y v u Q I rx ry h
  obtain ⟨a, b, xs, rfl, rfl, ha, hb, q⟩ := h
  cases rx
  cases ry
  obtain ⟨its, rv, p, _⟩ := I.tuple ha
  obtain ⟨its2, rv2, p2, _⟩ := I.tuple hb
  cases rv2
  refine SeqAt.eq_tupleAt (e := fun _ => true) p p2 (by omega) (fun j h1 h2 => absurd h2 (Nat.not_lt_zero _)) ?_
  have hl := rv.length
  refine ⟨.bl _, H, I, ?_, q⟩
  show Value.bool _ = Value.bool _
  cases xs with
  | nil =>
    have : its = [] := List.eq_nil_of_length_eq_zero hl.symm
    subst this
    rfl
  | cons x xs =>
    cases its with
    | nil => simp at hl
    | cons i its => simp
end Cl

set_option maxHeartbeats 0
namespace Cl
open PySem PySem.Spec PyProof.Rows L2
/-! ### a lambda of one parameter, made within a def, handed to max as key -/
/-- the table at P: what it tells are the objects at cs -/
def TabAt (P : Addr) (cs : List Addr) : HO := .ext fun h => ∃ ps : Array Value, h.get? P = some { cls := .none, data := .fields ps } ∧ TriplesOk ps.toList ∧ ∀ (pos : Pos) (cv : Value), codeAmong pos ps.toList = some cv → ∃ c ∈ cs, cv = .ref c
/-- the lambda table at P stands: its codes bear the name q -/
def LT (H : Hp) (P : Addr) (q : Str) : Prop := ∃ cs : List Addr, H P = some (TabAt P cs) ∧ ∀ c ∈ cs, c ≠ P ∧ H c = some (LamX.CodeO c q)
theorem Same.lt {H H' : Hp} {P : Addr} {q : Str} (s : Same H H') (t : LT H P q) : LT H' P q := by
  obtain ⟨cs, h1, h2⟩ := t
  exact ⟨cs, s _ _ h1, fun c hc => ⟨(h2 c hc).1, s _ _ (h2 c hc).2⟩⟩
/-- all but the table at P stays -/
def SameX (P : Addr) (H H' : Hp) : Prop := ∀ b o, b ≠ P → H b = some o → Keep (H' b) o
theorem SameX.trans {P : Addr} {H H1 H2 : Hp} (a : SameX P H H1) (b : SameX P H1 H2) : SameX P H H2 := fun c o n h => by
  have k := a c o n h
  cases o with
  | tbl ps => exact fun t => let ⟨ps1, e1, t1⟩ := k t; b c (.tbl ps1) n e1 t1
  | _ => exact b c _ n k
theorem Same.x {P : Addr} {H H' : Hp} (a : Same H H') : SameX P H H' := fun b o _ e => a b o e
section
variable {X : Cx} {pins : List (Addr × Obj)} {σ : L2.St} {H : Hp} {s : Shared}
theorem inv_tabE {P c : Addr} {q : Str} {cs : List Addr} {ps more : Array Value} {h' : Heap} {t' : Nat} (I : Inv X pins σ H s) (hP : H P = some (TabAt P cs)) (k : ∀ b o, b ≠ P → s.heap.get? b = some o → h'.get? b = some o)
    (hm : h'.get? P = some { cls := .none, data := .fields (ps ++ more) }) (ht : TriplesOk (ps ++ more).toList) (ha : ∀ (pos : Pos) (cv : Value), codeAmong pos (ps ++ more).toList = some cv → ∃ c' ∈ c :: cs, cv = .ref c') (hc : s.heap.objs.size ≤ c) (ho : ∃ (oc : Obj) (vs : Array Value) (t : Tok), h'.get? c = some oc ∧ oc.data = .fields vs ∧ vs[1]? = some (.str q t)) :
    Inv X pins σ (upd (upd H P (TabAt P (c :: cs))) c (LamX.CodeO c q)) { s with heap := h', toks := t' } := by
  have nC : H c = none := I.hok.fresh hc
  have nPc : P ≠ c := ne_of_none hP nC
  have at_ : ∀ b, b ≠ P → b ≠ c → upd (upd H P (TabAt P (c :: cs))) c (LamX.CodeO c q) b = H b := fun b h1 h2 => by rw [upd_ne h2, upd_ne h1]
  have atP : upd (upd H P (TabAt P (c :: cs))) c (LamX.CodeO c q) P = some (TabAt P (c :: cs)) := by rw [upd_ne nPc, upd_same]
  have nP : ∀ b u, H b = some u → (∀ φ, u ≠ .ext φ) → b ≠ P := fun b u e q z => by
    rw [z, hP] at e
    exact q _ (Option.some.inj e).symm
  have nN : ∀ b, H b = none → b ≠ P := fun b e z => by
    rw [z, hP] at e
    cases e
  have lt' : ∀ b o, s.heap.get? b = some o → b ≠ c := fun b o e z => by
    rw [z] at e
    exact Nat.lt_irrefl _ (Nat.lt_of_lt_of_le (Heap.lt_size e) hc)
  have sm : ∀ b u, H b = some u → b ≠ c := fun b u e => ne_of_none e nC
  refine I.step (g' := s.gens) (d' := s.drawn) (ch := []) (fun b hb => absurd hb (by simp)) (fun b o _ _ _ e n => k b o (nN b n) e) (fun b o _ _ _ e n => ⟨o.slots, k b o (nN b n) e⟩)
    (fun b o _ e n => by rw [at_ b (nN b n) (lt' b o e)]; exact n) (fun b o _ e => ?_) (fun b xs e => by rw [at_ b (nP b _ e (fun q z => by cases z)) (sm b _ e)]; exact e) (fun b o u e => by rw [at_ b (nP b _ e (fun q z => by cases z)) (sm b _ e)]; exact e) (fun b qs e => ?_) (fun m hn => ?_) (fun b u e => ?_) I.bare
  · by_cases hb : b = P
    · rw [hb]
      exact ⟨_, hm⟩
    · exact ⟨o, k b o hb e⟩
  · rw [at_ b (nP b _ e (fun q z => by cases z)) (sm b _ e), e]
    exact ⟨#[], by simp⟩
  · obtain ⟨ob, es, ep, ho, r⟩ := hn
    exact ⟨ob, es, ep, k _ ob (nN _ I.free) ho, r⟩
  · by_cases hb : b = c
    · rw [hb, upd_same] at e
      cases e
      rw [hb]
      obtain ⟨oc, vs, t, e1, e2, e3⟩ := ho
      exact ⟨⟨oc, vs, t, e1, e2, e3⟩, ⟨oc, e1⟩, fun h1 h2 ⟨oc, vs, t, a, b, c⟩ st => ⟨oc, vs, t, st _ a, b, c⟩⟩
    · by_cases hb2 : b = P
      · rw [hb2, atP] at e
        cases e
        rw [hb2]
        exact ⟨⟨_, hm, ht, ha⟩, ⟨_, hm⟩, fun h1 h2 ⟨ps, a, b, c⟩ st => ⟨ps, st _ a, b, c⟩⟩
      · rw [at_ b hb2 hb] at e
        refine (I.hok b u e).stay (fun d v hd q => k d v ?_ q) (fun d q => by rw [at_ d (nP d _ q (fun q z => by cases z)) (sm d _ q)]; exact q) fun d xs q => by rw [at_ d (nP d _ q (fun q z => by cases z)) (sm d _ q)]; exact q
        rcases hd with z | z
        · rw [z]
          exact hb2
        · exact nP d _ z (fun q z => by cases z)
/-- the lambda's object -/
def LamO (X : Cx) (params : Arguments) (body : Expr) (scope : Scope) (c' f : Addr) : HO := .ext fun h => ∃ pm ctv : Value, h.get? f = some (PySem.W.kla_obj "<lambda>" (X.env.qual ++ "<lambda>") params body scope (cloFrom X.env.cells scope.names []) pm c' ctv)
theorem lam_make3 {c P : Addr} {params : Arguments} {body : Expr} {scope : Scope} {pos : Pos} {E : Value → Shared → Prop} {Q : Value → Shared → Prop} (I : Inv X pins σ H s) (TB : GxR.TabB X.base X.mg c P) (hcode : X.env.code = .ref c)
    (hT : LT H P (X.env.qual ++ "<lambda>")) (hdef : defaultsOf params X.env = ([], [])) (hfree : ∀ y ∈ scope.names, y.2 = .free → ∃ c, X.env.cells.lookup y.1 = some c)
    (h : ∀ (f c' : Addr) (H1 : Hp) (s' : Shared), Inv X pins σ H1 s' → SameX P H H1 → LT H1 P (X.env.qual ++ "<lambda>") →
      H1 f = some (LamO X params body scope c' f) → H1 c' = some (LamX.CodeO c' (X.env.qual ++ "<lambda>")) → Q (.ref f) s') :
    wpAny (model X.prog X.w) X.A (eval (.Lambda params body scope pos) X.env) Q E s := by
  obtain ⟨cs, hP, hcs⟩ := hT
  obtain ⟨⟨ps, hP', ht, ha⟩, _, _⟩ := I.hok P _ hP
  refine PySem.W.kla_eval hdef ?_
  have bP : s.heap.BuiltinsAt X.mg P := TB.bm.keeps I.bk
  have fin : ∀ (f c' : Addr) (pm ctv : Value) (H1 : Hp) (s' : Shared) (o : Obj) (tk : Nat), Inv X pins σ H1 { s' with toks := tk } → SameX P H H1 → LT H1 P (X.env.qual ++ "<lambda>") → H1 c' = some (LamX.CodeO c' (X.env.qual ++ "<lambda>")) → s'.heap.objs.size = f →
      o = PySem.W.kla_obj "<lambda>" (X.env.qual ++ "<lambda>") params body scope (cloFrom X.env.cells scope.names []) pm c' ctv → Q (.ref f) { s' with heap := s'.heap.push o, toks := tk } := by
    intro f c' pm ctv H1 s' o tk J sx lt hc hf ho
    have hg : (s'.heap.push o).get? f = some o := by rw [← hf, ho]; exact Heap.get?_push_size _ rfl
    have nf : H1 f = none := J.hok.fresh (by show s'.heap.objs.size ≤ f; rw [hf]; exact Nat.le_refl _)
    have J2 := J.laid (a := f) (o := LamO X params body scope c' f) (h' := s'.heap.push o) (t' := tk) (fun b u e => Heap.get?_push_of_some _ e) (by show s'.heap.objs.size ≤ f; rw [hf]; exact Nat.le_refl _)
      ⟨⟨pm, ctv, by rw [hg, ho]⟩, ⟨o, hg⟩, fun h1 h2 ⟨pm, ctv, a⟩ st => ⟨pm, ctv, st _ a⟩⟩
    have sn := same_new (o := LamO X params body scope c' f) nf
    exact h f c' _ _ J2 (sx.trans sn.x) (sn.lt lt) upd_same (sn _ _ hc)
  cases hc : codeAmong pos ps.toList with
  | none =>
    refine PySem.W.kla_makeFunction (mg := X.mg) (c := c) (P := P) (ps := ps) (closure_ok hfree) I.ok.glob (I.mod.glob.keeps I.bk) hcode (TB.code.keeps I.bk) hP' ht hc TB.gP bP fun c' ctv h' tk hx hge hlt hrec htb => ?_
    obtain ⟨c2, oc, vs, t, e2, hoc, hd, hv⟩ := hrec
    cases e2
    have nC : H c' = none := I.hok.fresh hge
    have eL : (ps ++ #[rawInt pos.line, rawInt pos.col, .ref c']).toList = ps.toList ++ [rawInt pos.line, rawInt pos.col, .ref c'] := by simp
    have I1 := inv_tabE (t' := tk) (ps := ps) (more := #[rawInt pos.line, rawInt pos.col, .ref c']) (c := c') (q := X.env.qual ++ "<lambda>") (h' := h') I hP
      (fun b o hb e => hx b o hb e) htb (by rw [eL]; exact PySem.TriplesOk_snoc _ _ _ _ ht) (fun p' cv hcv => by
        rw [eL] at hcv
        rcases LamX.among_app _ ht hcv with z | z
        · obtain ⟨c0, e1, e2⟩ := ha p' cv z
          exact ⟨c0, List.mem_cons_of_mem _ e1, e2⟩
        · exact ⟨c', List.mem_cons_self .., z⟩) hge ⟨oc, vs, t, hoc, hd, hv⟩
    refine fin h'.objs.size c' ((X.mg "__name__").getD .none) ctv _ { s with heap := h' } _ tk I1 (fun b o nb e => ?_) ⟨c' :: cs, ?_, fun c0 h0 => ?_⟩ upd_same rfl rfl
    · rw [upd_ne (ne_of_none e nC), upd_ne nb]
      exact .of e
    · rw [upd_ne (ne_of_none hP nC), upd_same]
    · rcases List.mem_cons.mp h0 with rfl | h0
      · exact ⟨(ne_of_none hP nC).symm, upd_same⟩
      · obtain ⟨n0, e⟩ := hcs c0 h0
        refine ⟨n0, ?_⟩
        rw [upd_ne (ne_of_none e nC), upd_ne n0]
        exact e
  | some cv =>
    obtain ⟨c', hm, e⟩ := ha pos cv hc
    subst e
    refine PySem.W.kla_makeFunctionHit (mg := X.mg) (c := c) (P := P) (ps := ps) (closure_ok hfree) I.ok.glob (I.mod.glob.keeps I.bk) hcode (TB.code.keeps I.bk) hP' ht hc bP fun ctv h' tk hx hsz => ?_
    have I1 : Inv X pins σ H { s with heap := h', toks := tk } := I.kept hx
    exact fin h'.objs.size c' ((X.mg "__name__").getD .none) ctv H { s with heap := h' } _ tk I1 (fun b o _ e => .of e) ⟨cs, hP, hcs⟩ (hcs c' hm).2 rfl rfl
end
end Cl

set_option maxHeartbeats 0
namespace Cl
open PySem PySem.Spec PyProof.Rows L2
/-- a lambda's scope: its one parameter a, captured names, globals -/
structure LamK (sc scope : Scope) (a : Str) : Prop where
  kind : scope.kind = .function
  co : scope.isCoroutine = false
  gen : scope.isGenerator = false
  nocell : ∀ y ∈ scope.names, y.2 ≠ .cell
  own : ∀ y ∈ scope.names, y.2 = .local → y.1 = a
  par : scope.names.lookup a = some .local
  free : ∀ y ∈ scope.names, y.2 = .free → sc.names.lookup y.1 = some .cell ∨ sc.names.lookup y.1 = some .free
def lamKB (sc scope : Scope) (a : Str) : Bool :=
  decide (scope.kind = .function) && (!scope.isCoroutine && (!scope.isGenerator && (decide (scope.names.lookup a = some .local) && scope.names.all fun y => !decide (y.2 = .cell) && ((!decide (y.2 = .local) || decide (y.1 = a)) && (!decide (y.2 = .free) || (decide (sc.names.lookup y.1 = some .cell) || decide (sc.names.lookup y.1 = some .free)))))))
theorem lamK_by {sc scope : Scope} {a : Str} (h : lamKB sc scope a = true) : LamK sc scope a := by
  unfold lamKB at h
  simp only [Bool.and_eq_true, Bool.or_eq_true, Bool.not_eq_true', decide_eq_true_eq, decide_eq_false_iff_not, List.all_eq_true] at h
  obtain ⟨h1, h2, h3, h4, h5⟩ := h
  refine ⟨h1, h2, h3, fun y hy => (h5 y hy).1, fun y hy e => ?_, h4, fun y hy e => ?_⟩
  · rcases (h5 y hy).2.1 with z | z
    · exact absurd e z
    · exact z
  · rcases (h5 y hy).2.2 with z | z
    · exact absurd e z
    · exact z
theorem LamK.has {X : Cx} {scope : Scope} {a : Str} (L : LamK X.env.scope scope a) (ok : X.Ok) : ∀ y ∈ scope.names, y.2 = .free → ∃ c, X.env.cells.lookup y.1 = some c := fun y hy e => by
  rcases L.free y hy e with k | k
  · exact ok.has _ (.inl k)
  · exact ok.has _ (.inr k)
/-- the context of the lambda's body -/
def lamCx1 (X : Cx) (a : Str) (A : Around) (outer : List Env) (s : Shared) (H : Hp) (scope : Scope) (f c' : Addr) : Cx where
  prog := X.prog
  w := X.w
  K := X.K
  mg := X.mg
  base := X.base
  A := A.deeper (LamX.lamEnv X scope s.heap.objs.size f c')
  N := a :: X.N
  s_0 := s
  H_0 := H
  env := LamX.lamEnv X scope s.heap.objs.size f c'
  outer := outer
  stack := LamX.lamEnv X scope s.heap.objs.size f c' :: outer
  ex := []
  fn := fun _ => false
  calm := true
  pn := []
  xe := fun _ _ => False
section
variable {X : Cx} {pins : List (Addr × Obj)} {σ : L2.St} {H : Hp} {s : Shared}
theorem lam_start1 {A : Around} {outer : List Env} {scope : Scope} {a : Str} {v : V} {u : Value} {f c' : Addr} {h₁ : Heap} {tk : Nat} (I : Inv X pins σ H s) (L : LamK X.env.scope scope a) (e0 : Env0 X.prog X.w X.K X.mg X.base A outer s H) (hd : A.handled = none) (ha : a ∉ X.N) (r : RelV v u)
    (hns : h₁.Ns s.heap.objs.size fun y => ([(a, u)] : List (Str × Value)).reverse.lookup y) (kp : ∀ b o, s.heap.get? b = some o → h₁.get? b = some o) :
    Inv (lamCx1 X a A outer s H scope f c') [] (some v :: σ) H { s with heap := h₁, toks := tk } := by
  have hfree := L.has I.ok
  have cm : ∀ {y c}, (cloFrom X.env.cells scope.names []).lookup y = some c → X.env.cells.lookup y = some c := fun {y c} e => by
    rcases cloFrom_mem (PySem.mem_of_lookup e) with hm | ⟨h1, h2⟩
    · cases hm
    · obtain ⟨c1, hc⟩ := hfree _ h1 rfl
      have hc : X.env.cells.lookup y = some c1 := hc
      have e2 : c = c1 := by
        rw [h2, hc] <;> rfl
      rw [e2]
      exact hc
  have look : ∀ {y}, scope.names.lookup y = some .free → ∃ c, (cloFrom X.env.cells scope.names []).lookup y = some c := fun {y} hl => by
    have hy : (y, NameKind.free) ∈ scope.names := PySem.mem_of_lookup hl
    exact mem_lookup (cloFrom_has (cells := X.env.cells) (acc := []) hy)
  have cellK : ∀ {c : Addr} {v : Option Value}, H c = none → s.heap.IsCell c v → h₁.IsCell c v := fun {c v} n ⟨o, ho, hd⟩ => ⟨_, kp _ _ ho, hd⟩
  have noA : ∀ b : Addr, b ∉ (lamCx1 X a A outer s H scope f c').ex := fun b z => absurd (show b ∈ ([] : List Addr) from z) (by simp)
  refine ⟨⟨e0.mod, L.kind, rfl, rfl, Nat.le_refl _, fun y z c e1 e2 => I.ok.inj y z c (cm e1) (cm e2), fun y hy => ?_, fun y c z _ => ?_, fun _ => hd, Around.frames_deeper e0.frames, .inr ⟨rfl, rfl⟩, fun b z => absurd z (noA b), e0.bs, e0.bsz, fun b _ _ => noA b,
      fun b z => absurd z (noA b), e0.funs, e0.frf⟩,
    rfl, e0.bare, Un.kept kp, ⟨_, hns, fun i y v' e1 e2 e3 => ?_⟩, fun y c e => ?_, e0.hok.fresh (Nat.le_refl _), fun y c e => ?_, fun q hq => absurd (show q ∈ ([] : List (Addr × Obj)) ++ [] from hq) (by simp), e0.hok.kept kp, ?_⟩
  · have hy : scope.names.lookup y = some .cell ∨ scope.names.lookup y = some .free := hy
    rcases hy with hy | hy
    · exact absurd rfl (L.nocell _ (PySem.mem_of_lookup hy))
    · exact look hy
  · have z : false = true := z
    cases z
  · have e3 : Vis scope y := e3
    cases i with
    | zero =>
      have e1 : some a = some y := e1
      have e2 : some (some v) = some (some v') := e2
      cases e1
      cases e2
      refine ⟨u, r, .inl ⟨L.par, ?_⟩⟩
      show List.lookup a [(a, u)] = some u
      simp
    | succ i =>
      have e1 : X.N[i]? = some y := e1
      have e2 : σ[i]? = some (some v') := e2
      rcases e3 with k | k | k
      · exact absurd (by rw [← L.own _ (PySem.mem_of_lookup k) rfl]; exact List.mem_of_getElem? e1) ha
      · exact absurd rfl (L.nocell _ (PySem.mem_of_lookup k))
      · obtain ⟨m, hn, hl⟩ := I.loc
        have hvis : Vis X.env.scope y := (L.free _ (PySem.mem_of_lookup k) rfl).elim (fun k => .inr (.inl k)) (fun k => .inr (.inr k))
        obtain ⟨w', r, q⟩ := hl i y v' e1 e2 hvis
        obtain ⟨c2, h2⟩ := look k
        refine ⟨w', r, .inr ⟨.inr k, c2, h2, ?_⟩⟩
        have c1 := cm h2
        rcases q with ⟨k', _⟩ | ⟨_, c3, e', z⟩
        · have k' : X.env.scope.names.lookup y = some .local := k'
          rcases L.free _ (PySem.mem_of_lookup k) rfl with k2 | k2 <;> rw [show X.env.scope.names.lookup y = _ from k2] at k' <;> cases k'
        · rw [c1] at e'
          cases e'
          exact cellK (I.freeC y _ c1) z
  · obtain ⟨w', z⟩ := I.cell y c (cm e)
    exact ⟨w', cellK (I.freeC y c (cm e)) z⟩
  · exact I.freeC y c (cm e)
  · show (some v :: σ).length = (a :: X.N).length
    rw [List.length_cons, List.length_cons, I.len]
/-- the lambda called within a built-in -/
theorem call_key {k : Nat} {params : Arguments} {body : Expr} {scope : Scope} {a : Str} {f c' : Addr} {v : V} {u : Value} {t : TE} {Q : VK} (I : Inv X pins σ H s) (L : LamK X.env.scope scope a) (ha : a ∉ X.N) (hf : H f = some (LamO X params body scope c' f)) (hc : H c' = some (LamX.CodeO c' (X.env.qual ++ "<lambda>")))
    (hbind : ∀ (q : Str) (cl : List (Str × Addr)) (pm cv ctv u : Value), bindArgs (PySem.W.kla_fn "<lambda>" q params body scope cl pm cv ctv) ⟨[u], []⟩ = pure [(a, u)])
    (hr : RG (k + 2) X.A) (hbody : ∀ (A : Around) (outer : List Env) (s : Shared) (H : Hp), RG k (A.deeper (LamX.lamEnv X scope s.heap.objs.size f c')) → PE (lamCx1 X a A outer s H scope f c') body t)
    (r : RelV v u) (ht : t (some v :: σ) H Q) :
    wpAny (model X.prog X.w) X.A.in1 (call (.ref f) [u]) (EP X pins σ Q) (fun _ _ => False) s := by
  obtain ⟨⟨pm, ctv, of1⟩, _, _⟩ := I.hok f _ hf
  obtain ⟨⟨oc, vs, tt, hoc, hdc, hvc⟩, _, _⟩ := I.hok c' _ hc
  have hr1 : RG (k + 1) X.A.in1 := ⟨hr.room.in1, hr.gd⟩
  have e0 : Env0 X.prog X.w X.K X.mg X.base X.A.in1 X.stack s H := ⟨I.ok.frames, I.ok.mod, I.bs, Nat.le_trans I.ok.bsz I.sz, I.stack, I.stkFree, I.hok, I.bare⟩
  have rc : codeAny (model X.prog X.w) X.A.in1 (.call (.ref f) ⟨[u], []⟩) (CR CX0 X.stack X.prog X.w H s Q E0) s := by
    refine PySem.W.kla_callFunE hr1.room.depth of1 rfl L.co L.gen rfl ⟨c', oc, vs, tt, rfl, hoc, hdc, hvc⟩ ?_
    rw [hbind]
    refine wpAny_pure (wpAny_newFunctionEnv (fun y hy => L.nocell y hy) (fun y hy => by rw [List.mem_singleton.mp hy]; exact L.par) (fun h₁ hns hsb => ⟨I.nolimit.fresh _ hsb, ?_⟩) L.kind)
    show codeAny _ _ (.expr body (LamX.lamEnv X scope s.heap.objs.size f c')) _ _
    have kp : ∀ b o, s.heap.get? b = some o → h₁.get? b = some o := fun b o e => hsb.extBut b o (Nat.ne_of_lt (Heap.lt_size e)) (Heap.get?_push_of_some _ e)
    have J := lam_start1 (f := f) (c' := c') (tk := s.toks + 1) I L e0 hr1.room.hd ha r hns kp
    have hr2 : RG k (X.A.in1.deeper (LamX.lamEnv X scope s.heap.objs.size f c')) := ⟨hr1.room.deeper _, hr1.gd⟩
    refine PySem.W.kla_codeExpr (wpAny_mono ((hbody X.A.in1 X.stack s H hr2).run [] _ _ H Q J ht) (fun v s' hq => ?_) fun e s' hq => (show False from hq).elim)
    obtain ⟨w', H', J', rv, q⟩ := hq
    exact ⟨w', H', J'.os, J'.bare, J'.base, J'.hok, rv, q⟩
  refine wpAny_call (codeAny_mono rc fun r s' hq => ?_)
  cases r with
  | error e => exact hq.elim
  | ok fl =>
    cases fl with
    | ret u => exact I.after hq
    | next => exact False.elim hq
    | brk => exact False.elim hq
    | cont => exact False.elim hq
end
end Cl

set_option maxHeartbeats 0
namespace Cl
open PySem PySem.Spec PyProof.Rows L2
section
variable {X : Cx} {pins : List (Addr × Obj)} {σ : L2.St} {H0 H : Hp} {s : Shared}
theorem Same.tupS {H H' : Hp} {t : Addr} {vs : List V} (s : Same H H') (h : SqT X.K H t vs) : SqT X.K H' t vs := seT s h
theorem max_loopI {t f S It : Addr} {vs : List V} {R : Result → Shared → Prop} (kf : Nat → Int) (hh : X.A.handled = none) (hS : SqT X.K H0 t vs) (hSI : S ≠ It) (htI : t ≠ It)
    (fS : ∀ H', H' S = none → FpOk X pins H' S) (fI : ∀ H', H' It = none → FpOk X pins H' It)
    (turn : ∀ (i : Nat) (x : V) (u : Value) (pins' : List (Addr × Obj)) (H : Hp) (s : Shared), vs[i]? = some x → RelV x u → Inv X pins' σ H s → Same H0 H →
      wpAny (model X.prog X.w) X.A.in1 (call (.ref f) [u]) (EP X pins' σ (fun y H' => y = .int (kf i) ∧ Same H0 H')) (fun _ _ => False) s)
    (hR : ∀ (i : Nat) (x : V) (u : Value) (H : Hp) (s : Shared), vs[i]? = some x → RelV x u → (∀ j, j < vs.length → kf i ≥ kf j ∧ (j < i → kf i > kf j)) → Inv X pins σ H s → Same H0 H → R (.ok (.ret u)) s) :
    ∀ (r j i : Nat) (H : Hp) (s : Shared) (xb : V) (ub : Value) (tb : Tok) (c : Nat), vs.length - (j + 1) = r → j + 1 ≤ vs.length → Inv X pins σ H s → Same H0 H → H S = none → H It = none →
      s.heap.get? S = some (seqObj "list" #[ub, .int (kf i) tb] c) → s.heap.IsTupleIter It t (j + 1) → vs[i]? = some xb → RelV xb ub → i ≤ j → (∀ j', j' ≤ j → kf i ≥ kf j' ∧ (j' < i → kf i > kf j')) →
      codeAny (model X.prog X.w) X.A (.builtin "max.loop" ⟨[.ref It, .ref f, .ref S], []⟩) R s := by
  have hname : (toString "max" ++ toString ".loop" : String) = "max.loop" := by decide
  intro r
  induction r with
  | zero =>
    intro j i H s xb ub tb c hr hj I sm nS nI gS hit hxb hub hij hbest
    have hin : j + 1 = vs.length := by omega
    obtain ⟨its, rv, tup, hz⟩ := I.tuple (seT sm hS)
    have W := Walks.tuple (prog := X.prog) (w := X.w) (A := X.A.in1) hh It t htI its.toArray
    have hsz : its.toArray.size = vs.length := by rw [List.size_toArray]; exact rv.length.symm
    refine codeAny_builtin PySem.F.entry_max_loop ?_
    rw [Around.under_plainId PySem.F.plain_max_loop _]
    show wpAny _ X.A.in1 (seqItems? (.ref S) >>= _) _ _ _
    refine wpAny_bind (wpAny_seqItems gS rfl ?_)
    show wpAny _ X.A.in1 (tryCatch (pyNext (.ref It)) _ >>= _) _ _ _
    refine wpAny_bind (wpAny_tryCatch (W.done _ _ _ ⟨by rw [hsz, ← hin]; exact hit, tup⟩ fun h' tk' hk' => ?_))
    obtain ⟨_, i1, i2, i3, i4, i5⟩ := fI H nI
    obtain ⟨_, s1, s2, s3, s4, s5⟩ := fS H nS
    have I1 := I.turned (h' := h') (t' := tk') (it := It) (fun b o hb e => hk' b o (by simpa using hb) e) nI i1 i3 i4 i5
    have gS' := hk' S _ (by simpa using hSI) gS
    show wpAny _ X.A.in1 (updateSeq S (fun _ => #[]) >>= _) _ _ _
    refine wpAny_bind ?_
    refine wpAny_updateSeq gS' rfl (wpAny_bind (wpAny_letGo (wpAny_pure ?_)))
    have I2 := I1.turned (h' := h'.update S (Obj.mapSeq fun _ => (#[] : Array Value))) (t' := tk') (it := S) (fun b o hb e => (Heap.get?_update_ne _ _ _ _ hb).trans e) nS s1 s3 s4 s5
    exact hR i xb ub H _ hxb hub (fun j' hj' => hbest j' (by omega)) I2 sm
  | succ r ih =>
    intro j i H s xb ub tb c hr hj I sm nS nI gS hit hxb hub hij hbest
    have hlt : j + 1 < vs.length := by omega
    obtain ⟨its, rv, tup, hz⟩ := I.tuple (seT sm hS)
    have W := Walks.tuple (prog := X.prog) (w := X.w) (A := X.A.in1) hh It t htI its.toArray
    have hsz : its.toArray.size = vs.length := by rw [List.size_toArray]; exact rv.length.symm
    refine codeAny_builtin PySem.F.entry_max_loop ?_
    rw [Around.under_plainId PySem.F.plain_max_loop _]
    show wpAny _ X.A.in1 (seqItems? (.ref S) >>= _) _ _ _
    refine wpAny_bind (wpAny_seqItems gS rfl ?_)
    show wpAny _ X.A.in1 (tryCatch (pyNext (.ref It)) _ >>= _) _ _ _
    refine wpAny_bind (wpAny_tryCatch (W.item (j + 1) _ _ _ (by rw [hsz]; exact hlt) ⟨hit, tup⟩ fun v h' tk' hP hst' hk' => ?_))
    have hv : its[j + 1]? = some v := by simpa using hP
    obtain ⟨x, hx⟩ : ∃ x, vs[j + 1]? = some x := ⟨_, List.getElem?_eq_getElem hlt⟩
    obtain ⟨v', ev, rel⟩ := rv.get hx
    obtain rfl : v' = v := Option.some.inj (ev.symm.trans hv)
    obtain ⟨_, i1, i2, i3, i4, i5⟩ := fI H nI
    obtain ⟨_, s1, s2, s3, s4, s5⟩ := fS H nS
    have I1 := I.turned (h' := h') (t' := tk') (it := It) (fun b o hb e => hk' b o (by simpa using hb) e) nI i1 i3 i4 i5
    have gS' := hk' S _ (by simpa using hSI) gS
    obtain ⟨oI', hoI', hoc, hod⟩ := id hst'.1
    have J : Inv X (pins ++ [(S, seqObj "list" #[ub, .int (kf i) tb] c), (It, oI')]) σ H { s with heap := h', toks := tk' } := I1.pins_of fun p hp => by
      rcases List.mem_append.mp hp with hp | hp
      · exact I1.pin p (List.mem_append_right _ hp)
      · rcases List.mem_cons.mp hp with rfl | hp
        · exact ⟨gS', nS, s1, s2, fun v z => nomatch z⟩
        · rw [List.mem_singleton.mp hp]
          exact ⟨hoI', nI, i1, i2, fun v z => by rw [show (It, oI').2.data = oI'.data from rfl, hod] at z; cases z⟩
    show wpAny _ X.A.in1 (tryCatch (holding [v'] (call (.ref f) [v'])) _ >>= _) _ _ _
    refine wpAny_bind (wpAny_tryCatch (wpAny_holding (wpAny_mono (turn (j + 1) x v' _ H _ hx rel J sm) (fun y s2 he => ?_) fun _ _ hF => hF.elim)))
    obtain ⟨yv, H2, J2, ry, rfl, sm2⟩ := he
    obtain ⟨t2, rfl⟩ := ry
    have pS := J2.pin (S, seqObj "list" #[ub, .int (kf i) tb] c) (List.mem_append_right _ (List.mem_append_right _ (.head _)))
    have pI := J2.pin (It, oI') (List.mem_append_right _ (List.mem_append_right _ (.tail _ (.head _))))
    have J3 : Inv X pins σ H2 s2 := J2.pins_of fun p hp => J2.pin p (List.mem_append_right _ (List.mem_append_left _ hp))
    have hit2 : s2.heap.IsTupleIter It t (j + 1 + 1) := ⟨oI', pI.1, hoc, hod⟩
    show wpAny _ X.A.in1 (tryCatch (holding [v', .int (kf (j + 1)) t2] (richCompare .Gt (.int (kf (j + 1)) t2) (.int (kf i) tb) >>= _)) _ >>= _) _ _ _
    refine wpAny_bind (wpAny_tryCatch (wpAny_holding (wpAny_bind (CmpOf.ints_gt (prog := X.prog) (w := X.w) (A := X.A.in1) (P := fun i v => ∃ t, v = .int (kf i) t) kf (fun i v h => h) (j + 1) i _ _ _ _ _ ⟨t2, rfl⟩ ⟨tb, rfl⟩ ?_))))
    refine wpAny_bind (wpAny_holding (wpAny_truthy_bool ?_))
    refine wpAny_bind (wpAny_letGo (wpAny_pure ?_))
    by_cases hb' : kf (j + 1) > kf i
    · obtain ⟨c2, hc2⟩ : ∃ c2, (s2.heap.update S (Obj.mapSeq fun _ => #[v', .int (kf (j + 1)) t2])).get? S = some (seqObj "list" #[v', .int (kf (j + 1)) t2] c2) := ⟨_, get?_update_seq pS.1 fun _ => #[v', .int (kf (j + 1)) t2]⟩
      simp only [hb', decide_true, if_true]
      refine wpAny_bind ?_
      refine wpAny_updateSeq pS.1 rfl (wpAny_bind (wpAny_letGo ?_))
      rw [hname]
      have I4 := J3.turned (h' := s2.heap.update S (Obj.mapSeq fun _ => #[v', .int (kf (j + 1)) t2])) (t' := s2.toks) (it := S) (fun b o hb e => (Heap.get?_update_ne _ _ _ _ hb).trans e) pS.2.1 s1 s3 s4 s5
      refine wpAny_pure ⟨plainId_quiet PySem.F.plain_max_loop _, ih (j + 1) (j + 1) H2 _ x v' t2 c2 (by omega) hlt I4 sm2 pS.2.1 pI.2.1 hc2 ⟨oI', (Heap.get?_update_ne _ _ _ _ hSI.symm).trans pI.1, hoc, hod⟩ hx rel (Nat.le_refl _) fun j' hj' => ?_⟩
      by_cases e : j' = j + 1
      · subst e
        exact ⟨by omega, fun _ => by omega⟩
      · have hb1 := hbest j' (by omega)
        have hb2 := hb1.1
        exact ⟨by omega, fun _ => by omega⟩
    · simp only [hb', decide_false, Bool.false_eq_true, if_false]
      refine wpAny_bind (wpAny_letGo ?_)
      rw [hname]
      refine wpAny_pure ⟨plainId_quiet PySem.F.plain_max_loop _, ih (j + 1) i H2 _ xb ub tb c (by omega) hlt J3 sm2 pS.2.1 pI.2.1 pS.1 hit2 hxb hub (by omega) fun j' hj' => ?_⟩
      by_cases e : j' = j + 1
      · subst e
        exact ⟨by omega, fun _ => by omega⟩
      · exact hbest j' (by omega)
/-- max(t, key=f), t a tuple -/
theorem max_keyI {t f : Addr} {vs : List V} {Q : Value → Shared → Prop} {E : Value → Shared → Prop} (kf : Nat → Int) (hh : X.A.handled = none) (I : Inv X pins σ H s) (hS : SqT X.K H t vs) (hne : 0 < vs.length)
    (turn : ∀ (i : Nat) (x : V) (u : Value) (pins' : List (Addr × Obj)) (H1 : Hp) (s : Shared), vs[i]? = some x → RelV x u → Inv X pins' σ H1 s → Same H H1 →
      wpAny (model X.prog X.w) X.A.in1 (call (.ref f) [u]) (EP X pins' σ (fun y H' => y = .int (kf i) ∧ Same H H')) (fun _ _ => False) s)
    (hQ : ∀ (i : Nat) (x : V) (u : Value) (H1 : Hp) (s : Shared), vs[i]? = some x → RelV x u → (∀ j, j < vs.length → kf i ≥ kf j ∧ (j < i → kf i > kf j)) → Inv X pins σ H1 s → Same H H1 → Q u s) :
    wpAny (model X.prog X.w) X.A (call (.builtin "max") [.ref t] [(Str.ofString "key", .ref f)]) Q E s := by
  have hname : (toString "max" ++ toString ".loop" : String) = "max.loop" := by decide
  obtain ⟨its, rv, tup, hz⟩ := I.tuple hS
  have htt : t < s.heap.objs.size := by obtain ⟨o, e, _⟩ := id tup; exact Heap.lt_size e
  refine kmk_tree PySem.F.kind_max PySem.F.plain_max PySem.F.entry_max (kmk_max_key _ _) ?_
  show wpAny _ X.A.in1 (Builtin.Builtins.bindParams "max" ["key", "default"] 0 ⟨[], [(Str.ofString "key", .ref f)]⟩ >>= _) _ _ s
  refine wpAny_bind (wpAny_of_eq (show Builtin.Builtins.bindParams "max" ["key", "default"] 0 ⟨[], [(Str.ofString "key", .ref f)]⟩ = pure [some (.ref f), none] from rfl) ?_)
  refine wpAny_bind (wpAny_pure ?_)
  refine wpAny_bind (wpAny_pyIter_tuple tup ?_)
  refine wpAny_bind (wpAny_newList ?_ (Nat.zero_le _))
  rw [hname]
  have hS1 : (s.heap.push { cls := .type "tuple_iterator", data := .fields #[.ref t, .int 0 0] }).objs.size = s.heap.objs.size + 1 := size_push' ..
  have htI : t ≠ s.heap.objs.size := Nat.ne_of_lt htt
  have hSI : (s.heap.push { cls := .type "tuple_iterator", data := .fields #[.ref t, .int 0 0] }).objs.size ≠ s.heap.objs.size := by rw [hS1]; exact Nat.ne_of_gt (Nat.lt_succ_self _)
  refine wpAny_pure ⟨plainId_quiet PySem.F.plain_max_loop _, ?_⟩
  have gI : ((s.heap.push { cls := .type "tuple_iterator", data := .fields #[.ref t, .int 0 0] }).push (seqObj "list" #[] 0)).get? s.heap.objs.size = some { cls := .type "tuple_iterator", data := .fields #[.ref t, .int 0 0] } :=
    Heap.get?_push_of_some _ (Heap.get?_push_size _ rfl)
  have gS : ((s.heap.push { cls := .type "tuple_iterator", data := .fields #[.ref t, .int 0 0] }).push (seqObj "list" #[] 0)).get? (s.heap.push { cls := .type "tuple_iterator", data := .fields #[.ref t, .int 0 0] }).objs.size = some (seqObj "list" #[] 0) := Heap.get?_push_size _ rfl
  have fI : ∀ H', H' s.heap.objs.size = none → FpOk X pins H' s.heap.objs.size := fun H' n => I.fpOk (Nat.le_refl _) n
  have fS : ∀ H', H' (s.heap.push { cls := .type "tuple_iterator", data := .fields #[.ref t, .int 0 0] }).objs.size = none → FpOk X pins H' (s.heap.push { cls := .type "tuple_iterator", data := .fields #[.ref t, .int 0 0] }).objs.size := fun H' n => I.fpOk (by rw [hS1]; exact Nat.le_succ _) n
  have nI : H s.heap.objs.size = none := I.hok.fresh (Nat.le_refl _)
  have nS : H (s.heap.push { cls := .type "tuple_iterator", data := .fields #[.ref t, .int 0 0] }).objs.size = none := I.hok.fresh (by rw [hS1]; exact Nat.le_succ _)
  have I0 : Inv X pins σ H { s with heap := (s.heap.push { cls := .type "tuple_iterator", data := .fields #[.ref t, .int 0 0] }).push (seqObj "list" #[] 0) } := I.kept (t' := s.toks) fun b o e => Heap.get?_push_of_some _ (Heap.get?_push_of_some _ e)
  have tup0 : ((s.heap.push { cls := .type "tuple_iterator", data := .fields #[.ref t, .int 0 0] }).push (seqObj "list" #[] 0)).IsTuple t its.toArray := by
    obtain ⟨o, e, r⟩ := id tup
    exact ⟨o, Heap.get?_push_of_some _ (Heap.get?_push_of_some _ e), r⟩
  generalize (s.heap.push { cls := .type "tuple_iterator", data := .fields #[.ref t, .int 0 0] }).objs.size = S at *
  generalize (s.heap.push { cls := .type "tuple_iterator", data := .fields #[.ref t, .int 0 0] }).push (seqObj "list" #[] 0) = h0 at *
  generalize s.heap.objs.size = It at *
  have W := Walks.tuple (prog := X.prog) (w := X.w) (A := X.A.in1) hh It t htI its.toArray
  have hsz : its.toArray.size = vs.length := by rw [List.size_toArray]; exact rv.length.symm
  refine codeAny_builtin PySem.F.entry_max_loop ?_
  rw [Around.under_plainId PySem.F.plain_max_loop _]
  show wpAny _ X.A.in1 (seqItems? (.ref _) >>= _) _ _ _
  refine wpAny_bind (wpAny_seqItems gS rfl ?_)
  show wpAny _ X.A.in1 (tryCatch (pyNext (.ref It)) _ >>= _) _ _ _
  refine wpAny_bind (wpAny_tryCatch (W.item 0 _ _ _ (by rw [hsz]; exact hne) ⟨⟨_, gI, rfl, rfl⟩, tup0⟩ fun v h' tk' hP hst' hk' => ?_))
  have hv : its[0]? = some v := by simpa using hP
  obtain ⟨x, hx⟩ : ∃ x, vs[0]? = some x := ⟨_, List.getElem?_eq_getElem hne⟩
  obtain ⟨v', ev, rel⟩ := rv.get hx
  obtain rfl : v' = v := Option.some.inj (ev.symm.trans hv)
  obtain ⟨_, i1, i2, i3, i4, i5⟩ := fI H nI
  obtain ⟨_, s1, s2, s3, s4, s5⟩ := fS H nS
  have I1 := I0.turned (h' := h') (t' := tk') (it := It) (fun b o hb e => hk' b o (by simpa using hb) e) nI i1 i3 i4 i5
  have gS' := hk' S _ (by simpa using hSI) gS
  obtain ⟨oI', hoI', hoc, hod⟩ := id hst'.1
  have J : Inv X (pins ++ [(S, seqObj "list" #[] 0), (It, oI')]) σ H { s with heap := h', toks := tk' } := I1.pins_of fun p hp => by
    rcases List.mem_append.mp hp with hp | hp
    · exact I1.pin p (List.mem_append_right _ hp)
    · rcases List.mem_cons.mp hp with rfl | hp
      · exact ⟨gS', nS, s1, s2, fun v z => nomatch z⟩
      · rw [List.mem_singleton.mp hp]
        exact ⟨hoI', nI, i1, i2, fun v z => by rw [show (It, oI').2.data = oI'.data from rfl, hod] at z; cases z⟩
  show wpAny _ X.A.in1 (tryCatch (holding [v'] (call (.ref f) [v'])) _ >>= _) _ _ _
  refine wpAny_bind (wpAny_tryCatch (wpAny_holding (wpAny_mono (turn 0 x v' _ H _ hx rel J (.refl H)) (fun y s2 he => ?_) fun _ _ hF => hF.elim)))
  obtain ⟨yv, H2, J2, ry, rfl, sm2⟩ := he
  obtain ⟨t2, rfl⟩ := ry
  have pS := J2.pin (S, seqObj "list" #[] 0) (List.mem_append_right _ (List.mem_append_right _ (.head _)))
  have pI := J2.pin (It, oI') (List.mem_append_right _ (List.mem_append_right _ (.tail _ (.head _))))
  have J3 : Inv X pins σ H2 s2 := J2.pins_of fun p hp => J2.pin p (List.mem_append_right _ (List.mem_append_left _ hp))
  obtain ⟨c2, hc2⟩ : ∃ c2, (s2.heap.update S (Obj.mapSeq fun _ => #[v', .int (kf 0) t2])).get? S = some (seqObj "list" #[v', .int (kf 0) t2] c2) := ⟨_, get?_update_seq pS.1 fun _ => #[v', .int (kf 0) t2]⟩
  show wpAny _ X.A.in1 (updateSeq S (fun _ => #[v', .int (kf 0) t2]) >>= _) _ _ _
  refine wpAny_bind ?_
  refine wpAny_updateSeq pS.1 rfl ?_
  rw [hname]
  have I4 := J3.turned (h' := s2.heap.update S (Obj.mapSeq fun _ => #[v', .int (kf 0) t2])) (t' := s2.toks) (it := S) (fun b o hb e => (Heap.get?_update_ne _ _ _ _ hb).trans e) pS.2.1 s1 s3 s4 s5
  refine wpAny_pure ⟨plainId_quiet PySem.F.plain_max_loop _, max_loopI kf hh hS hSI htI fS fI turn (fun i x u H1 s' h1 h2 h3 h4 h5 => hQ i x u H1 s' h1 h2 h3 h4 h5) _ 0 0 H2 _ x v' t2 c2 rfl hne I4 sm2 pS.2.1 pI.2.1 hc2 ⟨oI', (Heap.get?_update_ne _ _ _ _ hSI.symm).trans pI.1, hoc, hod⟩ hx rel (Nat.le_refl _) fun j' hj' => ?_⟩
  have e : j' = 0 := by omega
  subst e
  exact ⟨by omega, fun h => absurd h (Nat.lt_irrefl _)⟩
end
end Cl

set_option maxHeartbeats 0
namespace Cl
open PySem PySem.Spec PyProof.Rows L2
/-- what stands but for the table at P -/
def hp (P : Addr) (H : Hp) : Hp := fun b => if b = P then none else H b
theorem hp_at {P b : Addr} {H : Hp} {o : HO} (h : hp P H b = some o) : b ≠ P ∧ H b = some o := by
  unfold hp at h
  split at h
  · cases h
  · exact ⟨by assumption, h⟩
theorem hp_of {P b : Addr} {H : Hp} {o : HO} (n : b ≠ P) (h : H b = some o) : hp P H b = some o := by
  unfold hp
  rw [if_neg n]
  exact h
theorem SameX.to {P : Addr} {H H' : Hp} (s : SameX P H H') : Same (hp P H) H' := fun b o e => s b o (hp_at e).1 (hp_at e).2
theorem SameX.refl {P : Addr} (H : Hp) : SameX P H H := fun _ _ _ e => .of e
section
variable {K : PySem.W.Frag} {H H' : Hp} {P : Addr} {q : Str}
theorem dnT {a : Addr} {xs : List V} (t : LT H P q) (h : SqT K H a xs) : SqT K (hp P H) a xs := by
  obtain ⟨cs, e, _⟩ := t
  have ne : ∀ u, H a = some u → (∀ φ, u ≠ .ext φ) → a ≠ P := fun u z n y => by
    rw [y, e] at z
    exact n _ (Option.some.inj z).symm
  rcases h with (h | ⟨o, h⟩) | h
  · exact .inl (.inl (hp_of (ne _ h fun φ z => nomatch z) h))
  · exact .inl (.inr ⟨o, hp_of (ne _ h fun φ z => nomatch z) h⟩)
  · exact .inr h
theorem dn2 {v : V} {p : Int × Int} (t : LT H P q) (h : At2 K H v p) : At2 K (hp P H) v p := by
  obtain ⟨a, rfl, h⟩ := h
  exact ⟨a, rfl, dnT t h⟩
theorem dnL {v : V} {l : Ln} (t : LT H P q) (h : AtL K H v l) : AtL K (hp P H) v l := by
  obtain ⟨a, u, w, rfl, h1, h2, h3⟩ := h
  exact ⟨a, u, w, rfl, dnT t h1, dn2 t h2, dn2 t h3⟩
theorem AtL.sameX {v : V} {l : Ln} (h : AtL K H v l) (t : LT H P q) (s : SameX P H H') : AtL K H' v l := (dnL t h).same s.to
theorem seX {a : Addr} {xs : List V} (t : LT H P q) (s : SameX P H H') (h : SqT K H a xs) : SqT K H' a xs := seT s.to (dnT t h)
end
def tLamK (X : Cx) (P : Addr) (params : Arguments) (body : Expr) (scope : Scope) : TE := fun _ H Q => LT H P (X.env.qual ++ "<lambda>") ∧ ∀ f c' H1, SameX P H H1 → LT H1 P (X.env.qual ++ "<lambda>") →
  H1 f = some (LamO X params body scope c' f) → H1 c' = some (LamX.CodeO c' (X.env.qual ++ "<lambda>")) → Q (.ref f) H1
/-- what max by key asks behind its argument v -/
def keyQ (X : Cx) (P : Addr) (t : TE) (σ : L2.St) (Q : VK) (v : V) (H1 : Hp) : Prop := ∃ (tt : Addr) (vs : List V) (kf : Nat → Int), v = .ref tt ∧ SqT X.K H1 tt vs ∧ 0 < vs.length ∧ LT H1 P (X.env.qual ++ "<lambda>") ∧
  (∀ i x H2, vs[i]? = some x → SameX P H1 H2 → LT H2 P (X.env.qual ++ "<lambda>") → t (some x :: σ) H2 (fun y H3 => y = .int (kf i) ∧ Same H2 H3)) ∧
  ∀ i x H2, vs[i]? = some x → (∀ j, j < vs.length → kf i ≥ kf j ∧ (j < i → kf i > kf j)) → SameX P H1 H2 → LT H2 P (X.env.qual ++ "<lambda>") → Q x H2
def keyQs (X : Cx) (P : Addr) (t : TE) (σ : L2.St) (Q : VK) : List V → Hp → Prop
  | [v], H1 => keyQ X P t σ Q v H1
  | _, _ => False
def tMaxKey (X : Cx) (P : Addr) (t te : TE) : TE := fun σ H Q => te σ H (keyQ X P t σ Q)
section
variable {X : Cx}
theorem pe_lamK {c P : Addr} {params : Arguments} {body : Expr} {scope : Scope} {a : Str} {pos : Pos} (TB : GxR.TabB X.base X.mg c P) (hcode : X.env.code = .ref c) (L : LamK X.env.scope scope a) (hdef : defaultsOf params X.env = ([], [])) :
    PE X (.Lambda params body scope pos) (tLamK X P params body scope) :=
  ⟨fun pins s σ H Q I h => lam_make3 I TB hcode h.1 hdef (L.has I.ok) fun f c' H1 s' I1 sx lt hf hc => ⟨.ref f, H1, I1, rfl, h.2 f c' H1 sx lt hf hc⟩⟩
theorem pe_maxKey {k : Nat} {c P : Addr} {e : Expr} {params : Arguments} {body : Expr} {scope : Scope} {a : Str} {p pos lp kp : Pos} {t te : TE} (hr : RG (k + 2) X.A) (hg : Gl X "max") (hm : X.mg "max" = none) (TB : GxR.TabB X.base X.mg c P) (hcode : X.env.code = .ref c)
    (L : LamK X.env.scope scope a) (ha : a ∉ X.N) (hdef : defaultsOf params X.env = ([], []))
    (hbind : ∀ (q : Str) (cl : List (Str × Addr)) (pm cv ctv u : Value), bindArgs (PySem.W.kla_fn "<lambda>" q params body scope cl pm cv ctv) ⟨[u], []⟩ = pure [(a, u)])
    (he : PE X e te) (hbody : ∀ (A : Around) (outer : List Env) (s : Shared) (H : Hp) (f c' : Addr), RG k (A.deeper (LamX.lamEnv X scope s.heap.objs.size f c')) → PE (lamCx1 X a A outer s H scope f c') body t)
    (hs1 : starEach [e] X.env = (false, eval e X.env) :: starEach [] X.env := by rfl) :
    PE X (.Call (.Name "max" p) [e] [⟨some "key", .Lambda params body scope lp, kp⟩] pos) (tMaxKey X P t te) := by
  refine ⟨fun pins s σ H Q I h => ?_⟩
  refine wpAny_Call_Name_kw (ld_blt I hg hm PyProof.Rows.boot_max ?_ (by decide) (by decide))
  have hargs : PA X [e] _ := pa_cons he pa_nil (hs := hs1)
  have hk : PK X [⟨some "key", .Lambda params body scope lp, kp⟩] _ := pk_cons (pe_lamK (P := P) TB hcode L hdef) pk_nil
  refine PyProof.Rows.callWith_kw (thn (hargs.run pos pins s σ H (keyQs X P t σ Q) I h) fun us s1 ⟨vs0, H1, I1, r1, q1⟩ => ?_) (by rw [hs1]; rfl) (by rw [hs1]; rfl) (by rfl) (by rfl)
  obtain ⟨v, rfl⟩ : ∃ v, vs0 = [v] := by
    match vs0, q1 with
    | [v], _ => exact ⟨v, rfl⟩
    | [], q => exact False.elim q
    | _ :: _ :: _, q => exact False.elim q
  obtain ⟨tt, vs, kf, rfl, hS, hne, lt1, ht, hq⟩ := q1
  obtain ⟨u, rfl, ru⟩ := vals1 r1
  cases ru
  refine thn (hk.run pos pins s1 σ H1 (fun ws H2 => ∃ f c', ws = [.ref f] ∧ SameX P H1 H2 ∧ LT H2 P (X.env.qual ++ "<lambda>") ∧ H2 f = some (LamO X params body scope c' f) ∧ H2 c' = some (LamX.CodeO c' (X.env.qual ++ "<lambda>"))) I1 ?_) fun ws s2 ⟨zs, H2, I2, r2, q2⟩ => ?_
  · exact ⟨lt1, fun f c' H2 sx lt hf hc => ⟨f, c', rfl, sx, lt, hf, hc⟩⟩
  obtain ⟨f, c', rfl, sx, lt2, hf, hc⟩ := q2
  obtain ⟨u, rfl, ru⟩ := vals1 r2
  cases ru
  have hS2 := seX lt1 sx hS
  show wpAny _ _ (call (.builtin "max") [.ref tt] [(Str.ofString "key", .ref f)]) _ _ s2
  refine max_keyI kf hr.room.hd I2 hS2 hne (fun i x u pins' H3 s3 hx rel I3 sm => ?_) fun i x u H3 s3 hx rel best I3 sm => ?_
  · refine wpAny_mono (call_key (k := k) I3 L ha (sm _ _ hf) (sm _ _ hc) hbind hr (fun A outer s H hr' => hbody A outer s H f c' hr') rel (ht i x H3 hx (sx.trans sm.x) (sm.lt lt2))) (fun y s4 hy => ?_) fun _ _ z => z
    obtain ⟨yv, H4, I4, ry, e, sm4⟩ := hy
    exact ⟨yv, H4, I4, ry, e, sm.trans sm4⟩
  · exact ⟨x, H3, I3, rel, hq i x H3 hx best (sx.trans sm.x) (sm.lt lt2)⟩
end
end Cl

set_option maxHeartbeats 0
namespace Cl
open PySem PySem.Spec PyProof.Rows L2
/-! ### dicts whose keys are pairs of numbers -/
section
variable {X : Cx} {pins : List (Addr × Obj)} {σ : L2.St} {H : Hp} {s : Shared}
/-- setdefault of a dict with tuple keys -/
theorem setd_pairs {a b : Addr} {kvs : List (List Key × V)} {k : List Key} {d : V} {r : Value} {A : Around} {E : Value → Shared → Prop} {Q : Value → Shared → Prop} (hu : A.units + 1 < cLine) (I : Inv X pins σ H s)
    (e : H a = some (.dT kvs)) (eb : H b = some (.tup (k.map kV))) (rd : RelV d r) (l : kvs.length < sizeLine)
    (q1 : ∀ v, valV kvs k = some v → ∀ (w' : Value) (s' : Shared), Inv X pins σ H s' → RelV v w' → Q w' s')
    (q2 : valV kvs k = none → ∀ (s' : Shared), Inv X pins σ (upd H a (.dT (putK kvs k d))) s' → Q r s') :
    wpAny (model X.prog X.w) A (call (.builtin "dict.setdefault") [.ref a, .ref b, r]) Q E s := by
  obtain ⟨hz0, lo, xs, rel, dd⟩ := dt_of I.hok e
  have hxs : xs.length ≤ sizeLine := (Paired.length rel) ▸ hz0
  have rv := rel.val k
  refine call_setdefault_heap (knd := tupleKind (mixKind X.prog X.w)) (k := k) (tupleKind_room_in1 hu) (key_of I.hok eb) lo dd (fun p hp => ?_) (fun hn h' d2 sb => ?_) hxs
  · rw [hp] at rv
    cases ev : valV kvs k with
    | none => rw [ev] at rv; exact (show False from rv).elim
    | some v0 => rw [ev] at rv; exact q1 v0 ev _ _ (I.tok _) rv
  · rw [hn] at rv
    cases ev : valV kvs k with
    | some v0 => rw [ev] at rv; exact (show False from rv).elim
    | none =>
      have ln := length_putK kvs k d
      obtain ⟨o, es, ep, ho, g2, g3, g4, _, g5⟩ := d2
      refine q2 ev _ (d_write I (by rw [e]; exact True.intro) sb ⟨o, ho⟩ ⟨by omega, lo, _, (rel.put k eb rd).keeps fun c ys ec => ?_, o, es, ep, ho, g2, g3, g4, g5⟩)
      rw [upd_ne (ne_of ec e fun z => nomatch z)]
      exact ec
end
/-- d.setdefault(t, x), t a tuple -/
def tSetdT (td ty tx : TE) : TE := fun σ H Q => td σ H fun x H1 => ∃ a, x = .ref a ∧ (∃ kvs, H1 a = some (.dT kvs)) ∧ ty σ H1 fun y H2 => tx σ H2 fun z H3 => ∃ (kvs : List (List Key × V)) (k : List Key) (b : Addr),
  H3 a = some (.dT kvs) ∧ y = .ref b ∧ H3 b = some (.tup (k.map kV)) ∧ kvs.length < sizeLine ∧ (∀ v, valV kvs k = some v → Q v H3) ∧ (valV kvs k = none → Q z (upd H3 a (.dT (putK kvs k z))))
section
variable {X : Cx} {o e f : Expr} {td ty tx : TE} {apos cpos : Pos}
theorem pe_setdT (hu : X.A.units + 64 < cLine) (ho : PE X o td) (he : PE X e ty) (hf : PE X f tx) (m : M2 X o "setdefault" apos e f cpos) : PE X (.Call (.Attribute o "setdefault" apos) [e, f] [] cpos) (tSetdT td ty tx) := by
  constructor
  intro pins s σ H Q I hq
  refine wpAny_Call_method m.base m.few m.line PySem.F.plainAttrs_dict PySem.F.slot_dict_setdefault PySem.F.type_dict_setdefault (thn (ho.run pins s σ H _ I hq) fun u s1 hs1 => ?_)
  obtain ⟨x, H1, I1, rx, a, ex, ⟨kv0, d0⟩, q1⟩ := hs1
  subst ex
  cases rx
  obtain ⟨t1, t2, _⟩ := isD_at I1 (.inr ⟨kv0, .inl d0⟩)
  refine ⟨t1, t2, ?_⟩
  rw [m.trees]
  refine Calls.callWith_builtin rfl (Calls.evalArgs_plain (Calls.spliced_cons (thn (he.run pins s1 σ H1 _ I1 q1) fun iv s2 hs2 => ?_)))
  obtain ⟨y, H2, I2, ry, q2⟩ := hs2
  refine Calls.spliced_cons (thn (hf.run pins s2 σ H2 _ I2 q2) fun fv s3 hs3 => Calls.spliced_nil ?_)
  obtain ⟨z, H3, I3, rz, kvs, k, b, ea, ey, eb, hl, q3, q4⟩ := hs3
  subst ey
  cases ry
  exact setd_pairs (by omega) I3 ea eb rz hl (fun v hv w' s4 I4 rw' => ⟨v, _, I4, rw', q3 v hv⟩) fun hn s4 I4 => ⟨z, _, I4, rz, q4 hn⟩
end
/-! ### sorted(d), d a dict whose keys are pairs of numbers, any number of them -/
def pkey (p : Int × Int) : List Key := [Sum.inl p.1, Sum.inl p.2]
/-- the pair that stands at an address -/
def ptAt (H : Hp) (b : Addr) : Int × Int := match H b with
  | some (.tup [.int i, .int j]) => (i, j)
  | _ => (0, 0)
def ptV (H : Hp) : Value → Int × Int
  | .ref b => ptAt H b
  | _ => (0, 0)
theorem ptAt_eq {H : Hp} {b : Addr} {p : Int × Int} (h : H b = some (.tup ((pkey p).map kV))) : ptAt H b = p := by
  unfold ptAt
  rw [h]
  rfl
def adV : Value → Addr
  | .ref b => b
  | _ => sysModules
/-- x behind y nowhere -/
def leP (p q : Int × Int) : Prop := SrtO.lexB q p = false
def rSortPt : List V → Hp → VK → Prop := fun vs H Q => ∃ (d : Addr) (kvs : List (List Key × V)) (ps : List (Int × Int)), vs = [.ref d] ∧ H d = some (.dT kvs) ∧ kvs.map (·.1) = ps.map pkey ∧
  ∀ ys : List (Addr × (Int × Int)), (ys.map (·.2)).Perm ps → (ys.map (·.2)).Pairwise leP → (∀ y ∈ ys, H y.1 = some (.tup [.int y.2.1, .int y.2.2])) → New H (.lst (ys.map fun y => V.ref y.1)) Q
section
variable {X : Cx}
theorem paired_keys {H : Hp} : ∀ {kvs : List (List Key × V)} {ks : List (List Key × Addr × Value)} {ps : List (Int × Int)}, KT H kvs ks → kvs.map (·.1) = ps.map pkey → ks.map (fun x => ptAt H x.2.1) = ps ∧ ∀ x ∈ ks, ∃ p : Int × Int, H x.2.1 = some (.tup [.int p.1, .int p.2])
  | [], _, [], .nil, _ => ⟨rfl, fun _ h => nomatch h⟩
  | [], _, _ :: _, .nil, e => nomatch e
  | _ :: _, _ :: _, [], .cons _ _, e => nomatch e
  | kv :: kvs, k :: ks, p :: ps, .cons h t, e => by
    rw [List.map_cons, List.map_cons] at e
    obtain ⟨e1, e2⟩ := List.cons.inj e
    obtain ⟨i1, i2⟩ := paired_keys t e2
    have h2 : H k.2.1 = some (.tup ((pkey p).map kV)) := by rw [← e1]; exact h.2.1
    refine ⟨by rw [List.map_cons, i1, ptAt_eq h2], fun x hx => ?_⟩
    rcases List.mem_cons.mp hx with rfl | hx
    · exact ⟨p, h2⟩
    · exact i2 x hx
theorem cr_sortPt (hc : X.calm = true) : CallR X (.builtin "sorted") rSortPt := by
  intro pins s σ H vs us Q I r h
  obtain ⟨d, kvs, ps, rfl, hd, hk, q⟩ := h
  obtain ⟨u, rfl, rx⟩ := vals1 r
  cases rx
  obtain ⟨hz0, lo, ks, pr, o, es, ep, ho, hx, hdt, he, hn⟩ := (I.hok d _ hd : ObjOk X.prog X.w H s.heap d (.dT kvs))
  obtain ⟨c1, c2⟩ := paired_keys pr hk
  have l1 : es.size = ks.length := size_of_entries he
  have l2 : kvs.length = ks.length := Paired.length pr
  refine Calls.call_function_entry kind_sorted plain_sorted entry_sorted (args_sorted1 _) ?_
  unfold Builtin.«sorted»
  refine wpAny_bind (m := checkCount "sorted" 1 1 _) (wpAny_pure (wpAny_bind (PySem.W.kdu_collect (A := X.A.in1) (kdl_raw lo hx hdt) (I.ok.hd hc) ho (by omega) fun h' tk acc hkp it => ?_)))
  have ea : acc.toList = ks.map fun x => Value.ref x.2.1 := by
    apply List.ext_getElem?
    intro j
    have lt1 : acc.toList.length = ks.length := by rw [Array.length_toList, it.1, l1]
    by_cases hj : j < ks.length
    · obtain ⟨en, hen, hv⟩ := it.2 j _ (Array.getElem?_eq_getElem (by rw [it.1, l1]; exact hj))
      have qe := entry_at he j
      rw [hen, List.getElem?_eq_getElem hj] at qe
      rw [Array.getElem?_toList, Array.getElem?_eq_getElem (by rw [it.1, l1]; exact hj), List.getElem?_map, List.getElem?_eq_getElem hj, hv, Option.some.inj qe]
      rfl
    · rw [List.getElem?_eq_none (by omega), List.getElem?_eq_none (by rw [List.length_map]; omega)]
  have I1 : Inv X pins σ H { s with heap := h', toks := tk } := I.kept hkp
  have la : acc.toList.length ≤ sizeLine := by rw [ea, List.length_map]; omega
  refine wpAny_bind (wpAny_newList ?_ la)
  have hoL : (h'.push (seqObj "list" acc.toList.toArray 0)).get? h'.objs.size = some (seqObj "list" acc.toList.toArray 0) := Heap.get?_push_size _ rfl
  have mem : ∀ v ∈ acc.toList, ∃ (b : Addr) (p : Int × Int), v = .ref b ∧ H b = some (.tup [.int p.1, .int p.2]) := fun v hv => by
    rw [ea] at hv
    obtain ⟨x, hx1, rfl⟩ := List.mem_map.mp hv
    obtain ⟨p, hp⟩ := c2 x hx1
    exact ⟨_, p, rfl, hp⟩
  have prs : ∀ v ∈ acc.toList, Srt.IsPair (h'.push (seqObj "list" acc.toList.toArray 0)) v (ptV H v).1 (ptV H v).2 := fun v hv => by
    obtain ⟨b, p, rfl, hb⟩ := mem v hv
    have e2 : ptV H (.ref b) = p := ptAt_eq hb
    rw [e2]
    obtain ⟨_, its2, r2, ob, hob, hcl, n, hdd⟩ := I1.hok _ _ hb
    obtain ⟨u1, u2, rfl, ri, rj⟩ := vals2 r2
    obtain ⟨t1, rfl⟩ := ri
    obtain ⟨t2, rfl⟩ := rj
    exact ⟨b, ob, t1, t2, n, rfl, Heap.get?_push_of_some _ hob, hcl, hdd⟩
  refine wpAny_bind (wpAny_holding (wpAny_call_entry slot_list_sort ⟨_, hoL, rfl⟩ entry_list_sort (SrtO.list_sort_ord (s := { s with heap := h'.push (seqObj "list" acc.toList.toArray 0), toks := tk }) (ltv := fun v u => SrtO.lexB (ptV H v) (ptV H u)) (SrtO.swo_lex (ptV H)) hoL la (fun h2 => SrtO.pairs_sortableO (by omega) prs fun ob hob => ?_) fun out hs hb => ⟨_, rfl, ?_⟩) (args_list_sort _)))
  · rw [hoL] at hob
    cases hob
    exact fun z => absurd (Value.type.inj z) (by decide)
  obtain ⟨e', he'⟩ := sortedHeap_at (vs := acc.toList) (out := out.toArray) hoL
  have om : ∀ v ∈ out, ∃ (b : Addr) (p : Int × Int), v = .ref b ∧ H b = some (.tup [.int p.1, .int p.2]) := fun v hv => mem v (hb.perm.mem_iff.mp hv)
  have eo : out.map (fun v => V.ref (adV v)) = (out.map fun v => (adV v, ptV H v)).map fun y => V.ref y.1 := by rw [List.map_map]; rfl
  have rv : Vals ((out.map fun v => (adV v, ptV H v)).map fun y => V.ref y.1) out := by
    rw [← eo]
    clear hs hb he' eo
    induction out with
    | nil => exact .nil
    | cons v r ih =>
      obtain ⟨b, p, rfl, _⟩ := om v (List.mem_cons_self ..)
      exact .cons rfl (ih fun w hw => om w (List.mem_cons_of_mem _ hw))
  have q2 := q (out.map fun v => (adV v, ptV H v)) ?perm ?srt fun y hy => ?tup
  case perm =>
    rw [List.map_map, ← c1]
    have e3 : ks.map (fun x => ptAt H x.2.1) = acc.toList.map (ptV H) := by rw [ea, List.map_map]; rfl
    rw [e3]
    exact hb.perm.map (ptV H)
  case srt =>
    rw [List.map_map]
    exact List.pairwise_map.mpr hs
  case tup =>
    obtain ⟨v, hv, rfl⟩ := List.mem_map.mp hy
    obtain ⟨b, p, rfl, hb2⟩ := om v hv
    have e2 : ptV H (.ref b) = p := ptAt_eq hb2
    show H b = some (.tup [.int (ptV H (.ref b)).1, .int (ptV H (.ref b)).2])
    rw [e2]
    exact hb2
  have hl : ((out.map fun v => (adV v, ptV H v)).map fun y => V.ref y.1).length ≤ sizeLine := by
    rw [List.length_map, List.length_map, hb.len]
    exact la
  refine wpAny_pure ⟨_, rfl, .ref h'.objs.size, upd H h'.objs.size (.lst ((out.map fun v => (adV v, ptV H v)).map fun y => V.ref y.1)), I1.laid (t' := tk) (fun b u e => ?_) (Nat.le_refl _) ⟨hl, out, e', rv, he'⟩, rfl, q2.go _ (I1.hok.fresh (Nat.le_refl _))⟩
  have hlt : b < h'.objs.size := Heap.lt_size e
  rw [sortedHeap_old (Nat.ne_of_lt hlt) (by rw [size_push']; exact Nat.lt_succ_of_lt hlt)]
  exact Heap.get?_push_of_some _ e
end
end Cl

set_option maxHeartbeats 0
namespace Cl
open PySem PySem.Spec PyProof.Rows L2
/-! ### sorted lists of tuples of numbers and texts, any number of them -/
def vItem : V → Int ⊕ List Nat
  | .int i => .inl i
  | .str x => .inr x.cps.toList
  | _ => .inl 0
def fits (sh : Nat → Bool) : Nat → List V → Prop
  | _, [] => True
  | i, .int _ :: r => sh i = false ∧ fits sh (i + 1) r
  | i, .str _ :: r => sh i = true ∧ fits sh (i + 1) r
  | _, _ :: _ => False
theorem items_fit {sh : Nat → Bool} : ∀ {vs : List V} {us : List Value} {i : Nat}, Vals vs us → fits sh i vs → tupItems sh i us = some (vs.map vItem)
  | _, _, _, .nil, _ => rfl
  | v :: vs, u :: us, i, .cons r t, h => by
    cases v with
    | int k =>
      obtain ⟨tk, rfl⟩ := r
      obtain ⟨h1, h2⟩ := h
      show (if sh i = true then none else (tupItems sh (i + 1) us).map (Sum.inl k :: ·)) = _
      rw [if_neg (by rw [h1]; exact Bool.false_ne_true), items_fit t h2]
      rfl
    | str x =>
      obtain ⟨tk, rfl⟩ := r
      obtain ⟨h1, h2⟩ := h
      show (if sh i = true then (tupItems sh (i + 1) us).map (Sum.inr x.cps.toList :: ·) else none) = _
      rw [if_pos h1, items_fit t h2]
      rfl
    | _ => exact h.elim
theorem fit_first {sh : Nat → Bool} {v : V} {vs : List V} {u : Value} (r : RelV v u) (h : fits sh 0 (v :: vs)) : (sh 0 = false → ∃ k t, u = .int k t) ∧ (sh 0 = true → ∃ x t, u = .str x t) := by
  cases v with
  | int k =>
    obtain ⟨tk, rfl⟩ := r
    exact ⟨fun _ => ⟨_, _, rfl⟩, fun z => absurd (h.1.symm.trans z) (by decide)⟩
  | str x =>
    obtain ⟨tk, rfl⟩ := r
    exact ⟨fun z => absurd (h.1.symm.trans z) (by decide), fun _ => ⟨_, _, rfl⟩⟩
  | _ => exact h.elim
theorem tups_all {h : Heap} {sh : Nat → Bool} : ∀ {vs : List Value}, (∀ v ∈ vs, ∃ f, TupOf h sh v f) → ∃ fs, TupsOf h sh vs fs ∧ fs.length = vs.length
  | [], _ => ⟨[], .nil, rfl⟩
  | v :: vs, a => by
    obtain ⟨f, hf⟩ := a v (List.mem_cons_self ..)
    obtain ⟨fs, h1, h2⟩ := tups_all fun w hw => a w (List.mem_cons_of_mem _ hw)
    exact ⟨f :: fs, .cons hf h1, by rw [List.length_cons, List.length_cons, h2]⟩
abbrev ltT (a b : List (Int ⊕ List Nat)) : Bool := lexLt itemOrd a b
theorem swoT {α : Type} (k : α → List (Int ⊕ List Nat)) : SrtO.Swo fun x y => ltT (k x) (k y) := by
  refine ⟨fun x y h => ?_, fun x y z h1 h2 => ?_⟩
  · cases e : ltT (k y) (k x) with
    | false => rfl
    | true => exact ((lex_irrefl (O := itemOrd) (k x)).symm.trans (lex_trans (O := itemOrd) _ _ _ h e)).symm
  · cases e : ltT (k z) (k x) with
    | false => rfl
    | true =>
      rcases lex_negTrans (O := itemOrd) (k z) (k y) (k x) e with w | w
      · exact (h2.symm.trans w).symm
      · exact (h1.symm.trans w).symm
def rSortTup (K : PySem.W.Frag) (sh : Nat → Bool) : List V → Hp → VK → Prop := fun vs H Q => ∃ (a : Addr) (xs : List V) (ct : V → List V), vs = [.ref a] ∧ SqL K H a xs ∧
  (∀ x ∈ xs, ∃ t, x = .ref t ∧ SqT K H t (ct x) ∧ fits sh 0 (ct x) ∧ ct x ≠ []) ∧
  ∀ ys : List V, ys.Perm xs → ys.Pairwise (fun x y => ltT ((ct y).map vItem) ((ct x).map vItem) = false) → New H (.lst ys) Q
section
variable {X : Cx}
theorem cr_sortTup (sh : Nat → Bool) : CallR X (.builtin "sorted") (rSortTup X.K sh) := by
  intro pins s σ H vs us Q I r h
  obtain ⟨a, xs, ct, rfl, hs, hx, q⟩ := h
  obtain ⟨u, rfl, ru⟩ := vals1 r
  cases ru
  obtain ⟨its, rv, hl, hz⟩ := I.list hs
  obtain ⟨e1, e2⟩ := refs_back rv fun x m => (hx x m).elim fun t w => ⟨t, w.1⟩
  have at_ : ∀ v ∈ its, ∃ (t : Addr) (ob : Obj) (zs : List Value) (n : Nat), v = .ref t ∧ s.heap.get? t = some ob ∧ ob.cls = .type "tuple" ∧ ob.data = .seq zs.toArray n ∧ Vals (ct (backV v)) zs ∧ fits sh 0 (ct (backV v)) ∧ ct (backV v) ≠ [] := fun v hv => by
    obtain ⟨t, rfl⟩ := e2 v hv
    have hm : V.ref t ∈ xs := by rw [e1]; exact List.mem_map.mpr ⟨_, hv, rfl⟩
    obtain ⟨t', e, ht, hf, hne⟩ := hx _ hm
    cases e
    obtain ⟨zs, rz, ⟨ob, hob, hcl, n, hdd⟩, _⟩ := I.tuple ht
    exact ⟨t, ob, zs, n, rfl, hob, hcl, hdd, rz, hf, hne⟩
  refine SrtO.sorted_ord (ltv := fun v u => ltT ((ct (backV v)).map vItem) ((ct (backV u)).map vItem)) (swoT _) hl.isList (by rw [← rv.length]; exact hz) (fun h2 h1 a1 ha1 kk h' keep => ⟨tuples' true, fun R E hq => ?_, fun p p' m m' => ?_⟩) fun out hs1 hb1 => ?_
  · obtain ⟨fs, t1, t2⟩ := tups_all (h := h') (sh := sh) (vs := its) fun v hv => by
      obtain ⟨t, ob, zs, n, rfl, hob, hcl, hdd, rz, hf, hne⟩ := at_ v hv
      obtain ⟨k1, k2⟩ := kk t ob hob
      cases hc : ct (backV (.ref t)) with
      | nil => exact absurd hc hne
      | cons v0 vr =>
        rw [hc] at rz hf
        cases rz with
        | cons r0 rr =>
          obtain ⟨f1, f2⟩ := fit_first r0 hf
          exact ⟨_, t, ob, _, n, rfl, keep t ob k1 k2, hcl, hdd, rfl, f1, f2⟩
    exact tup_kind (by omega) t1 hq
  · have key : ∀ v ∈ its, (tupKind h' sh).keyOf v = some ((ct (backV v)).map vItem) := fun v hv => by
      obtain ⟨t, ob, zs, n, rfl, hob, hcl, hdd, rz, hf, hne⟩ := at_ v hv
      obtain ⟨k1, k2⟩ := kk t ob hob
      show tupKey h' sh (.ref t) = _
      simp only [tupKey, keep t ob k1 k2, hdd]
      exact items_fit rz hf
    exact tup_ltAt (s := { s with heap := h' }) true _ _ p.1 p'.1 _ _ (key _ m) (key _ m') ⟨rfl, rfl⟩
  · have h3 : ∀ u ∈ out, ∃ b, u = Value.ref b := fun u hu => e2 u (hb1.perm.mem_iff.mp hu)
    have pm : (out.map backV).Perm xs := by rw [e1]; exact hb1.perm.map backV
    obtain ⟨n, hn⟩ := sortedAll_at s.heap its out.toArray
    have q2 := q (out.map backV) pm (List.pairwise_map.mpr hs1)
    exact ⟨.ref (s.heap.objs.size + 1), _, I.laid (t' := s.toks) (o := .lst (out.map backV)) (fun b o e => sortedAll_old e) (Nat.le_succ _) ⟨by rw [pm.length_eq]; exact hz, out, n, vals_back h3, hn⟩, rfl, q2.go _ (I.hok.fresh (Nat.le_succ _))⟩
end
end Cl

namespace Cl
open PySem PySem.Spec PyProof.Rows L2
/-! ### comprehensions with two fors over tuples -/
theorem genT {K : PySem.W.Frag} {a : Addr} {xs : List V} {H0 : Hp} {Qd : Hp → Prop} {BODY : V → Hp → (Hp → Prop) → Prop} (Pv : Nat → Hp → Prop) (h0 : Pv 0 H0) (hl : ∀ i H, i ≤ xs.length → Pv i H → SqT K H a xs)
    (hs : ∀ i x H, xs[i]? = some x → Pv i H → BODY x H (Pv (i + 1))) (hd : ∀ H, Pv xs.length H → Qd H) :
    ∃ W : Nat → Nat → Hp → Prop, (∃ m, W 0 m H0) ∧ ∀ i m H, W i m H → ((Itt K a).stop i H ∧ Qd H) ∨ ((Itt K a).go i H ∧ ∃ Nx : Hp → Prop, (∀ H', Nx H' → ∃ m', m' < m ∧ W (i + 1) m' H') ∧ ∀ x H', (Itt K a).yld i H x H' → BODY x H' Nx) := by
  refine ⟨fun i m H => m = xs.length - i ∧ i ≤ xs.length ∧ Pv i H, ⟨xs.length, by simp, Nat.zero_le _, h0⟩, ?_⟩
  rintro i m H ⟨rfl, hi, p⟩
  have q := hl i H hi p
  by_cases hlt : i < xs.length
  · refine .inr ⟨⟨xs, xs[i], q, List.getElem?_eq_getElem hlt⟩, Pv (i + 1), fun H' p' => ⟨xs.length - (i + 1), by omega, rfl, hlt, p'⟩, fun x H' y => ?_⟩
    obtain ⟨e, y⟩ := y
    subst e
    exact hs i x _ (y xs q) p
  · have e : i = xs.length := by omega
    subst e
    exact .inl ⟨⟨xs, q, Nat.le_refl _⟩, hd H p⟩
section
variable {X : Cx} {K : PySem.W.Frag} {tg e : Expr} {te : TE}
theorem pi_tupk (hK : X.K = K) (h : PE X e te) : PI X tg e (iTup K te) := hK ▸ pi_tup h
theorem pi_listk (hK : X.K = K) (h : PE X e te) : PI X tg e (iList K te) := hK ▸ pi_list h
end
end Cl

set_option maxHeartbeats 0
namespace Cl
open PySem PySem.Spec PyProof.Rows L2
/-! ### rows of corners and what wants them -/
abbrev Wt := Str × Int × Int
abbrev Rw := Pt × Wt
def wV (w : Wt) : List V := [.str w.1, .int w.2.1, .int w.2.2]
def dW (w : Wt) : PyData := .tuple [.str w.1, .int w.2.1, .int w.2.2]
def wLe (a b : Wt) : Prop := ltT ((wV b).map vItem) ((wV a).map vItem) = false
theorem str_ext {s t : Str} (h : s.cps.toList = t.cps.toList) : s = t := by
  cases s
  cases t
  simp only at h
  congr
  exact Array.toList_inj.mp h
theorem wLe_antisymm {a b : Wt} (h1 : wLe a b) (h2 : wLe b a) : a = b := by
  have e := lex_total (O := itemOrd) _ _ h2 h1
  obtain ⟨s, i, j⟩ := a
  obtain ⟨t, k, l⟩ := b
  simp only [wV, vItem, List.map_cons, List.map_nil, List.cons.injEq, and_true, Sum.inr.injEq, Sum.inl.injEq] at e
  obtain ⟨e1, e2, e3⟩ := e
  rw [str_ext e1, e2, e3]
def wsOf (R : List Rw) (p : Pt) : List Wt := (R.filter fun r => decide (r.1 = p)).map (·.2)
theorem wsOf_app (R S : List Rw) (p : Pt) : wsOf (R ++ S) p = wsOf R p ++ wsOf S p := by
  unfold wsOf
  rw [List.filter_append, List.map_append]
theorem wsOf_same (R : List Rw) (r : Rw) : wsOf (R ++ [r]) r.1 = wsOf R r.1 ++ [r.2] := by
  rw [wsOf_app]
  congr 1
  unfold wsOf
  simp
theorem wsOf_else (R : List Rw) (r : Rw) (p : Pt) (h : r.1 ≠ p) : wsOf (R ++ [r]) p = wsOf R p := by
  rw [wsOf_app]
  have : wsOf [r] p = [] := by unfold wsOf; simp [h]
  rw [this, List.append_nil]
theorem wsOf_perm {R S : List Rw} (h : R.Perm S) (p : Pt) : (wsOf R p).Perm (wsOf S p) := (h.filter _).map _
/-- the corners, rising, each with what wants it, rising -/
structure IsDue (R : List Rw) (L : List (Pt × List Wt)) : Prop where
  srt : (L.map (·.1)).Pairwise leP
  nd : (L.map (·.1)).Nodup
  ws : ∀ e ∈ L, e.2.Perm (wsOf R e.1) ∧ e.2.Pairwise wLe
  mem : ∀ p, p ∈ L.map (·.1) ↔ ∃ r ∈ R, r.1 = p
theorem leP_antisymm {p q : Pt} (h1 : leP p q) (h2 : leP q p) : p = q := by
  have h1 := SrtO.lexB_no.mp h1
  have h2 := SrtO.lexB_no.mp h2
  exact Prod.ext (by omega) (by omega)
theorem nodup_perm {α : Type} [DecidableEq α] : ∀ {l m : List α}, l.Nodup → m.Nodup → (∀ x, x ∈ l ↔ x ∈ m) → l.Perm m := fun h1 h2 h => (List.perm_ext_iff_of_nodup h1 h2).mpr h
theorem keys_eq {a b : List Pt} (s1 : a.Pairwise leP) (s2 : b.Pairwise leP) (n1 : a.Nodup) (n2 : b.Nodup) (h : ∀ x, x ∈ a ↔ x ∈ b) : a = b :=
  List.Perm.eq_of_pairwise (fun _ _ _ _ => leP_antisymm) s1 s2 (nodup_perm n1 n2 h)
theorem due_eq : ∀ {L M : List (Pt × List Wt)}, L.map (·.1) = M.map (·.1) → (∀ e ∈ L, ∀ f ∈ M, e.1 = f.1 → e.2 = f.2) → L = M
  | [], [], _, _ => rfl
  | [], _ :: _, h, _ => by cases h
  | _ :: _, [], h, _ => by cases h
  | e :: L, f :: M, h, w => by
    rw [List.map_cons, List.map_cons] at h
    obtain ⟨h1, h2⟩ := List.cons.inj h
    have e2 := w e (List.mem_cons_self ..) f (List.mem_cons_self ..) h1
    rw [due_eq h2 fun x hx y hy => w x (List.mem_cons_of_mem _ hx) y (List.mem_cons_of_mem _ hy)]
    rw [show e = f from Prod.ext h1 e2]
theorem IsDue.eq {R S : List Rw} {L M : List (Pt × List Wt)} (a : IsDue R L) (b : IsDue S M) (h : R.Perm S) : L = M := by
  refine due_eq (keys_eq a.srt b.srt a.nd b.nd fun p => ?_) fun e he f hf ef => ?_
  · rw [a.mem, b.mem]
    constructor
    · rintro ⟨r, hr, z⟩
      exact ⟨r, h.mem_iff.mp hr, z⟩
    · rintro ⟨r, hr, z⟩
      exact ⟨r, h.mem_iff.mpr hr, z⟩
  · obtain ⟨p1, q1⟩ := a.ws e he
    obtain ⟨p2, q2⟩ := b.ws f hf
    refine List.Perm.eq_of_pairwise (fun _ _ _ _ => wLe_antisymm) q1 q2 (p1.trans ?_)
    rw [ef]
    exact (wsOf_perm h _).trans p2.symm
/-! ### where they stand -/
def AtW (H : Hp) (v : V) (w : Wt) : Prop := ∃ a, v = .ref a ∧ H a = some (.tup (wV w))
def AtRw (H : Hp) (v : V) (r : Rw) : Prop := ∃ p c w, v = .ref p ∧ H p = some (.tup [.ref c, .ref w]) ∧ H c = some (.tup [.int r.1.1, .int r.1.2]) ∧ H w = some (.tup (wV r.2))
def AtWk (K : PySem.W.Frag) (H : Hp) (v : V) (w : Wt) : Prop := ∃ a, v = .ref a ∧ SqT K H a (wV w)
def AtD (K : PySem.W.Frag) (H : Hp) (v : V) (e : Pt × List Wt) : Prop := ∃ a u b ws, v = .ref a ∧ SqT K H a [u, .ref b] ∧ At2 K H u e.1 ∧ SqT K H b ws ∧ AllAt (AtWk K H) ws e.2
def AtDue (K : PySem.W.Frag) (H : Hp) (v : V) (L : List (Pt × List Wt)) : Prop := ∃ a vs, v = .ref a ∧ SqT K H a vs ∧ AllAt (AtD K H) vs L
section
variable {K : PySem.W.Frag} {H H' : Hp} {v : V}
theorem AtW.same {w : Wt} (h : AtW H v w) (s : Same H H') : AtW H' v w := by
  obtain ⟨a, e, h⟩ := h
  exact ⟨a, e, s _ _ h⟩
theorem AtRw.same {r : Rw} (h : AtRw H v r) (s : Same H H') : AtRw H' v r := by
  obtain ⟨p, c, w, e, h1, h2, h3⟩ := h
  exact ⟨p, c, w, e, s _ _ h1, s _ _ h2, s _ _ h3⟩
theorem AtWk.same {w : Wt} (h : AtWk K H v w) (s : Same H H') : AtWk K H' v w := by
  obtain ⟨a, e, h⟩ := h
  exact ⟨a, e, seT s h⟩
theorem AtW.wk {w : Wt} (h : AtW H v w) : AtWk K H v w := by
  obtain ⟨a, e, h⟩ := h
  exact ⟨a, e, .inl (.inl h)⟩
theorem AtD.same {e : Pt × List Wt} (h : AtD K H v e) (s : Same H H') : AtD K H' v e := by
  obtain ⟨a, u, b, ws, e, h1, h2, h3, h4⟩ := h
  exact ⟨a, u, b, ws, e, seT s h1, h2.same s, seT s h3, h4.map fun _ _ z => z.same s⟩
theorem AtDue.same {L : List (Pt × List Wt)} (h : AtDue K H v L) (s : Same H H') : AtDue K H' v L := by
  obtain ⟨a, vs, e, h1, h2⟩ := h
  exact ⟨a, vs, e, seT s h1, h2.map fun _ _ z => z.same s⟩
def dD (e : Pt × List Wt) : PyData := .tuple [pd e.1, .tuple (e.2.map dW)]
theorem wks_dp : ∀ {ws : List V} {ls : List Wt}, AllAt (AtWk K H) ws ls → DpAll K H ws (ls.map dW)
  | _, _, .nil => .nil
  | _, _, .cons h t => by
    obtain ⟨a, rfl, h⟩ := h
    exact .cons (.tup h (.cons (.str _) (.cons (.int _) (.cons (.int _) .nil)))) (wks_dp t)
theorem ds_dp : ∀ {ws : List V} {ls : List (Pt × List Wt)}, AllAt (AtD K H) ws ls → DpAll K H ws (ls.map dD)
  | _, _, .nil => .nil
  | _, _, .cons h t => by
    obtain ⟨a, u, b, ws, rfl, h1, h2, h3, h4⟩ := h
    exact .cons (.tup h1 (.cons h2.dp (.cons (.tup h3 (wks_dp h4)) .nil))) (ds_dp t)
theorem AtDue.dp {L : List (Pt × List Wt)} (h : AtDue K H v L) : Dp K H v (.tuple (L.map dD)) := by
  obtain ⟨a, vs, rfl, h1, h2⟩ := h
  exact .tup h1 (ds_dp h2)
end
/-! ### the dict of lists: by setdefault and append -/
def kvO (E : List (Pt × Addr)) : List (List Key × V) := E.map fun e => (pkey e.1, V.ref e.2)
theorem pkey_inj {p q : Pt} (h : pkey p = pkey q) : p = q := by
  unfold pkey at h
  simp at h
  exact Prod.ext h.1 h.2
theorem kv_val : ∀ {E : List (Pt × Addr)} {e : Pt × Addr}, (E.map (·.1)).Nodup → e ∈ E → valV (kvO E) (pkey e.1) = some (.ref e.2)
  | [], _, _, h => nomatch h
  | f :: E, e, nd, h => by
    rw [List.map_cons, List.nodup_cons] at nd
    unfold kvO
    rw [List.map_cons]
    rcases List.mem_cons.mp h with z | h
    · rw [z]
      exact valV_pos rfl
    · rw [valV_neg (fun z => nd.1 (List.mem_map.mpr ⟨e, h, (pkey_inj z).symm⟩))]
      exact kv_val nd.2 h
theorem kv_keys (E : List (Pt × Addr)) : (kvO E).map (·.1) = (E.map (·.1)).map pkey := by
  unfold kvO
  rw [List.map_map, List.map_map]
  rfl
theorem val_kv : ∀ {E : List (Pt × Addr)} {p : Pt} {v : V}, valV (kvO E) (pkey p) = some v → ∃ e ∈ E, e.1 = p ∧ v = .ref e.2
  | [], _, _, h => by cases h
  | e :: E, p, v, h => by
    by_cases c : e.1 = p
    · unfold kvO at h
      rw [List.map_cons, valV_pos (by rw [c])] at h
      exact ⟨e, List.mem_cons_self .., c, (Option.some.inj h).symm⟩
    · unfold kvO at h
      rw [List.map_cons, valV_neg (fun z => c (pkey_inj z))] at h
      obtain ⟨f, hf, r⟩ := val_kv (E := E) h
      exact ⟨f, List.mem_cons_of_mem _ hf, r⟩
theorem kv_none {E : List (Pt × Addr)} {p : Pt} (h : valV (kvO E) (pkey p) = none) : ∀ e ∈ E, e.1 ≠ p := fun e he z =>
  valV_not h (List.mem_map.mpr ⟨(pkey e.1, .ref e.2), List.mem_map.mpr ⟨e, he, rfl⟩, by rw [z]⟩)
theorem put_none {E : List (Pt × Addr)} {p : Pt} {L : Addr} (h : valV (kvO E) (pkey p) = none) : putK (kvO E) (pkey p) (.ref L) = kvO (E ++ [(p, L)]) := by
  unfold putK
  rw [valV_any, h]
  unfold kvO
  rw [List.map_append]
  rfl
/-- nothing stood there (or what nothing is known of) -/
def NotOld (H0 : Hp) (p : Addr) : Prop := ∀ o, H0 p = some o → ∃ ps, o = .tbl ps ∧ ¬ TriplesOk ps.toList
theorem notOld {H H' : Hp} {p : Addr} (s : Same H H') (n : H' p = none) : NotOld H p := fun o e => by
  have k := s p o e
  rw [n] at k
  cases o with
  | tbl ps => exact ⟨ps, rfl, fun t => by obtain ⟨_, z, _⟩ := k t; cases z⟩
  | _ => cases k
theorem Same.upNo {H H' : Hp} {p : Addr} {o : HO} (s : Same H H') (h : NotOld H p) : Same H (upd H' p o) := fun b x e => by
  by_cases c : b = p
  · subst c
    obtain ⟨ps, rfl, t⟩ := h x e
    exact fun z => absurd z t
  · rw [upd_ne c]
    exact s b x e
/-- the dict at d holds the rows R by their corners; its lists are newer than H0 -/
structure GrpAt (H0 : Hp) (d : Addr) (R : List Rw) (E : List (Pt × Addr)) (H : Hp) : Prop where
  dict : H d = some (.dT (kvO E))
  lst : ∀ e ∈ E, NotOld H0 e.2 ∧ ∃ vs, H e.2 = some (.lst vs) ∧ AllAt (AtW H) vs (wsOf R e.1)
  nl : (E.map (·.2)).Nodup
  nk : (E.map (·.1)).Nodup
  mem : ∀ p, (∃ e ∈ E, e.1 = p) ↔ ∃ r ∈ R, r.1 = p
section
variable {H0 H H' : Hp} {d : Addr} {R : List Rw} {E : List (Pt × Addr)}
theorem GrpAt.nil (e : H d = some (.dT [])) : GrpAt H0 d [] [] H :=
  ⟨e, fun _ h => (nomatch h), .nil, .nil, fun p => ⟨fun ⟨_, h, _⟩ => (nomatch h), fun ⟨_, h, _⟩ => (nomatch h)⟩⟩
theorem GrpAt.same (G : GrpAt H0 d R E H) (s : Same H H') : GrpAt H0 d R E H' :=
  ⟨s _ _ G.dict, fun e he => let ⟨a, vs, b, c⟩ := G.lst e he; ⟨a, vs, s _ _ b, c.map fun _ _ z => z.same s⟩, G.nl, G.nk, G.mem⟩
theorem nodup_inj {α β : Type} {f : α → β} : ∀ {l : List α}, (l.map f).Nodup → ∀ x ∈ l, ∀ y ∈ l, f x = f y → x = y
  | [], _, _, h, _, _, _ => by cases h
  | a :: l, h, x, hx, y, hy, e => by
    rw [List.map_cons, List.nodup_cons] at h
    rcases List.mem_cons.mp hx with hx' | hx
    · rcases List.mem_cons.mp hy with hy' | hy
      · rw [hx', hy']
      · exact absurd (List.mem_map.mpr ⟨y, hy, by rw [← e, hx']⟩) h.1
    · rcases List.mem_cons.mp hy with hy' | hy
      · exact absurd (List.mem_map.mpr ⟨x, hx, by rw [e, hy']⟩) h.1
      · exact nodup_inj h.2 x hx y hy e
theorem snoc_mem {r : Rw} (h : ∀ p, (∃ e ∈ E, e.1 = p) ↔ ∃ x ∈ R, x.1 = p) {E' : List (Pt × Addr)} (h2 : ∀ p, (∃ e ∈ E', e.1 = p) ↔ (∃ e ∈ E, e.1 = p) ∨ r.1 = p) : ∀ p, (∃ e ∈ E', e.1 = p) ↔ ∃ x ∈ R ++ [r], x.1 = p := fun p => by
  rw [h2, h]
  constructor
  · rintro (⟨x, hx, e⟩ | e)
    · exact ⟨x, List.mem_append.mpr (.inl hx), e⟩
    · exact ⟨r, List.mem_append.mpr (.inr (List.mem_singleton.mpr rfl)), e⟩
  · rintro ⟨x, hx, e⟩
    rcases List.mem_append.mp hx with z | z
    · exact .inl ⟨x, z, e⟩
    · rw [List.mem_singleton.mp z] at e
      exact .inr e
/-- the corner stands in the dict: its list grows -/
theorem GrpAt.there (G : GrpAt H0 d R E H) {r : Rw} {v : V} {w : V} (hv : valV (kvO E) (pkey r.1) = some v) (hw : AtW H w r.2) :
    ∃ L vs, v = .ref L ∧ NotOld H0 L ∧ H L = some (.lst vs) ∧ vs.length = (wsOf R r.1).length ∧ GrpAt H0 d (R ++ [r]) E (upd H L (.lst (vs ++ [w]))) := by
  obtain ⟨e, he, e1, rfl⟩ := val_kv hv
  obtain ⟨n, vs, h1, h2⟩ := G.lst e he
  have tw : ∀ {u : V} {x : Wt} {o : HO}, AtW H u x → AtW (upd H e.2 o) u x := fun {u x o} ⟨a, ea, ha⟩ => ⟨a, ea, by rw [upd_ne (ne_of ha h1 fun z => nomatch z)]; exact ha⟩
  refine ⟨e.2, vs, rfl, n, h1, by rw [h2.length, e1], ⟨?_, fun f hf => ?_, G.nl, G.nk, ?_⟩⟩
  · rw [upd_ne (ne_of G.dict h1 fun z => nomatch z)]
    exact G.dict
  · obtain ⟨n2, vs2, g1, g2⟩ := G.lst f hf
    refine ⟨n2, ?_⟩
    by_cases c : f.2 = e.2
    · have := nodup_inj G.nl f hf e he c
      subst this
      refine ⟨vs ++ [w], upd_same, ?_⟩
      rw [e1, wsOf_same]
      rw [e1] at h2
      exact (h2.map fun _ _ z => tw z).app (.cons (tw hw) .nil)
    · refine ⟨vs2, by rw [upd_ne c]; exact g1, ?_⟩
      rw [wsOf_else R r f.1 fun z => c (by rw [nodup_inj G.nk f hf e he (by rw [← z, e1])])]
      exact g2.map fun _ _ z => tw z
  · refine snoc_mem (E := E) G.mem fun p => ?_
    constructor
    · exact .inl
    · rintro (z | z)
      · exact z
      · exact ⟨e, he, by rw [e1, z]⟩
/-- it doesn't: a new list stands for it -/
theorem GrpAt.fresh (G : GrpAt H0 d R E H) {H2 : Hp} {r : Rw} {w : V} {P : Addr} (hv : valV (kvO E) (pkey r.1) = none) (n0 : NotOld H0 P) (nE : ∀ e ∈ E, e.2 ≠ P) (hP : H P = some (.lst []))
    (s : Same (upd H d (.dT (putK (kvO E) (pkey r.1) (.ref P)))) H2) (hw : AtW H2 w r.2) :
    H2 P = some (.lst []) ∧ GrpAt H0 d (R ++ [r]) (E ++ [(r.1, P)]) (upd H2 P (.lst ([] ++ [w]))) := by
  have dP : d ≠ P := ne_of G.dict hP fun z => nomatch z
  have no := kv_none hv
  have hP2 : H2 P = some (.lst []) := s P (.lst []) (by rw [upd_ne dP.symm]; exact hP)
  have hd2 : H2 d = some (.dT (kvO (E ++ [(r.1, P)]))) := s d (.dT (kvO (E ++ [(r.1, P)]))) (by rw [upd_same, put_none hv])
  have tw1 : ∀ {u : V} {x : Wt}, AtW H u x → AtW H2 u x := fun {u x} ⟨a, ea, ha⟩ => ⟨a, ea, s a (.tup (wV x)) (by rw [upd_ne (ne_of ha G.dict fun z => nomatch z)]; exact ha)⟩
  have tw : ∀ {u : V} {x : Wt} {o' : HO}, AtW H2 u x → AtW (upd H2 P o') u x := fun {u x o'} ⟨a, ea, ha⟩ => ⟨a, ea, by rw [upd_ne (ne_of ha hP2 fun z => nomatch z)]; exact ha⟩
  refine ⟨hP2, by rw [upd_ne dP]; exact hd2, fun f hf => ?_, ?_, ?_, ?_⟩
  · rcases List.mem_append.mp hf with hf | hf
    · obtain ⟨n2, vs2, g1, g2⟩ := G.lst f hf
      refine ⟨n2, vs2, by rw [upd_ne (nE f hf)]; exact s f.2 (.lst vs2) (by rw [upd_ne (ne_of g1 G.dict fun z => nomatch z)]; exact g1), ?_⟩
      rw [wsOf_else R r f.1 fun z => no f hf z.symm]
      exact g2.map fun _ _ z => tw (tw1 z)
    · rw [List.mem_singleton.mp hf]
      refine ⟨n0, [] ++ [w], upd_same, ?_⟩
      have e0 : wsOf R r.1 = [] := by
        unfold wsOf
        rw [List.filter_eq_nil_iff.mpr, List.map_nil]
        intro x hx z
        obtain ⟨e, he, e2⟩ := (G.mem r.1).mpr ⟨x, hx, of_decide_eq_true z⟩
        exact no e he e2
      show AllAt _ _ (wsOf (R ++ [r]) r.1)
      rw [wsOf_same, e0]
      exact .cons (tw hw) .nil
  · rw [List.map_append, List.nodup_append]
    refine ⟨G.nl, by simp, fun x hx y hy => ?_⟩
    obtain ⟨e, he, rfl⟩ := List.mem_map.mp hx
    rw [List.mem_singleton.mp hy]
    exact nE e he
  · rw [List.map_append, List.nodup_append]
    refine ⟨G.nk, by simp, fun x hx y hy => ?_⟩
    obtain ⟨e, he, rfl⟩ := List.mem_map.mp hx
    rw [List.mem_singleton.mp hy]
    exact no e he
  · refine snoc_mem (E := E) G.mem fun p => ?_
    constructor
    · rintro ⟨e, he, z⟩
      rcases List.mem_append.mp he with he | he
      · exact .inl ⟨e, he, z⟩
      · rw [List.mem_singleton.mp he] at z
        exact .inr z
    · rintro (⟨e, he, z⟩ | z)
      · exact ⟨e, List.mem_append.mpr (.inl he), z⟩
      · exact ⟨(r.1, P), List.mem_append.mpr (.inr (List.mem_singleton.mpr rfl)), z⟩
theorem GrpAt.len (G : GrpAt H0 d R E H) : E.length ≤ R.length := by
  have h1 : (E.map (·.1)).length ≤ (R.map (·.1)).length := List.Nodup.length_le_of_subset G.nk fun p hp => by
    obtain ⟨e, he, rfl⟩ := List.mem_map.mp hp
    obtain ⟨r, hr, z⟩ := (G.mem e.1).mp ⟨e, he, rfl⟩
    exact List.mem_map.mpr ⟨r, hr, z⟩
  simpa using h1
def ctOf (H : Hp) : V → List V
  | .ref a => match H a with
    | some (.tup xs) => xs
    | _ => []
  | _ => []
def unW : List V → Wt
  | [.str s, .int i, .int j] => (s, i, j)
  | _ => ("", 0, 0)
def wOf (H : Hp) (v : V) : Wt := unW (ctOf H v)
theorem AtW.ct {v : V} {w : Wt} (h : AtW H v w) : ctOf H v = wV w := by
  obtain ⟨a, rfl, h⟩ := h
  unfold ctOf
  simp only [h]
theorem AtW.wOf {v : V} {w : Wt} (h : AtW H v w) : wOf H v = w := by
  unfold Cl.wOf
  rw [h.ct]
  rfl
theorem allw_map : ∀ {vs : List V} {wl : List Wt}, AllAt (AtW H) vs wl → wl = vs.map (wOf H)
  | _, _, .nil => rfl
  | _, _, .cons h t => by rw [List.map_cons, h.wOf, ← allw_map t]
theorem allw_at : ∀ {vs : List V} {wl : List Wt}, AllAt (AtW H) vs wl → ∀ x ∈ vs, AtW H x (wOf H x)
  | _, _, .nil, _, h => nomatch h
  | _, _, .cons h t, x, hx => by
    rcases List.mem_cons.mp hx with e | hx
    · rw [e, h.wOf]
      exact h
    · exact allw_at t x hx
theorem all_map {α : Type} {Rr : V → α → Prop} {f : V → α} : ∀ {zs : List V}, (∀ x ∈ zs, Rr x (f x)) → AllAt Rr zs (zs.map f)
  | [], _ => .nil
  | z :: zs, h => .cons (h z (List.mem_cons_self ..)) (all_map fun x hx => h x (List.mem_cons_of_mem _ hx))
/-- sorted, of a list of wants -/
theorem sorted_wants {vs zs : List V} {wl : List Wt} (h : AllAt (AtW H) vs wl) (pm : zs.Perm vs) (pw : zs.Pairwise fun x y => ltT ((ctOf H y).map vItem) ((ctOf H x).map vItem) = false) :
    ∃ wl', AllAt (AtW H) zs wl' ∧ wl'.Perm wl ∧ wl'.Pairwise wLe := by
  have at_ : ∀ x ∈ zs, AtW H x (Cl.wOf H x) := fun x hx => allw_at h x (pm.mem_iff.mp hx)
  refine ⟨zs.map (Cl.wOf H), all_map at_, ?_, ?_⟩
  · rw [allw_map h]
    exact pm.map _
  · refine List.pairwise_map.mpr (pw.imp_of_mem fun {x y} hx hy e => ?_)
    unfold wLe
    rw [← (at_ x hx).ct, ← (at_ y hy).ct]
    exact e
theorem wsOf_len (R : List Rw) (p : Pt) : (wsOf R p).length ≤ R.length := by
  unfold wsOf
  rw [List.length_map]
  exact List.length_filter_le ..
end
def shW (i : Nat) : Bool := i == 0
theorem fits_wV (w : Wt) : fits shW 0 (wV w) := ⟨rfl, rfl, rfl, trivial⟩
theorem units1 {n : Nat} (h : n + 64 < cLine) : n + 1 < cLine := by omega
section
variable {X : Cx} {K : PySem.W.Frag}
theorem cr_sortTupk (hK : X.K = K) (sh : Nat → Bool) : CallR X (.builtin "sorted") (rSortTup K sh) := hK ▸ cr_sortTup sh
theorem call_tuple_ofNk (hK : X.K = K) : CallR X (.type "tuple") (fun xs H Q => ∃ p ys, xs = [.ref p] ∧ SqL K H p ys ∧ New H (.tup ys) Q) := hK ▸ call_tuple_ofN
end
end Cl

set_option maxHeartbeats 0
namespace Cl
open PySem PySem.Spec PyProof.Rows L2
/-! ### a generator expression over one name, its element asked as it comes: told by words on states -/
theorem over_comp {A : Around} {e : Expr} {gs : List Comprehension} {sc : Scope} {p : Pos} {v o : Value} {env : Env} : A.over (.compLoop (.GeneratorExp e gs sc p) 0 v o env) [] = A.deeper env := by
  first
    | rfl
    | (obtain ⟨hd, d, fr, gs, u⟩ := A; simp [Around.over, Around.deeper, marksOver, frameCount, unitsOf, envsOf, guardsOf, pushEnvs, pushGuards, Code.envs, Code.env?, Code.isFrame, Code.guards, Code.isGuard, Code.weight, Code.frames, Code.isCreation, Code.isCaller, Code.cUnits])
theorem over_start {A : Around} {e : Expr} {gs : List Comprehension} {sc : Scope} {p : Pos} {v o : Value} {env : Env} : A.over (.compStart (.GeneratorExp e gs sc p) 0 v o env) [] = A.deeper env := by
  first
    | rfl
    | (obtain ⟨hd, d, fr, gs, u⟩ := A; simp [Around.over, Around.deeper, marksOver, frameCount, unitsOf, envsOf, guardsOf, pushEnvs, pushGuards, Code.envs, Code.env?, Code.isFrame, Code.guards, Code.isGuard, Code.weight, Code.frames, Code.isCreation, Code.isCaller, Code.cUnits])
structure GenN (prog : Program) (w : World) (A : Around) (cenv : Env) (I : Addr) (x : Str) (px : Pos) (elt : Expr) (n₀ : Nat) (bs : Nat → Bool) (ST : Nat → Shared → Prop) (M1 : Nat → Value → Shared → Prop) (M2 : Nat → Shared → Prop) (FIN : Shared → Prop) : Prop where
  item : ∀ (i : Nat) (s : Shared) (Q : Option Value → Shared → Prop) (E : Value → Shared → Prop), i < n₀ → ST i s → (∀ v s', M1 i v s' → Q (some v) s') → wpAny (model prog w) (A.deeper cenv) (pyNext (.ref I)) Q E s
  asg : ∀ (i : Nat) (v : Value) (s : Shared) (Q : Unit → Shared → Prop) (E : Value → Shared → Prop), M1 i v s → (∀ s', M2 i s' → Q () s') → wpAny (model prog w) (A.deeper cenv) (assign (.Name x px) cenv v) Q E s
  el : ∀ (i : Nat) (s : Shared) (Q : Value → Shared → Prop) (E : Value → Shared → Prop), M2 i s → (∀ s', ST (i + 1) s' → Q (.bool (bs i)) s') → wpAny (model prog w) (A.deeper cenv) (eval elt cenv) Q E s
  done : ∀ (s : Shared) (Q : Option Value → Shared → Prop) (E : Value → Shared → Prop), ST n₀ s → (∀ s', FIN s' → Q none s') → wpAny (model prog w) (A.deeper cenv) (pyNext (.ref I)) Q E s
  self : ∀ (s : Shared) (Q : Value → Shared → Prop) (E : Value → Shared → Prop), ST 0 s → Q (.ref I) s → wpAny (model prog w) (A.deeper cenv) (pyIter (.ref I)) Q E s
def protoN (n₀ : Nat) (bs : Nat → Bool) (ST : Nat → Shared → Prop) : Protocol := fun m _ v s kap =>
  ∃ i, i + m + 1 = n₀ ∧ v = .bool (bs i) ∧ ST (i + 1) s ∧ ∀ s'' : Shared, ST (i + 1) s'' → kap (.send .none) s''
abbrev endN (FIN : Shared → Prop) : GenEnd := fun n _ r s₁ => r = .ok .next ∧ (n = 0 ∧ FIN s₁)
section
variable {prog : Program} {w : World} {A : Around} {cenv : Env} {I : Addr} {x : Str} {px : Pos} {elt iter : Expr} {n₀ : Nat} {bs : Nat → Bool} {ST : Nat → Shared → Prop} {M1 : Nat → Value → Shared → Prop} {M2 : Nat → Shared → Prop} {FIN : Shared → Prop} {scope : Scope} {pos : Pos}
theorem seg_loopN (hco : cenv.scope.isCoroutine = false) (G : GenN prog w A cenv I x px elt n₀ bs ST M1 M2 FIN) :
    ∀ (k i : Nat) (s₀ s : Shared), n₀ - i = k → i ≤ n₀ → ST i s →
      Seg (model prog w) A (endN FIN) (protoN n₀ bs ST) k s₀
        (.compLoop (.GeneratorExp elt [⟨.Name x px, iter, [], 0⟩] scope pos) 0 (.ref I) .none cenv)
        ((model prog w).den (.compLoop (.GeneratorExp elt [⟨.Name x px, iter, [], 0⟩] scope pos) 0 (.ref I) .none cenv)) [] s := by
  intro k
  induction k with
  | zero =>
    intro i s₀ s hk hi hst
    have hin : i = n₀ := by omega
    subst hin
    show Seg _ A _ _ _ s₀ _ ((compTurn (.GeneratorExp elt [⟨.Name x px, iter, [], 0⟩] scope pos) 0 (.ref I) .none cenv).onRaise (leaving cenv)) [] s
    rw [compTurn_gen, Sem.onRaise_eq_wrap]
    refine seg_bind_wrap (wpAny_standAt ?_)
    refine seg_bind_wrap ?_
    rw [over_comp]
    refine G.done s _ _ hst fun s' hf => ?_
    exact seg_end (.ok .next) ⟨rfl, rfl, hf⟩
  | succ k ih =>
    intro i s₀ s hk hi hst
    have hlt : i < n₀ := by omega
    show Seg _ A _ _ _ s₀ _ ((compTurn (.GeneratorExp elt [⟨.Name x px, iter, [], 0⟩] scope pos) 0 (.ref I) .none cenv).onRaise (leaving cenv)) [] s
    rw [compTurn_gen, Sem.onRaise_eq_wrap]
    refine seg_bind_wrap (wpAny_standAt ?_)
    refine seg_bind_wrap ?_
    rw [over_comp]
    refine G.item i s _ _ hlt hst fun v s1 h1 => ?_
    refine seg_bind_wrap (wpAny_of_eq (rfl : letOwnedTupleGo (.Name x px) (.ref I) v = pure ()) ?_)
    refine seg_bind_wrap ?_
    rw [over_comp]
    refine G.asg i v s1 _ _ h1 fun s2 h2 => ?_
    refine seg_bind_wrap ?_
    simp only [List.forIn_nil]
    refine wpAny_pure ?_
    simp only [if_true]
    have hy : ∀ v, yieldOut cenv v = yieldValue v := fun v => by simp only [yieldOut, hco, Bool.false_eq_true, if_false]
    simp only [hy]
    rw [Sem.bind_eq_wrap', Sem.bind_eq_wrap', Sem.wrap_wrap, Sem.wrap_wrap]
    refine seg_wrap ?_
    rw [over_comp]
    refine G.el i s2 _ _ h2 fun s3 h3 => ?_
    refine seg_at (seg_yield rfl rfl rfl ⟨i, by omega, rfl, h3, fun s'' hal => ?_⟩)
    exact seg_again rfl (ih (i + 1) s'' s'' (by omega) hlt hal)
theorem seg_startN (hco : cenv.scope.isCoroutine = false) (G : GenN prog w A cenv I x px elt n₀ bs ST M1 M2 FIN) (s₀ s : Shared) (hst : ST 0 s) :
    Seg (model prog w) A (endN FIN) (protoN n₀ bs ST) n₀ s₀
      (.compStart (.GeneratorExp elt [⟨.Name x px, iter, [], 0⟩] scope pos) 0 (.ref I) .none cenv)
      ((model prog w).den (.compStart (.GeneratorExp elt [⟨.Name x px, iter, [], 0⟩] scope pos) 0 (.ref I) .none cenv)) [] s := by
  have loop := fun s₀ => seg_loopN (iter := iter) (scope := scope) (pos := pos) hco G n₀ 0 s₀ s (Nat.sub_zero _) (Nat.zero_le _) hst
  show Seg _ A _ _ _ s₀ _ ((compStart (.GeneratorExp elt [⟨.Name x px, iter, [], 0⟩] scope pos) 0 (.ref I) .none cenv).onRaise (leaving cenv)) [] s
  unfold compStart
  rw [Sem.onRaise_eq_wrap]
  show Seg _ A _ _ _ s₀ _ ((ask >>= _).wrap _ _ _ _) [] s
  refine seg_bind_wrap (wpAny_askSetting ?_)
  split
  · exact seg_again rfl (loop s₀)
  · refine seg_bind_wrap (wpAny_rule ?_)
    first
      | (refine seg_bind_wrap (wpAny_standAt ?_)
         refine seg_bind_wrap ?_
         rw [over_start]
         exact G.self s _ _ hst (seg_again rfl (loop s₀)))
      | (show Seg _ A _ _ _ s₀ _ ((standAt iter.pos >>= _).wrap _ _ _ _) [] s
         refine seg_bind_wrap (wpAny_standAt ?_)
         refine seg_bind_wrap ?_
         rw [over_start]
         exact G.self s _ _ hst (seg_again rfl (loop s₀)))
/-- the generator at a stands ahead of its turn i -/
structure AtN (prog : Program) (w : World) (A : Around) (a : Addr) (g n₀ : Nat) (bs : Nat → Bool) (ST : Nat → Shared → Prop) (FIN : Shared → Prop) (i : Nat) (s : Shared) : Prop where
  st : ST i s
  go : ∃ gs, s.gens[g]? = some gs ∧ ∀ s'', ST i s'' → gs.Goes (model prog w) A (endN FIN) (protoN n₀ bs ST) (n₀ - i) (.send .none) s''
/-- what a state word tells of the generator's object -/
structure SideN (a : Addr) (g : Nat) (ST : Nat → Shared → Prop) : Prop where
  gen : ∀ i s, ST i s → s.heap.IsGen a g
  lim : ∀ i s, ST i s → s.heap.NoLimit
  sz : ∀ i s, ST i s → g < s.gens.size
  set : ∀ i s y, y.bare = true → ST i s → ST i (s.setGen g y)
variable {a : Addr} {g : Nat}
theorem nextN_item {i : Nat} {s : Shared} {Q : Option Value → Shared → Prop} {E : Value → Shared → Prop} (hh : A.handled = none) (hroom : A.depth < recursionLimit) (S : SideN a g ST) (hi : i < n₀) (h : AtN prog w A.in1 a g n₀ bs ST FIN i s)
    (hQ : ∀ s', AtN prog w A.in1 a g n₀ bs ST FIN (i + 1) s' → Q (some (.bool (bs i))) s') : wpAny (model prog w) A (pyNext (.ref a)) Q E s := by
  obtain ⟨gs, hgs, hgo⟩ := h.go
  obtain ⟨m, hm⟩ : ∃ m, n₀ - i = m + 1 := ⟨n₀ - i - 1, by omega⟩
  rw [hm] at hgo
  refine wpAny_pyNext_genexpQ (P := fun n _ s₁ => n = 0 ∧ FIN s₁) hh (S.lim _ _ h.st) hroom (S.gen _ _ h.st) hgs (hgo _ (S.set _ _ _ rfl h.st)) (fun v s₁ gs' hb hv => ?_) fun s₁ hp h' hk => absurd hp.1 (Nat.succ_ne_zero m)
  obtain ⟨i', e, rfl, st1, hkap⟩ := hv
  have ei : i' = i := by omega
  subst ei
  refine hQ _ ⟨S.set _ _ _ hb st1, gs', setGen_at (S.sz _ _ st1), fun s'' hal => ?_⟩
  have e2 : n₀ - (i' + 1) = m := by omega
  rw [e2]
  exact hkap s'' hal
theorem nextN_done {s : Shared} {Q : Option Value → Shared → Prop} {E : Value → Shared → Prop} (hh : A.handled = none) (hroom : A.depth < recursionLimit) (S : SideN a g ST) (h : AtN prog w A.in1 a g n₀ bs ST FIN n₀ s)
    (hQ : ∀ s' h', FIN s' → (∀ b o, s'.heap.get? b = some o → h'.get? b = some o) → Q none { s'.setGen g .finished with heap := h' }) : wpAny (model prog w) A (pyNext (.ref a)) Q E s := by
  obtain ⟨gs, hgs, hgo⟩ := h.go
  rw [Nat.sub_self] at hgo
  refine wpAny_pyNext_genexpQ (P := fun n _ s₁ => n = 0 ∧ FIN s₁) hh (S.lim _ _ h.st) hroom (S.gen _ _ h.st) hgs (hgo _ (S.set _ _ _ rfl h.st)) (fun v s₁ gs' hb hv => ?_) fun s₁ hp h' hk => ?_
  · obtain ⟨i', e, rfl, st1, hkap⟩ := hv
    exact False.elim (hkap s₁ st1)
  · exact hQ s₁ h' hp.2 hk
end
end Cl

set_option maxHeartbeats 0
namespace Cl
open PySem PySem.Spec PyProof.Rows L2
open GxR (TabB TabG Tabbed GenS inv_tab sh_eta)
/-- a generator expression's scope: its one name, the hidden one, captured names, globals -/
structure GenK (sc scope : Scope) (x : Str) : Prop where
  kind : scope.kind = .function
  co : scope.isCoroutine = false
  nocell : ∀ y ∈ scope.names, y.2 ≠ .cell
  dot : scope.names.lookup (".0" : Str) = some .local
  own : ∀ y ∈ scope.names, y.2 = .local → y.1 = x ∨ y.1 = ".0"
  par : scope.names.lookup x = some .local
  free : ∀ y ∈ scope.names, y.2 = .free → sc.names.lookup y.1 = some .cell ∨ sc.names.lookup y.1 = some .free
def genKB (sc scope : Scope) (x : Str) : Bool :=
  decide (scope.kind = .function) && (!scope.isCoroutine && (decide (scope.names.lookup (".0" : Str) = some .local) && (decide (scope.names.lookup x = some .local) && scope.names.all fun y => !decide (y.2 = .cell) && ((!decide (y.2 = .local) || (decide (y.1 = x) || decide (y.1 = ".0"))) && (!decide (y.2 = .free) || (decide (sc.names.lookup y.1 = some .cell) || decide (sc.names.lookup y.1 = some .free)))))))
theorem genK_by {sc scope : Scope} {x : Str} (h : genKB sc scope x = true) : GenK sc scope x := by
  unfold genKB at h
  simp only [Bool.and_eq_true, Bool.or_eq_true, Bool.not_eq_true', decide_eq_true_eq, decide_eq_false_iff_not, List.all_eq_true] at h
  obtain ⟨h1, h2, h3, h4, h5⟩ := h
  refine ⟨h1, h2, fun y hy => (h5 y hy).1, h3, fun y hy e => ?_, h4, fun y hy e => ?_⟩
  · rcases (h5 y hy).2.1 with z | z
    · exact absurd e z
    · exact z
  · rcases (h5 y hy).2.2 with z | z
    · exact absurd e z
    · exact z
theorem GenK.has {X : Cx} {scope : Scope} {x : Str} (L : GenK X.env.scope scope x) (ok : X.Ok) : ∀ y ∈ scope.names, y.2 = .free → ∃ c, X.env.cells.lookup y.1 = some c := fun y hy e => by
  rcases L.free y hy e with k | k
  · exact ok.has _ (.inl k)
  · exact ok.has _ (.inr k)
/-- the context of the generator expression's element -/
def genCx (X : Cx) (x : Str) (A : Around) (s1 : Shared) (H1 : Hp) (env : Env) : Cx where
  prog := X.prog
  w := X.w
  K := X.K
  mg := X.mg
  base := X.base
  A := A.deeper env
  N := x :: X.N
  s_0 := s1
  H_0 := H1
  env := env
  outer := X.stack
  stack := env :: X.stack
  ex := []
  fn := fun _ => false
  calm := true
  pn := []
  xe := fun _ _ => False
abbrev gEnv (X : Cx) (scope : Scope) (C : Addr) (code : Value) : Env := genEnv scope (cloFrom X.env.cells scope.names []) C code builtinsNs X.env
section
variable {X : Cx} {pins : List (Addr × Obj)} {σ : L2.St}
theorem gen_start {x : Str} {A : Around} {s1 s4 : Shared} {H1 H4 : Hp} {scope : Scope} {C P : Addr} {code : Value} {pn : List (Addr × Obj)} {m : Str → Option Value} (I : Inv X pins σ H1 s1) (L : GenK X.env.scope scope x) (hf : A.frames = some X.stack) (hd : A.handled = none) (hx : x ∉ X.N) (hdot : (".0" : Str) ∉ X.N)
    (hC : s1.heap.objs.size ≤ C) (hP : ∃ ps, H1 P = some (.tbl ps)) (kp : ∀ b o, b ≠ P → s1.heap.get? b = some o → s4.heap.get? b = some o) (un : Un (frs X.stack) [] H1 H4 s1.heap s4.heap) (hok : HOk X.prog X.w H4 s4.heap) (bare : AllBare s4.gens) (hos : s4.os = s1.os)
    (hns : s4.heap.Ns C m) (hCn : H4 C = none) (hpn : ∀ p ∈ pn, s4.heap.get? p.1 = some p.2 ∧ H4 p.1 = none ∧ p.1 ≠ C ∧ p.1 ∉ frs X.stack ∧ ∀ v, p.2.data ≠ .cell v) :
    Inv (genCx X x A s1 H1 (gEnv X scope C code)) pn (none :: σ) H4 s4 := by
  have hfree := L.has I.ok
  have e0 := I.env0
  obtain ⟨ps, hP⟩ := hP
  have cm : ∀ {y c}, (cloFrom X.env.cells scope.names []).lookup y = some c → X.env.cells.lookup y = some c := fun {y c} e => by
    rcases cloFrom_mem (PySem.mem_of_lookup e) with hm | ⟨h1, h2⟩
    · cases hm
    · obtain ⟨c1, hc⟩ := hfree _ h1 rfl
      have hc : X.env.cells.lookup y = some c1 := hc
      have e2 : c = c1 := by
        rw [h2, hc] <;> rfl
      rw [e2]
      exact hc
  have look : ∀ {y}, scope.names.lookup y = some .free → ∃ c, (cloFrom X.env.cells scope.names []).lookup y = some c := fun {y} hl => by
    have hy : (y, NameKind.free) ∈ scope.names := PySem.mem_of_lookup hl
    exact mem_lookup (cloFrom_has (cells := X.env.cells) (acc := []) hy)
  have nP : ∀ b, H1 b = none → b ≠ P := fun b n z => by rw [z, hP] at n; cases n
  have cellK : ∀ {c : Addr} {v : Option Value}, H1 c = none → s1.heap.IsCell c v → s4.heap.IsCell c v := fun {c v} n ⟨o, ho, hd⟩ => ⟨_, kp _ _ (nP _ n) ho, hd⟩
  have noA : ∀ b : Addr, b ∉ (genCx X x A s1 H1 (gEnv X scope C code)).ex := fun b z => absurd (show b ∈ ([] : List Addr) from z) (by simp)
  refine ⟨⟨e0.mod, L.kind, I.ok.glob, rfl, hC, fun y z c e1 e2 => I.ok.inj y z c (cm e1) (cm e2), fun y hy => ?_, fun y c z _ => ?_, fun _ => hd, Around.frames_deeper hf, .inr ⟨rfl, rfl⟩, fun b z => absurd z (noA b), e0.bs, e0.bsz, fun b _ _ => noA b,
      fun b z => absurd z (noA b), e0.funs, e0.frf⟩,
    hos, bare, un, ⟨_, hns, fun i y v' e1 e2 e3 => ?_⟩, fun y c e => ?_, hCn, fun y c e => ?_, fun q hq => ?_, hok, ?_⟩
  · have hy : scope.names.lookup y = some .cell ∨ scope.names.lookup y = some .free := hy
    rcases hy with hy | hy
    · exact absurd rfl (L.nocell _ (PySem.mem_of_lookup hy))
    · exact look hy
  · have z : false = true := z
    cases z
  · have e3 : Vis scope y := e3
    cases i with
    | zero =>
      have e2 : some (none : Option V) = some (some v') := e2
      cases e2
    | succ i =>
      have e1 : X.N[i]? = some y := e1
      have e2 : σ[i]? = some (some v') := e2
      have hyN := List.mem_of_getElem? e1
      rcases e3 with k | k | k
      · rcases L.own _ (PySem.mem_of_lookup k) rfl with z | z
        · exact absurd (by rw [← show y = x from z]; exact hyN) hx
        · exact absurd (by rw [← show y = ".0" from z]; exact hyN) hdot
      · exact absurd rfl (L.nocell _ (PySem.mem_of_lookup k))
      · obtain ⟨m, hn, hl⟩ := I.loc
        have hvis : Vis X.env.scope y := (L.free _ (PySem.mem_of_lookup k) rfl).elim (fun k => .inr (.inl k)) (fun k => .inr (.inr k))
        obtain ⟨w', r, q⟩ := hl i y v' e1 e2 hvis
        obtain ⟨c2, h2⟩ := look k
        refine ⟨w', r, .inr ⟨.inr k, c2, h2, ?_⟩⟩
        have c1 := cm h2
        rcases q with ⟨k', _⟩ | ⟨_, c3, e', z⟩
        · have k' : X.env.scope.names.lookup y = some .local := k'
          rcases L.free _ (PySem.mem_of_lookup k) rfl with k2 | k2 <;> rw [show X.env.scope.names.lookup y = _ from k2] at k' <;> cases k'
        · rw [c1] at e'
          cases e'
          exact cellK (I.freeC y _ c1) z
  · obtain ⟨w', z⟩ := I.cell y c (cm e)
    exact ⟨w', cellK (I.freeC y c (cm e)) z⟩
  · have n1 := I.freeC y c (cm e)
    obtain ⟨w', z⟩ := I.cell y c (cm e)
    obtain ⟨o, ho, _⟩ := z
    exact un.free c o ho n1 (by simp)
  · have hq : q ∈ pn := hq
    exact hpn q hq
  · show (none :: σ).length = (x :: X.N).length
    rw [List.length_cons, List.length_cons, I.len]
end
end Cl

set_option maxHeartbeats 0
namespace Cl
open PySem PySem.Spec PyProof.Rows L2
open GxR (TabB TabG Tabbed GenS inv_tab sh_eta)
theorem Inv.setGen {X : Cx} {pins : List (Addr × Obj)} {σ : L2.St} {H : Hp} {s : Shared} {g : Nat} {y : GenState} (I : Inv X pins σ H s) (hy : y.bare = true) : Inv X pins σ H (s.setGen g y) :=
  ⟨I.ok, I.os, allBare_setGen I.bare hy, I.base, I.loc, I.cell, I.free, I.freeC, I.pin, I.hok, I.len⟩
/-! ### the states of such a generator -/
def IterO (t : Addr) (i : Nat) (o : Obj) : Prop := o.cls = .type "tuple_iterator" ∧ o.data = .fields #[.ref t, .int (i : Nat) 0]
def GenO (g : Nat) (o : Obj) : Prop := ∃ nm qn, o.cls = .type "generator" ∧ o.data = .fields #[.int (g : Nat) 0, nm, qn] ∧ o.slots = #[]
structure GW (G : Cx) (x : Str) (I a t : Addr) (g : Nat) (xs : List V) (bs : Nat → Bool) (Pv : Nat → Hp → Prop) (tel : TE) (σ : L2.St) : Prop where
  calm : G.calm = true
  nd : G.N.Nodup
  nx : G.N[0]? = some x
  loc : G.env.scope.names.lookup x = some .local
  pn : G.pn = []
  xe : ∀ u s, ¬ G.xe u s
  tup : ∀ i H, Pv i H → SqT G.K H t xs
  I1 : G.s_0.heap.objs.size ≤ I
  I2 : I ≠ G.env.locals
  I3 : ∀ y c, G.env.cells.lookup y = some c → c ≠ I
  I4 : I ∉ G.fs
  I5 : I ≠ a
  el : ∀ i v H, xs[i]? = some v → Pv i H → tel (some v :: σ) H fun y H' => y = .bl (bs i) ∧ Pv (i + 1) H'
section
variable {G : Cx} {x : Str} {I a t : Addr} {g : Nat} {xs : List V} {bs : Nat → Bool} {Pv : Nat → Hp → Prop} {tel : TE} {σ : L2.St}
def gST (G : Cx) (I a t : Addr) (g : Nat) (Pv : Nat → Hp → Prop) (σ : L2.St) (i : Nat) (s : Shared) : Prop :=
  ∃ (H : Hp) (v : Option V) (oI oA : Obj), Inv G [(I, oI), (a, oA)] (v :: σ) H s ∧ Pv i H ∧ IterO t i oI ∧ GenO g oA ∧ g < s.gens.size
def gM1 (G : Cx) (I a t : Addr) (g : Nat) (xs : List V) (Pv : Nat → Hp → Prop) (σ : L2.St) (i : Nat) (u : Value) (s : Shared) : Prop :=
  ∃ (H : Hp) (v : Option V) (w : V) (oI oA : Obj), Inv G [(I, oI), (a, oA)] (v :: σ) H s ∧ Pv i H ∧ xs[i]? = some w ∧ RelV w u ∧ IterO t (i + 1) oI ∧ GenO g oA ∧ g < s.gens.size
def gM2 (G : Cx) (I a t : Addr) (g : Nat) (xs : List V) (Pv : Nat → Hp → Prop) (σ : L2.St) (i : Nat) (s : Shared) : Prop :=
  ∃ (H : Hp) (w : V) (oI oA : Obj), Inv G [(I, oI), (a, oA)] (some w :: σ) H s ∧ Pv i H ∧ xs[i]? = some w ∧ IterO t (i + 1) oI ∧ GenO g oA ∧ g < s.gens.size
def gFIN (G : Cx) (Pv : Nat → Hp → Prop) (σ : L2.St) (n : Nat) (s : Shared) : Prop := ∃ (H : Hp) (v : Option V), Inv G [] (v :: σ) H s ∧ Pv n H
theorem gw_gen {elt : Expr} {px : Pos} {A : Around} (hA : G.A = A.deeper G.env) (hh : A.handled = none) (W : GW G x I a t g xs bs Pv tel σ) (helt : PE G elt tel) :
    GenN G.prog G.w A G.env I x px elt xs.length bs (gST G I a t g Pv σ) (gM1 G I a t g xs Pv σ) (gM2 G I a t g xs Pv σ) (gFIN G Pv σ xs.length) := by
  have pinI : ∀ {oI oA : Obj} {v : Option V} {H : Hp} {s : Shared}, Inv G [(I, oI), (a, oA)] (v :: σ) H s → (s.heap.get? I = some oI ∧ H I = none) ∧ (s.heap.get? a = some oA ∧ H a = none ∧ a ≠ G.env.locals ∧ a ∉ G.fs ∧ ∀ v, oA.data ≠ .cell v) := fun {oI oA v H s} J => by
    have p1 := J.pin (I, oI) (List.mem_append_right _ (by simp))
    have p2 := J.pin (a, oA) (List.mem_append_right _ (by simp))
    exact ⟨⟨p1.1, p1.2.1⟩, p2⟩
  have rest : ∀ {oI oA : Obj} {v : Option V} {H : Hp} {s : Shared}, Inv G [(I, oI), (a, oA)] (v :: σ) H s → Inv G [(a, oA)] (v :: σ) H s := fun {oI oA v H s} J => J.pins_of fun p hp => by
    rw [List.mem_singleton.mp hp]
    exact (pinI J).2
  have turn : ∀ {oI oA : Obj} {v : Option V} {H : Hp} {s : Shared} {h' : Heap} {tk : Nat}, Inv G [(I, oI), (a, oA)] (v :: σ) H s → (∀ b o, b ∉ [I] → s.heap.get? b = some o → h'.get? b = some o) → Inv G [(a, oA)] (v :: σ) H { s with heap := h', toks := tk } := fun {oI oA v H s h' tk} J k =>
    (rest J).turned (it := I) (fun b o hb e => k b o (by simpa using hb) e) (pinI J).1.2 W.I2 (.inr W.I1) W.I3 fun p hp => by
      rw [W.pn] at hp
      rw [List.mem_singleton.mp hp]
      exact fun z => W.I5 z.symm
  have walk : ∀ {oI oA : Obj} {v : Option V} {H : Hp} {s : Shared} {i : Nat}, Inv G [(I, oI), (a, oA)] (v :: σ) H s → Pv i H → IterO t i oI → ∃ its : List Value, Vals xs its ∧ its.toArray.size = xs.length ∧ Walks G.prog G.w (A.deeper G.env) I [I, t] [I] its.toArray.size (fun i v => its.toArray[i]? = some v) (fun i h => h.IsTupleIter I t i ∧ h.IsTuple t its.toArray) ∧ s.heap.IsTupleIter I t i ∧ s.heap.IsTuple t its.toArray := fun {oI oA v H s i} J p hI => by
    obtain ⟨its, rv, tup, hz⟩ := J.tuple (W.tup i H p)
    have e1 := (pinI J).1.1
    have ne : t ≠ I := fun z => by
      obtain ⟨o, e2, e3, _⟩ := id tup
      rw [z, e1] at e2
      cases e2
      rw [hI.1] at e3
      exact absurd (Value.type.inj e3) (by decide)
    exact ⟨its, rv, by rw [List.size_toArray]; exact rv.length.symm, Walks.tuple (prog := G.prog) (w := G.w) (A := A.deeper G.env) (show (A.deeper G.env).handled = none from hh) I t ne its.toArray, ⟨oI, e1, hI.1, hI.2⟩, tup⟩
  refine ⟨fun i s Q E hi st hQ => ?_, fun i v s Q E h hQ => ?_, fun i s Q E h hQ => ?_, fun s Q E st hQ => ?_, fun s Q E st hQ => ?_⟩
  · obtain ⟨H, v, oI, oA, J, p, hI, hA, hg⟩ := st
    obtain ⟨its, rv, sz, Wk, d1, d2⟩ := walk J p hI
    refine Wk.item i s Q E (by rw [sz]; exact hi) ⟨d1, d2⟩ fun u h' tk hP st' hk => hQ u _ ?_
    have hu : its[i]? = some u := by simpa using hP
    obtain ⟨w, hw⟩ : ∃ w, xs[i]? = some w := ⟨_, List.getElem?_eq_getElem hi⟩
    obtain ⟨u', ev, rel⟩ := rv.get hw
    obtain rfl : u' = u := Option.some.inj (ev.symm.trans hu)
    obtain ⟨oI', g1, g2, g3⟩ := st'.1
    have J1 : Inv G [(a, oA)] (v :: σ) H { s with heap := h', toks := tk } := turn J hk
    refine ⟨H, v, w, oI', oA, J1.pins_of fun q hq => ?_, p, hw, rel, ⟨g2, g3⟩, hA, hg⟩
    rcases List.mem_cons.mp hq with rfl | hq
    · exact ⟨g1, (pinI J).1.2, W.I2, W.I4, fun v z => by rw [g3] at z; cases z⟩
    · rw [List.mem_singleton.mp hq]
      exact J1.pin (a, oA) (List.mem_append_right _ (by simp))
  · obtain ⟨H, v0, w, oI, oA, J, p, hw, rel, hI, hA2, hg⟩ := h
    refine GenW.wpAny_gsz (n := g + 1) hg ?_
    rw [← hA]
    refine wpAny_mono ((pg_name (X := G) (i := 0) W.nd W.nx (.inl W.loc) (.inr W.loc)).run _ s _ H w v (fun σ' H' => σ' = some w :: σ ∧ H' = H) J rel ⟨rfl, rfl⟩) (fun _ s' hs hsz => ?_) fun u s' hs => absurd hs (W.xe u s')
    obtain ⟨σ', H', J', rfl, rfl⟩ := hs
    exact hQ s' ⟨_, w, oI, oA, J', p, hw, hI, hA2, hsz⟩
  · obtain ⟨H, w, oI, oA, J, p, hw, hI, hA2, hg⟩ := h
    refine GenW.wpAny_gsz (n := g + 1) hg ?_
    rw [← hA]
    refine wpAny_mono (helt.run _ s _ H _ J (W.el i w H hw p)) (fun u s' hs hsz => ?_) fun u s' hs => absurd hs (W.xe u s')
    obtain ⟨y, H', J', r, rfl, p'⟩ := hs
    obtain rfl : u = Value.bool (bs i) := r
    exact hQ s' ⟨H', _, oI, oA, J', p', hI, hA2, hsz⟩
  · obtain ⟨H, v, oI, oA, J, p, hI, hA2, hg⟩ := st
    obtain ⟨its, rv, sz, Wk, d1, d2⟩ := walk J p hI
    rw [← sz] at d1
    refine Wk.done s Q E ⟨d1, d2⟩ fun h' tk hk => hQ _ ⟨H, v, ?_, p⟩
    have J1 : Inv G [(a, oA)] (v :: σ) H { s with heap := h', toks := tk } := turn J hk
    exact J1.pins_of fun q hq => nomatch hq
  · obtain ⟨H, v, oI, oA, J, p, hI, hA2, hg⟩ := st
    obtain ⟨its, rv, sz, Wk, d1, d2⟩ := walk J p hI
    exact Wk.self 0 s Q E ⟨d1, d2⟩ hQ
theorem gw_side : SideN a g (gST G I a t g Pv σ) where
  gen := fun i s ⟨H, v, oI, oA, J, _, _, ⟨nm, qn, h1, h2, h3⟩, _⟩ => ⟨oA, nm, qn, (J.pin (a, oA) (List.mem_append_right _ (by simp))).1, h1, h2, h3⟩
  lim := fun i s ⟨H, v, oI, oA, J, _⟩ => J.nolimit
  sz := fun i s ⟨_, _, _, _, _, _, _, _, h⟩ => h
  set := fun i s y hy ⟨H, v, oI, oA, J, p, hI, hA, hg⟩ => ⟨H, v, oI, oA, Inv.setGen J hy, p, hI, hA, by rw [GenW.setGen_size]; exact hg⟩
end
/-! ### the loops of all and any over it -/
section
variable {prog : Program} {w : World} {A : Around} {a : Addr} {g n₀ : Nat} {bs : Nat → Bool} {ST : Nat → Shared → Prop} {FIN : Shared → Prop} {R : Result → Shared → Prop}
theorem all_loopN (hh : A.handled = none) (hroom : A.depth < recursionLimit) (S : SideN a g ST) : ∀ (k i : Nat) (s : Shared), n₀ - i = k → i ≤ n₀ → AtN prog w A.in1.in1 a g n₀ bs ST FIN i s → (∀ j, j < i → bs j = true) →
    (∀ i s', i < n₀ → bs i = false → ST (i + 1) s' → R (.ok (.ret (.bool false))) s') →
    (∀ s' h', (∀ j, j < n₀ → bs j = true) → FIN s' → (∀ b o, s'.heap.get? b = some o → h'.get? b = some o) → R (.ok (.ret (.bool true))) { s'.setGen g .finished with heap := h' }) →
    codeAny (model prog w) A (.builtin "all.loop" ⟨[.ref a], []⟩) R s := by
  intro k
  induction k with
  | zero =>
    intro i s hk hi h pre r1 r2
    have hin : i = n₀ := by omega
    subst hin
    refine codeAny_builtin F.entry_all_loop ?_
    rw [Around.under_plainId F.plain_all_loop _]
    show wpAny _ A.in1 (pyNext (.ref a) >>= _) _ _ s
    refine wpAny_bind (nextN_done (A := A.in1) hh hroom S h fun s' h' hf hk => ?_)
    exact wpAny_bind (wpAny_rule (wpAny_pure (r2 s' h' pre hf hk)))
  | succ k ih =>
    intro i s hk hi h pre r1 r2
    have hlt : i < n₀ := by omega
    refine codeAny_builtin F.entry_all_loop ?_
    rw [Around.under_plainId F.plain_all_loop _]
    show wpAny _ A.in1 (pyNext (.ref a) >>= _) _ _ s
    refine wpAny_bind (nextN_item (A := A.in1) hh hroom S hlt h fun s' h' => ?_)
    refine wpAny_bind (wpAny_holding (wpAny_truthy_bool ?_))
    refine wpAny_bind (wpAny_letGo ?_)
    cases hb : bs i with
    | true =>
      simp only [if_true]
      exact wpAny_pure ⟨plainId_quiet F.plain_all_loop _, ih (i + 1) _ (by omega) hlt h' (fun j hj => by
        by_cases e : j = i
        · rw [e, hb]
        · exact pre j (by omega)) r1 r2⟩
    | false =>
      simp only [Bool.false_eq_true, if_false]
      exact wpAny_bind (wpAny_rule (wpAny_pure (r1 i s' hlt hb h'.st)))
theorem any_loopN (hh : A.handled = none) (hroom : A.depth < recursionLimit) (S : SideN a g ST) : ∀ (k i : Nat) (s : Shared), n₀ - i = k → i ≤ n₀ → AtN prog w A.in1.in1 a g n₀ bs ST FIN i s → (∀ j, j < i → bs j = false) →
    (∀ i s', i < n₀ → bs i = true → ST (i + 1) s' → R (.ok (.ret (.bool true))) s') →
    (∀ s' h', (∀ j, j < n₀ → bs j = false) → FIN s' → (∀ b o, s'.heap.get? b = some o → h'.get? b = some o) → R (.ok (.ret (.bool false))) { s'.setGen g .finished with heap := h' }) →
    codeAny (model prog w) A (.builtin "any.loop" ⟨[.ref a], []⟩) R s := by
  intro k
  induction k with
  | zero =>
    intro i s hk hi h pre r1 r2
    have hin : i = n₀ := by omega
    subst hin
    refine codeAny_builtin F.entry_any_loop ?_
    rw [Around.under_plainId F.plain_any_loop _]
    show wpAny _ A.in1 (pyNext (.ref a) >>= _) _ _ s
    refine wpAny_bind (nextN_done (A := A.in1) hh hroom S h fun s' h' hf hk => ?_)
    exact wpAny_bind (wpAny_rule (wpAny_pure (r2 s' h' pre hf hk)))
  | succ k ih =>
    intro i s hk hi h pre r1 r2
    have hlt : i < n₀ := by omega
    refine codeAny_builtin F.entry_any_loop ?_
    rw [Around.under_plainId F.plain_any_loop _]
    show wpAny _ A.in1 (pyNext (.ref a) >>= _) _ _ s
    refine wpAny_bind (nextN_item (A := A.in1) hh hroom S hlt h fun s' h' => ?_)
    refine wpAny_bind (wpAny_holding (wpAny_truthy_bool ?_))
    refine wpAny_bind (wpAny_letGo ?_)
    cases hb : bs i with
    | false =>
      simp only [Bool.false_eq_true, if_false]
      exact wpAny_pure ⟨plainId_quiet F.plain_any_loop _, ih (i + 1) _ (by omega) hlt h' (fun j hj => by
        by_cases e : j = i
        · rw [e, hb]
        · exact pre j (by omega)) r1 r2⟩
    | true =>
      simp only [if_true]
      exact wpAny_bind (wpAny_rule (wpAny_pure (r1 i s' hlt hb h'.st)))
end
end Cl

set_option maxHeartbeats 0
namespace Cl
open PySem PySem.Spec PyProof.Rows L2
open GxR (TabB TabG Tabbed GenS inv_tab sh_eta)
/-- all(elt for x in t), any(..), t a tuple: by a word on the heaps ahead of each turn -/
def tAllN (K : PySem.W.Frag) (P : Addr) (stop : Bool) (te tel : TE) : TE := fun σ H Q => te σ H fun v H1 => ∃ (t : Addr) (xs : List V) (bs : Nat → Bool) (Pv : Nat → Hp → Prop), v = .ref t ∧ SqT K H1 t xs ∧ TabG H1 P ∧
  (∀ i H, Pv i H → SqT K H t xs) ∧ (∀ H2, Same H1 H2 → TabG H2 P → Pv 0 H2) ∧
  (∀ i x H2, xs[i]? = some x → Pv i H2 → tel (some x :: σ) H2 fun y H3 => y = .bl (bs i) ∧ Pv (i + 1) H3) ∧
  (∀ i H2, i < xs.length → bs i = stop → Pv (i + 1) H2 → Q (.bl stop) H2) ∧ (∀ H2, (∀ i, i < xs.length → bs i = !stop) → Pv xs.length H2 → Q (.bl (!stop)) H2)
section
variable {X : Cx}
theorem gen_core {c P : Addr} {elt iter : Expr} {x : Str} {px gpos : Pos} {scope : Scope} {tel : TE} {k : Nat} {pins : List (Addr × Obj)} {σ : L2.St} {s1 : Shared} {H1 : Hp} {t : Addr} {xs : List V} {bs : Nat → Bool} {Pv : Nat → Hp → Prop} {Q' : Value → Shared → Prop}
    (hr : RG (k + 2) X.A) (TB : TabB X.base X.mg c P) (hcode : X.env.code = .ref c) (L : GenK X.env.scope scope x) (hx : x ∉ X.N) (hdot : (".0" : Str) ∉ X.N) (hN : X.N.Nodup)
    (helt : ∀ (s1 : Shared) (H1 : Hp) (C : Addr) (code : Value), RG k (X.A.in1.in1.deeper (gEnv X scope C code)) → PE (genCx X x X.A.in1.in1 s1 H1 (gEnv X scope C code)) elt tel)
    (I1 : Inv X pins σ H1 s1) (hS : SqT X.K H1 t xs) (hT : TabG H1 P) (hpt : ∀ i H, Pv i H → SqT X.K H t xs) (hp0 : ∀ H2, Same H1 H2 → TabG H2 P → Pv 0 H2)
    (hpe : ∀ i x H2, xs[i]? = some x → Pv i H2 → tel (some x :: σ) H2 fun y H3 => y = .bl (bs i) ∧ Pv (i + 1) H3)
    (hQ : ∀ (a : Addr) (g : Nat) (s5 : Shared) (ST : Nat → Shared → Prop) (FIN : Shared → Prop), s5.heap.IsGen a g → SideN a g ST → AtN X.prog X.w X.A.in1.in1 a g xs.length bs ST FIN 0 s5 →
      (∀ i s', ST i s' → ∃ H', (Pv i H') ∧ ∀ (b : Bool) (Q : VK), Q (.bl b) H' → EP X pins σ Q (.bool b) s') →
      (∀ s' h', FIN s' → (∀ b o, s'.heap.get? b = some o → h'.get? b = some o) → ∃ H', (Pv xs.length H') ∧ ∀ (b : Bool) (Q : VK), Q (.bl b) H' → EP X pins σ Q (.bool b) { s'.setGen g .finished with heap := h' }) → Q' (.ref a) s5) :
    wpAny (model X.prog X.w) X.A (pyIter (.ref t)) (fun it s₂ => s₂.heap.NoLimit ∧
      wpAny (model X.prog X.w) X.A (genexprCode X.env gpos (X.env.qual ++ "<genexpr>") scope) (fun code s₃ => wpAny (model X.prog X.w) X.A (builtinsFor X.env.globals X.env.builtins) (fun bi s₄ =>
        ∀ h', h'.Ns s₄.heap.objs.size (fun y => if y = ".0" then some it else none) → Heap.SameBut s₄.heap.objs.size (s₄.heap.push { cls := .type "frame", data := .dict #[] }) h' →
          Q' (.ref h'.objs.size) { s₄ with
            gens := s₄.gens.push (.fresh (.compStart (.GeneratorExp elt [⟨.Name x px, iter, [], 0⟩] scope gpos) 0 it .none (genEnv scope (cloFrom X.env.cells scope.names []) s₄.heap.objs.size code bi X.env))),
            toks := s₄.toks + 1 + 1 + 1,
            heap := h'.push { cls := .type "generator", data := .fields #[.int s₄.gens.size 0, .str "<genexpr>" (s₄.toks + 1), .str (X.env.qual ++ "<genexpr>") (s₄.toks + 1 + 1)] } }) X.xe s₃) X.xe s₂) X.xe s1 := by
  obtain ⟨ps, hP, ht⟩ := id hT
  obtain ⟨its, rv, tup, hz⟩ := I1.tuple hS
  refine wpAny_pyIter_tuple tup ?_
  have hPs : s1.heap.get? P = some { cls := .none, data := .fields ps } := I1.hok P _ hP
  have hPlt : P < s1.heap.objs.size := Heap.lt_size hPs
  generalize hito : ({ cls := .type "tuple_iterator", data := .fields #[.ref t, .int 0 0] } : Obj) = ito
  have hP2 : (s1.heap.push ito).get? P = some { cls := .none, data := .fields ps } := Heap.get?_push_of_some _ hPs
  have cd : PySem.W.CodeHd (s1.heap.push ito) c P := TB.code.keeps fun b u e => Heap.get?_push_of_some _ (I1.bk b u e)
  have lim2 : (s1.heap.push ito).NoLimit := I1.nolimit.push ito
  have sz2 : (s1.heap.push ito).objs.size = s1.heap.objs.size + 1 := Heap.size_push ..
  have cont : ∀ (code : Value) (h3 : Heap) (tk : Nat) (ps' : Array Value), Heap.ExtBut P (s1.heap.push ito) h3 → (s1.heap.push ito).objs.size ≤ h3.objs.size → h3.get? P = some { cls := .none, data := .fields ps' } → (∃ more, ps' = ps ++ more) → TriplesOk ps'.toList →
      wpAny (model X.prog X.w) X.A (builtinsFor X.env.globals X.env.builtins) (fun bi s₄ =>
        ∀ h', h'.Ns s₄.heap.objs.size (fun y => if y = ".0" then some (.ref s1.heap.objs.size) else none) → Heap.SameBut s₄.heap.objs.size (s₄.heap.push { cls := .type "frame", data := .dict #[] }) h' →
          Q' (.ref h'.objs.size) { s₄ with
            gens := s₄.gens.push (.fresh (.compStart (.GeneratorExp elt [⟨.Name x px, iter, [], 0⟩] scope gpos) 0 (.ref s1.heap.objs.size) .none (genEnv scope (cloFrom X.env.cells scope.names []) s₄.heap.objs.size code bi X.env))),
            toks := s₄.toks + 1 + 1 + 1,
            heap := h'.push { cls := .type "generator", data := .fields #[.int s₄.gens.size 0, .str "<genexpr>" (s₄.toks + 1), .str (X.env.qual ++ "<genexpr>") (s₄.toks + 1 + 1)] } }) X.xe { s1 with heap := h3, toks := tk } := by
    intro code h3 tk ps' hx3 hsz hP3 hmore ht3
    obtain ⟨bm, ob, e1, e2, e3, e4, e5, e6, e7, e8⟩ := TB.bm
    have keep3 : ∀ b u, b ≠ P → s1.heap.get? b = some u → h3.get? b = some u := fun b u hb e => hx3 b u hb (Heap.get?_push_of_some _ e)
    refine wpAny_builtinsFor (m := X.mg) (by rw [I1.ok.glob]; exact ((I1.mod.glob.keeps I1.bk).push ito).extBut hx3 TB.gP) e1 e2 (keep3 _ _ e4 (I1.bk _ _ e5)) e6 e7 e8 ?_
    intro h4 hns4 hsb4
    show Q' (.ref h4.objs.size) _
    have hC4 : h4.objs.size = h3.objs.size + 1 := by rw [hsb4.1, Heap.size_push]
    obtain ⟨more, em⟩ := hmore
    subst em
    have nP : ∀ b, H1 b = none → b ≠ P := fun b n z => by rw [z, hP] at n; cases n
    have keep4 : ∀ b u, b ≠ P → s1.heap.get? b = some u → h4.get? b = some u := fun b u hb e => hsb4.extBut b u (Nat.ne_of_lt (Nat.lt_of_lt_of_le (Heap.lt_size e) (Nat.le_trans (by rw [sz2]; exact Nat.le_succ _) hsz))) (Heap.get?_push_of_some _ (keep3 b u hb e))
    have hP4 : h4.get? P = some { cls := .none, data := .fields (ps ++ more) } := hsb4.extBut P _ (Nat.ne_of_lt (Nat.lt_of_lt_of_le hPlt (Nat.le_trans (by rw [sz2]; exact Nat.le_succ _) hsz))) (Heap.get?_push_of_some _ hP3)
    have hI4 : h4.get? s1.heap.objs.size = some ito := hsb4.extBut _ _ (Nat.ne_of_lt (Nat.lt_of_lt_of_le (by rw [sz2]; exact Nat.lt_succ_self _) hsz)) (Heap.get?_push_of_some _ (hx3 _ _ (fun z => Nat.ne_of_lt hPlt z.symm) (Heap.get?_push_size _ (by rw [← hito]; rfl))))
    generalize hgo : ({ cls := .type "generator", data := .fields #[.int s1.gens.size 0, .str "<genexpr>" (tk + 1), .str (X.env.qual ++ "<genexpr>") (tk + 1 + 1)] } : Obj) = go
    have hA5 : (h4.push go).get? h4.objs.size = some go := Heap.get?_push_size _ (by rw [← hgo]; rfl)
    have keep5 : ∀ b u, b ≠ P → s1.heap.get? b = some u → (h4.push go).get? b = some u := fun b u hb e => Heap.get?_push_of_some _ (keep4 b u hb e)
    have hP5 : (h4.push go).get? P = some { cls := .none, data := .fields (ps ++ more) } := Heap.get?_push_of_some _ hP4
    have hI5 : (h4.push go).get? s1.heap.objs.size = some ito := Heap.get?_push_of_some _ hI4
    generalize hgs : (GenState.fresh (.compStart (.GeneratorExp elt [⟨.Name x px, iter, [], 0⟩] scope gpos) 0 (.ref s1.heap.objs.size) .none (gEnv X scope h3.objs.size code))) = gs
    have gb : gs.bare = true := by rw [← hgs]; rfl
    have J := inv_tab (more := more) (h' := h4.push go) (g' := s1.gens.push gs) (d' := s1.drawn) (t' := tk + 1 + 1 + 1) I1 hP keep5 hP5 (I1.bare.push gb)
    have fresh : ∀ b, s1.heap.objs.size ≤ b → b ≠ P → upd H1 P (.tbl (ps ++ more)) b = none := fun b hb n => by rw [upd_ne n]; exact I1.hok.fresh hb
    have neP : ∀ b, s1.heap.objs.size ≤ b → b ≠ P := fun b hb z => by rw [z] at hb; exact absurd hPlt (Nat.not_lt.mpr hb)
    have noStk : ∀ b, s1.heap.objs.size ≤ b → b ∉ frs X.stack := fun b hb z => by
      rcases List.mem_cons.mp (I1.stkSub b z) with e | z
      · rw [e] at hb; exact absurd I1.lt (Nat.not_lt.mpr hb)
      · exact I1.nofs hb z
    have lI : s1.heap.objs.size ≤ s1.heap.objs.size := Nat.le_refl _
    have lC : s1.heap.objs.size ≤ h3.objs.size := Nat.le_trans (by rw [sz2]; exact Nat.le_succ _) hsz
    have lC2 : s1.heap.objs.size < h3.objs.size := Nat.lt_of_lt_of_le (by rw [sz2]; exact Nat.lt_succ_self _) hsz
    have lA : s1.heap.objs.size ≤ h4.objs.size := by rw [hC4]; exact Nat.le_trans lC (Nat.le_succ _)
    have un : Un (frs X.stack) [] H1 (upd H1 P (.tbl (ps ++ more))) s1.heap (h4.push go) := by
      have at_ : ∀ b, b ≠ P → upd H1 P (.tbl (ps ++ more)) b = H1 b := fun b h => upd_ne h
      have nQ : ∀ b u, H1 b = some u → (∀ q, u ≠ .tbl q) → b ≠ P := fun b u e q z => by
        rw [z, hP] at e
        exact q _ (Option.some.inj e).symm
      refine ⟨fun b o e n _ _ => keep5 b o (nP b n) e, fun b o e n _ _ => ⟨o.slots, keep5 b o (nP b n) e⟩, fun b o _ n _ => by rw [at_ b (nP b n)]; exact n, fun b o e _ => ?_, fun b ys e => by rw [at_ b (nQ b _ e fun q z => nomatch z)]; exact e, fun b o u e => by rw [at_ b (nQ b _ e fun q z => nomatch z)]; exact e, fun b qs e => ?_⟩
      · by_cases hb : b = P
        · rw [hb]; exact ⟨_, hP5⟩
        · exact ⟨o, keep5 b o hb e⟩
      · by_cases hb : b = P
        · rw [hb, hP] at e
          cases e
          exact ⟨more, by rw [hb, upd_same]⟩
        · exact ⟨#[], by rw [at_ b hb, e]; simp⟩
    have St := gen_start (C := h3.objs.size) (P := P) (code := code) (m := fun y => if y = ".0" then some (.ref s1.heap.objs.size) else none) (A := X.A.in1.in1) (s4 := { s1 with heap := h4.push go, gens := s1.gens.push gs, drawn := s1.drawn, toks := tk + 1 + 1 + 1 }) (pn := [(s1.heap.objs.size, ito), (h4.objs.size, go)]) I1 L I1.ok.frames hr.room.hd hx hdot lC ⟨ps, hP⟩ keep5 un J.hok J.bare rfl
      (hns4.push _) (fresh _ lC (neP _ lC)) (fun p hp => by
        rcases List.mem_cons.mp hp with rfl | hp
        · exact ⟨hI5, fresh _ lI (neP _ lI), Nat.ne_of_lt lC2, noStk _ lI, fun v z => by rw [← hito] at z; cases z⟩
        · rw [List.mem_singleton.mp hp]
          exact ⟨hA5, fresh _ lA (neP _ lA), by show h4.objs.size ≠ h3.objs.size; rw [hC4]; exact Nat.succ_ne_self _, noStk _ lA, fun v z => by rw [← hgo] at z; cases z⟩)
    have tb : Tabbed P H1 (upd H1 P (.tbl (ps ++ more))) := ⟨⟨ps ++ more, upd_same, ht3⟩, fun b hb => upd_ne hb⟩
    have sm := Same.tabbed hT tb
    have celI : ∀ y c, (cloFrom X.env.cells scope.names []).lookup y = some c → c ≠ s1.heap.objs.size := fun y c e z => by
      have hfree := L.has I1.ok
      have e2 : X.env.cells.lookup y = some c := by
        rcases cloFrom_mem (PySem.mem_of_lookup e) with hm | ⟨h1, h2⟩
        · cases hm
        · obtain ⟨c1, hc⟩ := hfree _ h1 rfl
          have hc : X.env.cells.lookup y = some c1 := hc
          have e2 : c = c1 := by rw [h2, hc] <;> rfl
          rw [e2]
          exact hc
      obtain ⟨v, q⟩ := I1.cell y c e2
      have := q.lt
      rw [z] at this
      exact Nat.lt_irrefl _ this
    have hrG : RG k (X.A.in1.in1.deeper (gEnv X scope h3.objs.size code)) := ⟨⟨hr.room.hd, by have := hr.room.dp; show X.A.depth + 1 + 3 * k + 5 < _; omega, by have := hr.room.un; show X.A.units + 1 + 1 + 3 + 16 * k + 200 < _; omega⟩, hr.gd⟩
    have GWw : GW (genCx X x X.A.in1.in1 s1 H1 (gEnv X scope h3.objs.size code)) x s1.heap.objs.size h4.objs.size t s1.gens.size xs bs Pv tel σ := by
      refine ⟨rfl, List.nodup_cons.mpr ⟨hx, hN⟩, rfl, L.par, rfl, fun u s z => z, hpt, lI, Nat.ne_of_lt lC2, celI, noStk _ lI, Nat.ne_of_lt (by rw [hC4]; exact Nat.lt_succ_of_lt lC2), fun i v H hv p => hpe i v H hv p⟩
    have GG := gw_gen (px := px) (elt := elt) (A := X.A.in1.in1) (by rfl) hr.room.hd GWw (helt s1 H1 _ _ hrG)
    have eC : s1.gens.push gs = s1.gens.push gs := rfl
    have p0 : Pv 0 (upd H1 P (.tbl (ps ++ more))) := hp0 _ sm tb.1
    have st0 : gST (genCx X x X.A.in1.in1 s1 H1 (gEnv X scope h3.objs.size code)) s1.heap.objs.size h4.objs.size t s1.gens.size Pv σ 0 { s1 with heap := h4.push go, gens := s1.gens.push gs, drawn := s1.drawn, toks := tk + 1 + 1 + 1 } :=
      ⟨_, none, ito, go, St, p0, by rw [← hito]; exact ⟨rfl, rfl⟩, by rw [← hgo]; exact ⟨_, _, rfl, rfl, rfl⟩, by show s1.gens.size < (s1.gens.push gs).size; rw [Array.size_push]; exact Nat.lt_succ_self _⟩
    have side := gw_side (G := genCx X x X.A.in1.in1 s1 H1 (gEnv X scope h3.objs.size code)) (I := s1.heap.objs.size) (a := h4.objs.size) (t := t) (g := s1.gens.size) (Pv := Pv) (σ := σ)
    have back : ∀ {pn : List (Addr × Obj)} {v : Option V} {H : Hp} {s' : Shared}, Inv (genCx X x X.A.in1.in1 s1 H1 (gEnv X scope h3.objs.size code)) pn (v :: σ) H s' → ∀ (b : Bool) (Q : VK), Q (.bl b) H → EP X pins σ Q (.bool b) s' := fun {pn v H s'} J b Q q =>
      I1.after ⟨.bl b, H, J.os, J.bare, J.base, J.hok, rfl, q⟩
    have out1 : ∀ i s', gST (genCx X x X.A.in1.in1 s1 H1 (gEnv X scope h3.objs.size code)) s1.heap.objs.size h4.objs.size t s1.gens.size Pv σ i s' → ∃ H', (Pv i H') ∧ ∀ (b : Bool) (Q : VK), Q (.bl b) H' → EP X pins σ Q (.bool b) s' :=
      fun i s' ⟨H', v, oI, oA, J', p, _⟩ => ⟨H', p, fun b Q q => back J' b Q q⟩
    have out2 : ∀ s' h', gFIN (genCx X x X.A.in1.in1 s1 H1 (gEnv X scope h3.objs.size code)) Pv σ xs.length s' → (∀ b o, s'.heap.get? b = some o → h'.get? b = some o) → ∃ H', (Pv xs.length H') ∧ ∀ (b : Bool) (Q : VK), Q (.bl b) H' → EP X pins σ Q (.bool b) { s'.setGen s1.gens.size .finished with heap := h' } :=
      fun s' h' ⟨H', v, J', p⟩ k => ⟨H', p, fun b Q q => back (Inv.kept (t' := s'.toks) (Inv.setGen (g := s1.gens.size) (y := .finished) J' rfl) k) b Q q⟩
    refine hQ h4.objs.size s1.gens.size _ _ _ (side.gen 0 _ st0) side ⟨st0, gs, Array.getElem?_push_size .., fun s'' hal => ?_⟩ out1 out2
    rw [← hgs]
    exact ⟨rfl, by rw [Nat.sub_zero]; exact seg_startN (iter := iter) (scope := scope) (pos := gpos) L.co GG s'' s'' hal⟩
  refine ⟨lim2, ?_⟩
  cases hf : codeAmong gpos ps.toList with
  | none =>
    refine wpAny_genexprCodeX hcode (cd.code hP2 ht) (cd.tab hP2) hf fun c' h' tk hx hge hlt hco' _ htab' _ => ?_
    obtain ⟨o1, vs, f1, tf, fl, tg, inF, tx, tt, op, _, _, _, _, _, _, _, _, _, htr, _⟩ := hco'
    exact cont _ h' tk _ hx (Nat.le_trans hge (Nat.le_of_lt hlt)) htab'.2 ⟨_, rfl⟩ htr
  | some cv =>
    refine wpAny_genexprCode_hit hcode (cd.code hP2 ht) hf ?_
    exact cont cv (s1.heap.push ito) s1.toks ps (Heap.ExtBut.refl _ _) (Nat.le_refl _) hP2 ⟨#[], by simp⟩ ht
theorem pe_allN {c P : Addr} {elt iter : Expr} {x : Str} {px p pos gpos : Pos} {scope : Scope} {te tel : TE} {k : Nat}
    (hr : RG (k + 2) X.A) (hg : Gl X "all") (hm : X.mg "all" = none) (TB : TabB X.base X.mg c P) (hcode : X.env.code = .ref c) (L : GenK X.env.scope scope x) (hx : x ∉ X.N) (hdot : (".0" : Str) ∉ X.N) (hN : X.N.Nodup) (hi : PE X iter te)
    (helt : ∀ (s1 : Shared) (H1 : Hp) (C : Addr) (code : Value), RG k (X.A.in1.in1.deeper (gEnv X scope C code)) → PE (genCx X x X.A.in1.in1 s1 H1 (gEnv X scope C code)) elt tel)
    (hs : ∀ v, genFold iter X.env v = pure v := by intro _; rfl)
    (he : starEach [.GeneratorExp elt [⟨.Name x px, iter, [], 0⟩] scope gpos] X.env = (false, eval (.GeneratorExp elt [⟨.Name x px, iter, [], 0⟩] scope gpos) X.env) :: starEach [] X.env := by rfl) :
    PE X (.Call (.Name "all" p) [.GeneratorExp elt [⟨.Name x px, iter, [], 0⟩] scope gpos] [] pos) (tAllN X.K P false te tel) := by
  refine ⟨fun pins s σ H Q I h => ?_⟩
  refine wpAny_Call_Name_kw (ld_blt I hg hm PyProof.Rows.boot_all ?_)
  refine PyProof.Rows.callWith_builtin1 ?_ he (by rfl)
  rw [he]
  show wpAny _ _ (spliced ((false, eval (.GeneratorExp elt [⟨.Name x px, iter, [], 0⟩] scope gpos) X.env) :: backTo pos (starEach [] X.env))) _ _ s
  refine Calls.spliced_cons ?_
  refine wpAny_GeneratorExp_make L.co (closure_ok (L.has I.ok)) L.nocell L.dot L.kind (by have := hr.room.dp; omega) ?_ hs
  refine thn (hi.run pins s σ H _ I h) fun xv s1 ⟨v, H1, I1, r1, q1⟩ => ?_
  obtain ⟨t, xs, bs, Pv, rfl, hS, hT, hpt, hp0, hpe, q2, q3⟩ := q1
  cases r1
  refine gen_core (gpos := gpos) (px := px) (iter := iter) (x := x) (elt := elt) (scope := scope) (Q' := fun v s' => wpAny (model X.prog X.w) X.A (spliced (backTo pos (starEach [] X.env))) (fun vs s2 => wpAny (model X.prog X.w) X.A (call (.builtin "all") (v :: vs)) (EP X pins σ Q) X.xe s2) X.xe s') hr TB hcode L hx hdot hN helt I1 hS hT hpt hp0 hpe fun a g s5 ST FIN hgen side at_ out1 out2 => ?_
  refine Calls.spliced_nil ?_
  refine call_function_tree PySem.F.kind_all PySem.F.plain_all PySem.F.entry_all (PySem.F.args_all1 _) ?_
  unfold Builtin.«all»
  refine wpAny_bind (m := oneArg "all" _) (wpAny_pure ?_)
  refine wpAny_bind (wpAny_pyIter_gen hgen ?_)
  refine wpAny_pure ⟨plainId_quiet PySem.F.plain_all_loop _, all_loopN (A := X.A) hr.room.hd (by have := hr.room.dp; omega) side _ 0 s5 rfl (Nat.zero_le _) at_ (fun j hj => absurd hj (Nat.not_lt_zero _)) (fun i s' hi hb st => ?_) fun s' h' all hf hk => ?_⟩
  · obtain ⟨H', p, e⟩ := out1 (i + 1) s' st
    exact e false Q (q2 i H' hi hb p)
  · obtain ⟨H', p, e⟩ := out2 s' h' hf hk
    exact e true Q (q3 H' all p)
theorem pe_anyN {c P : Addr} {elt iter : Expr} {x : Str} {px p pos gpos : Pos} {scope : Scope} {te tel : TE} {k : Nat}
    (hr : RG (k + 2) X.A) (hg : Gl X "any") (hm : X.mg "any" = none) (TB : TabB X.base X.mg c P) (hcode : X.env.code = .ref c) (L : GenK X.env.scope scope x) (hx : x ∉ X.N) (hdot : (".0" : Str) ∉ X.N) (hN : X.N.Nodup) (hi : PE X iter te)
    (helt : ∀ (s1 : Shared) (H1 : Hp) (C : Addr) (code : Value), RG k (X.A.in1.in1.deeper (gEnv X scope C code)) → PE (genCx X x X.A.in1.in1 s1 H1 (gEnv X scope C code)) elt tel)
    (hs : ∀ v, genFold iter X.env v = pure v := by intro _; rfl)
    (he : starEach [.GeneratorExp elt [⟨.Name x px, iter, [], 0⟩] scope gpos] X.env = (false, eval (.GeneratorExp elt [⟨.Name x px, iter, [], 0⟩] scope gpos) X.env) :: starEach [] X.env := by rfl) :
    PE X (.Call (.Name "any" p) [.GeneratorExp elt [⟨.Name x px, iter, [], 0⟩] scope gpos] [] pos) (tAllN X.K P true te tel) := by
  refine ⟨fun pins s σ H Q I h => ?_⟩
  refine wpAny_Call_Name_kw (ld_blt I hg hm PyProof.Rows.boot_any ?_)
  refine PyProof.Rows.callWith_builtin1 ?_ he (by rfl)
  rw [he]
  show wpAny _ _ (spliced ((false, eval (.GeneratorExp elt [⟨.Name x px, iter, [], 0⟩] scope gpos) X.env) :: backTo pos (starEach [] X.env))) _ _ s
  refine Calls.spliced_cons ?_
  refine wpAny_GeneratorExp_make L.co (closure_ok (L.has I.ok)) L.nocell L.dot L.kind (by have := hr.room.dp; omega) ?_ hs
  refine thn (hi.run pins s σ H _ I h) fun xv s1 ⟨v, H1, I1, r1, q1⟩ => ?_
  obtain ⟨t, xs, bs, Pv, rfl, hS, hT, hpt, hp0, hpe, q2, q3⟩ := q1
  cases r1
  refine gen_core (gpos := gpos) (px := px) (iter := iter) (x := x) (elt := elt) (scope := scope) (Q' := fun v s' => wpAny (model X.prog X.w) X.A (spliced (backTo pos (starEach [] X.env))) (fun vs s2 => wpAny (model X.prog X.w) X.A (call (.builtin "any") (v :: vs)) (EP X pins σ Q) X.xe s2) X.xe s') hr TB hcode L hx hdot hN helt I1 hS hT hpt hp0 hpe fun a g s5 ST FIN hgen side at_ out1 out2 => ?_
  refine Calls.spliced_nil ?_
  refine call_function_tree PySem.F.kind_any PySem.F.plain_any PySem.F.entry_any (PySem.F.args_any1 _) ?_
  unfold Builtin.«any»
  refine wpAny_bind (m := oneArg "any" _) (wpAny_pure ?_)
  refine wpAny_bind (wpAny_pyIter_gen hgen ?_)
  refine wpAny_pure ⟨plainId_quiet PySem.F.plain_any_loop _, any_loopN (A := X.A) hr.room.hd (by have := hr.room.dp; omega) side _ 0 s5 rfl (Nat.zero_le _) at_ (fun j hj => absurd hj (Nat.not_lt_zero _)) (fun i s' hi hb st => ?_) fun s' h' all hf hk => ?_⟩
  · obtain ⟨H', p, e⟩ := out1 (i + 1) s' st
    exact e true Q (q2 i H' hi hb p)
  · obtain ⟨H', p, e⟩ := out2 s' h' hf hk
    exact e false Q (q3 H' all p)
end
end Cl

namespace Cl
open PySem PySem.Spec PyProof.Rows L2
/-! ### zip of two tuples within a comprehension -/
theorem walk_zipT {K : PySem.W.Frag} {a b : Addr} {xs ys : List V} {n : Nat} (hn : n = min xs.length ys.length) : Walk (RZ.ItzT K a b) n (fun H => SqT K H a xs ∧ SqT K H b ys) (YPair (fun i => xs[i]?) (fun i => ys[i]?)) := by
  subst hn
  refine ⟨fun i _ hi q => ?_, fun _ q => ⟨xs, ys, q.1, q.2, by omega⟩, fun i H v H' _ q y => ?_⟩
  · have h1 : i < xs.length := by omega
    have h2 : i < ys.length := by omega
    exact ⟨xs, ys, xs[i], ys[i], q.1, q.2, by simp [h1], by simp [h2]⟩
  · obtain ⟨T, x, z, h1, h2, h3, h4, h5⟩ := y
    exact ⟨T, x, z, h1, h2, h3, h4 xs q.1, h5 ys q.2⟩
def lcZT {K : PySem.W.Frag} {a b : Addr} {xs ys : List V} {n : Nat} {g : TG} {tt : TT} {te : TE} {vs : List Nat} {σ : L2.St} {H1 : Hp} {D : Addr} {Qd : Hp → Prop} (hn : n = min xs.length ys.length)
    (Pv : Nat → Hp → Prop) (hD : H1 D = none) (h0 : ∀ H', Same H1 H' → H' D = some (.lst []) → Pv 0 H') (hG : ∀ i H, i ≤ n → Pv i H → SqT K H a xs ∧ SqT K H b ys)
    (hs : ∀ i x H H', i < n → Pv i H → YPair (fun i => xs[i]?) (fun i => ys[i]?) i H x H' → g x (wipe σ vs) H' fun σ2 H2 => wipe σ2 vs = wipe σ vs ∧ tt σ2 H2 fun b H3 =>
      if b = true then te σ2 H3 fun y H4 => ∃ acc, H4 D = some (.lst acc) ∧ acc.length < sizeLine ∧ Pv (i + 1) (upd H4 D (.lst (acc ++ [y]))) else Pv (i + 1) H3)
    (hd : ∀ H, Pv n H → Qd H) := lc_it (walk_zipT (K := K) (a := a) (b := b) hn) (g := g) (tt := tt) (te := te) (vs := vs) (σ := σ) (H1 := H1) (D := D) (Qd := Qd) Pv (h0 _ (same_new hD) upd_same) hG hs hd
end Cl

set_option maxHeartbeats 0
namespace Cl
open PySem PySem.Spec PyProof.Rows L2
/-! ### generator expressions over any iterator, any target -/
structure GenT (prog : Program) (w : World) (A : Around) (cenv : Env) (I : Addr) (tg : Expr) (elt : Expr) (n₀ : Nat) (bs : Nat → Bool) (ST : Nat → Shared → Prop) (M1 : Nat → Value → Shared → Prop) (M2 : Nat → Shared → Prop) (FIN : Shared → Prop) : Prop where
  item : ∀ (i : Nat) (s : Shared) (Q : Option Value → Shared → Prop) (E : Value → Shared → Prop), i < n₀ → ST i s → (∀ v s', wpAny (model prog w) (A.deeper cenv) (letOwnedTupleGo tg (.ref I) v) (fun _ s2 => M1 i v s2) (fun _ _ => False) s' → Q (some v) s') → wpAny (model prog w) (A.deeper cenv) (pyNext (.ref I)) Q E s
  asg : ∀ (i : Nat) (v : Value) (s : Shared) (Q : Unit → Shared → Prop) (E : Value → Shared → Prop), M1 i v s → (∀ s', M2 i s' → Q () s') → wpAny (model prog w) (A.deeper cenv) (assign tg cenv v) Q E s
  el : ∀ (i : Nat) (s : Shared) (Q : Value → Shared → Prop) (E : Value → Shared → Prop), M2 i s → (∀ s', ST (i + 1) s' → Q (.bool (bs i)) s') → wpAny (model prog w) (A.deeper cenv) (eval elt cenv) Q E s
  done : ∀ (s : Shared) (Q : Option Value → Shared → Prop) (E : Value → Shared → Prop), ST n₀ s → (∀ s', FIN s' → Q none s') → wpAny (model prog w) (A.deeper cenv) (pyNext (.ref I)) Q E s
  self : ∀ (s : Shared) (Q : Value → Shared → Prop) (E : Value → Shared → Prop), ST 0 s → Q (.ref I) s → wpAny (model prog w) (A.deeper cenv) (pyIter (.ref I)) Q E s
section
variable {prog : Program} {w : World} {A : Around} {cenv : Env} {I : Addr} {tg : Expr} {elt iter : Expr} {n₀ : Nat} {bs : Nat → Bool} {ST : Nat → Shared → Prop} {M1 : Nat → Value → Shared → Prop} {M2 : Nat → Shared → Prop} {FIN : Shared → Prop} {scope : Scope} {pos : Pos}
theorem seg_loopT (hco : cenv.scope.isCoroutine = false) (G : GenT prog w A cenv I tg elt n₀ bs ST M1 M2 FIN) :
    ∀ (k i : Nat) (s₀ s : Shared), n₀ - i = k → i ≤ n₀ → ST i s →
      Seg (model prog w) A (endN FIN) (protoN n₀ bs ST) k s₀
        (.compLoop (.GeneratorExp elt [⟨tg, iter, [], 0⟩] scope pos) 0 (.ref I) .none cenv)
        ((model prog w).den (.compLoop (.GeneratorExp elt [⟨tg, iter, [], 0⟩] scope pos) 0 (.ref I) .none cenv)) [] s := by
  intro k
  induction k with
  | zero =>
    intro i s₀ s hk hi hst
    have hin : i = n₀ := by omega
    subst hin
    show Seg _ A _ _ _ s₀ _ ((compTurn (.GeneratorExp elt [⟨tg, iter, [], 0⟩] scope pos) 0 (.ref I) .none cenv).onRaise (leaving cenv)) [] s
    rw [compTurn_gen, Sem.onRaise_eq_wrap]
    refine seg_bind_wrap (wpAny_standAt ?_)
    refine seg_bind_wrap ?_
    rw [over_comp]
    refine G.done s _ _ hst fun s' hf => ?_
    exact seg_end (.ok .next) ⟨rfl, rfl, hf⟩
  | succ k ih =>
    intro i s₀ s hk hi hst
    have hlt : i < n₀ := by omega
    show Seg _ A _ _ _ s₀ _ ((compTurn (.GeneratorExp elt [⟨tg, iter, [], 0⟩] scope pos) 0 (.ref I) .none cenv).onRaise (leaving cenv)) [] s
    rw [compTurn_gen, Sem.onRaise_eq_wrap]
    refine seg_bind_wrap (wpAny_standAt ?_)
    refine seg_bind_wrap ?_
    rw [over_comp]
    refine G.item i s _ _ hlt hst fun v s1 h1 => ?_
    refine seg_bind_wrap ?_
    rw [over_comp]
    refine wpAny_mono h1 (fun _ s1' h1' => ?_) (fun _ _ z => z.elim)
    refine seg_bind_wrap ?_
    rw [over_comp]
    refine G.asg i v s1' _ _ h1' fun s2 h2 => ?_
    refine seg_bind_wrap ?_
    simp only [List.forIn_nil]
    refine wpAny_pure ?_
    simp only [if_true]
    have hy : ∀ v, yieldOut cenv v = yieldValue v := fun v => by simp only [yieldOut, hco, Bool.false_eq_true, if_false]
    simp only [hy]
    rw [Sem.bind_eq_wrap', Sem.bind_eq_wrap', Sem.wrap_wrap, Sem.wrap_wrap]
    refine seg_wrap ?_
    rw [over_comp]
    refine G.el i s2 _ _ h2 fun s3 h3 => ?_
    refine seg_at (seg_yield rfl rfl rfl ⟨i, by omega, rfl, h3, fun s'' hal => ?_⟩)
    exact seg_again rfl (ih (i + 1) s'' s'' (by omega) hlt hal)
theorem seg_startT (hco : cenv.scope.isCoroutine = false) (G : GenT prog w A cenv I tg elt n₀ bs ST M1 M2 FIN) (s₀ s : Shared) (hst : ST 0 s) :
    Seg (model prog w) A (endN FIN) (protoN n₀ bs ST) n₀ s₀
      (.compStart (.GeneratorExp elt [⟨tg, iter, [], 0⟩] scope pos) 0 (.ref I) .none cenv)
      ((model prog w).den (.compStart (.GeneratorExp elt [⟨tg, iter, [], 0⟩] scope pos) 0 (.ref I) .none cenv)) [] s := by
  have loop := fun s₀ => seg_loopT (iter := iter) (scope := scope) (pos := pos) hco G n₀ 0 s₀ s (Nat.sub_zero _) (Nat.zero_le _) hst
  show Seg _ A _ _ _ s₀ _ ((compStart (.GeneratorExp elt [⟨tg, iter, [], 0⟩] scope pos) 0 (.ref I) .none cenv).onRaise (leaving cenv)) [] s
  unfold compStart
  rw [Sem.onRaise_eq_wrap]
  show Seg _ A _ _ _ s₀ _ ((ask >>= _).wrap _ _ _ _) [] s
  refine seg_bind_wrap (wpAny_askSetting ?_)
  split
  · exact seg_again rfl (loop s₀)
  · refine seg_bind_wrap (wpAny_rule ?_)
    first
      | (refine seg_bind_wrap (wpAny_standAt ?_)
         refine seg_bind_wrap ?_
         rw [over_start]
         exact G.self s _ _ hst (seg_again rfl (loop s₀)))
      | (show Seg _ A _ _ _ s₀ _ ((standAt iter.pos >>= _).wrap _ _ _ _) [] s
         refine seg_bind_wrap (wpAny_standAt ?_)
         refine seg_bind_wrap ?_
         rw [over_start]
         exact G.self s _ _ hst (seg_again rfl (loop s₀)))
end
end Cl

set_option maxHeartbeats 0
namespace Cl
open PySem PySem.Spec PyProof.Rows L2
open GxR (TabB TabG Tabbed GenS inv_tab sh_eta)
/-- a generator expression's scope with these own names -/
structure GenKL (sc scope : Scope) (xs : List Str) : Prop where
  kind : scope.kind = .function
  co : scope.isCoroutine = false
  nocell : ∀ y ∈ scope.names, y.2 ≠ .cell
  dot : scope.names.lookup (".0" : Str) = some .local
  own : ∀ y ∈ scope.names, y.2 = .local → y.1 ∈ xs ∨ y.1 = ".0"
  par : ∀ x ∈ xs, scope.names.lookup x = some .local
  free : ∀ y ∈ scope.names, y.2 = .free → sc.names.lookup y.1 = some .cell ∨ sc.names.lookup y.1 = some .free
def genKLB (sc scope : Scope) (xs : List Str) : Bool :=
  decide (scope.kind = .function) && (!scope.isCoroutine && (decide (scope.names.lookup (".0" : Str) = some .local) && ((xs.all fun x => decide (scope.names.lookup x = some .local)) && scope.names.all fun y => !decide (y.2 = .cell) && ((!decide (y.2 = .local) || (decide (y.1 ∈ xs) || decide (y.1 = ".0"))) && (!decide (y.2 = .free) || (decide (sc.names.lookup y.1 = some .cell) || decide (sc.names.lookup y.1 = some .free)))))))
theorem genKL_by {sc scope : Scope} {xs : List Str} (h : genKLB sc scope xs = true) : GenKL sc scope xs := by
  unfold genKLB at h
  simp only [Bool.and_eq_true, Bool.or_eq_true, Bool.not_eq_true', decide_eq_true_eq, decide_eq_false_iff_not, List.all_eq_true] at h
  obtain ⟨h1, h2, h3, h4, h5⟩ := h
  refine ⟨h1, h2, fun y hy => (h5 y hy).1, h3, fun y hy e => ?_, h4, fun y hy e => ?_⟩
  · rcases (h5 y hy).2.1 with z | z
    · exact absurd e z
    · exact z
  · rcases (h5 y hy).2.2 with z | z
    · exact absurd e z
    · exact z
theorem GenKL.has {X : Cx} {scope : Scope} {xs : List Str} (L : GenKL X.env.scope scope xs) (ok : X.Ok) : ∀ y ∈ scope.names, y.2 = .free → ∃ c, X.env.cells.lookup y.1 = some c := fun y hy e => by
  rcases L.free y hy e with k | k
  · exact ok.has _ (.inl k)
  · exact ok.has _ (.inr k)
/-- the context of the element -/
def genCxT (X : Cx) (xs : List Str) (A : Around) (s1 : Shared) (H1 : Hp) (env : Env) (fp : List Addr) : Cx where
  prog := X.prog
  w := X.w
  K := X.K
  mg := X.mg
  base := X.base
  A := A.deeper env
  N := xs ++ X.N
  s_0 := s1
  H_0 := H1
  env := env
  outer := X.stack
  stack := env :: X.stack
  ex := fp
  fn := fun _ => false
  calm := true
  pn := []
  xe := fun _ _ => False
section
variable {X : Cx} {pins : List (Addr × Obj)} {σ : L2.St}
theorem gen_startT {xs : List Str} {A : Around} {s1 s4 : Shared} {H1 H4 : Hp} {scope : Scope} {C P : Addr} {code : Value} {pn : List (Addr × Obj)} {m : Str → Option Value} {fp : List Addr} (I : Inv X pins σ H1 s1) (L : GenKL X.env.scope scope xs) (hf : A.frames = some X.stack) (hd : A.handled = none) (hx : ∀ x ∈ xs, x ∉ X.N) (hdot : (".0" : Str) ∉ X.N)
    (hC : s1.heap.objs.size ≤ C) (hP : ∃ ps, H1 P = some (.tbl ps)) (kp : ∀ b o, b ≠ P → s1.heap.get? b = some o → s4.heap.get? b = some o) (un : Un (frs X.stack) [] H1 H4 s1.heap s4.heap) (hok : HOk X.prog X.w H4 s4.heap) (bare : AllBare s4.gens) (hos : s4.os = s1.os)
    (hns : s4.heap.Ns C m) (hCn : H4 C = none) (hpn : ∀ p ∈ pn, s4.heap.get? p.1 = some p.2 ∧ H4 p.1 = none ∧ p.1 ≠ C ∧ p.1 ∉ frs X.stack ∧ ∀ v, p.2.data ≠ .cell v)
    (hfp : ∀ b ∈ fp, FpOk X pins H1 b) (hfC : ∀ b ∈ fp, b ≠ C) :
    Inv (genCxT X xs A s1 H1 (gEnv X scope C code) fp) pn (xs.map (fun _ => none) ++ σ) H4 s4 := by
  have hfree := L.has I.ok
  have e0 := I.env0
  obtain ⟨ps, hP⟩ := hP
  have cm : ∀ {y c}, (cloFrom X.env.cells scope.names []).lookup y = some c → X.env.cells.lookup y = some c := fun {y c} e => by
    rcases cloFrom_mem (PySem.mem_of_lookup e) with hm | ⟨h1, h2⟩
    · cases hm
    · obtain ⟨c1, hc⟩ := hfree _ h1 rfl
      have hc : X.env.cells.lookup y = some c1 := hc
      have e2 : c = c1 := by
        rw [h2, hc] <;> rfl
      rw [e2]
      exact hc
  have look : ∀ {y}, scope.names.lookup y = some .free → ∃ c, (cloFrom X.env.cells scope.names []).lookup y = some c := fun {y} hl => by
    have hy : (y, NameKind.free) ∈ scope.names := PySem.mem_of_lookup hl
    exact mem_lookup (cloFrom_has (cells := X.env.cells) (acc := []) hy)
  have nP : ∀ b, H1 b = none → b ≠ P := fun b n z => by rw [z, hP] at n; cases n
  have cellK : ∀ {c : Addr} {v : Option Value}, H1 c = none → s1.heap.IsCell c v → s4.heap.IsCell c v := fun {c v} n ⟨o, ho, hd⟩ => ⟨_, kp _ _ (nP _ n) ho, hd⟩
  have nst : ∀ b ∈ fp, b ∉ frs X.stack := fun b hb z => by
    obtain ⟨_, f1, f2, _⟩ := hfp b hb
    rcases List.mem_cons.mp (I.stkSub b z) with e | z
    · exact f1 e
    · exact f2 z
  have nbase : ∀ b o, X.base.get? b = some o → b ∉ fp := fun b o e z => by
    obtain ⟨_, _, _, f3, _⟩ := hfp b z
    rcases f3 with f | f
    · exact I.ok.noex b o e f
    · exact absurd (Nat.lt_of_lt_of_le (Heap.lt_size e) I.ok.bsz) (Nat.not_lt.mpr f)
  refine ⟨⟨e0.mod, L.kind, I.ok.glob, rfl, hC, fun y z c e1 e2 => I.ok.inj y z c (cm e1) (cm e2), fun y hy => ?_, fun y c z _ => ?_, fun _ => hd, Around.frames_deeper hf, .inr ⟨rfl, rfl⟩, fun b z => ⟨hfC b z, fun x c e => (hfp b z).2.2.2.2.1 x c (cm e)⟩, e0.bs, e0.bsz, nbase,
      nst, e0.funs, e0.frf⟩,
    hos, bare, ⟨fun b o e n h1 _ => un.keep b o e n h1 (by simp), fun b o e n h1 _ => un.slot b o e n h1 (by simp), fun b o e n _ => un.free b o e n (by simp), fun b o e _ => un.there b o e (by simp), un.tups, un.frzs, un.tbls⟩, ⟨_, hns, fun i y v' e1 e2 e3 => ?_⟩, fun y c e => ?_, hCn, fun y c e => ?_, fun q hq => ?_, hok, ?_⟩
  · have hy : scope.names.lookup y = some .cell ∨ scope.names.lookup y = some .free := hy
    rcases hy with hy | hy
    · exact absurd rfl (L.nocell _ (PySem.mem_of_lookup hy))
    · exact look hy
  · have z : false = true := z
    cases z
  · have e3 : Vis scope y := e3
    have e1 : (xs ++ X.N)[i]? = some y := e1
    have e2 : (xs.map (fun _ => (none : Option V)) ++ σ)[i]? = some (some v') := e2
    by_cases hi : i < xs.length
    · rw [List.getElem?_append_left (by rw [List.length_map]; exact hi), List.getElem?_map, List.getElem?_eq_getElem hi] at e2
      cases e2
    · rw [List.getElem?_append_right (Nat.le_of_not_lt hi)] at e1
      rw [List.getElem?_append_right (by rw [List.length_map]; exact Nat.le_of_not_lt hi), List.length_map] at e2
      have hyN := List.mem_of_getElem? e1
      rcases e3 with k | k | k
      · rcases L.own _ (PySem.mem_of_lookup k) rfl with z | z
        · exact absurd hyN (hx _ z)
        · exact absurd (by rw [← show y = ".0" from z]; exact hyN) hdot
      · exact absurd rfl (L.nocell _ (PySem.mem_of_lookup k))
      · obtain ⟨m, hn, hl⟩ := I.loc
        have hvis : Vis X.env.scope y := (L.free _ (PySem.mem_of_lookup k) rfl).elim (fun k => .inr (.inl k)) (fun k => .inr (.inr k))
        obtain ⟨w', r, q⟩ := hl _ y v' e1 e2 hvis
        obtain ⟨c2, h2⟩ := look k
        refine ⟨w', r, .inr ⟨.inr k, c2, h2, ?_⟩⟩
        have c1 := cm h2
        rcases q with ⟨k', _⟩ | ⟨_, c3, e', z⟩
        · have k' : X.env.scope.names.lookup y = some .local := k'
          rcases L.free _ (PySem.mem_of_lookup k) rfl with k2 | k2 <;> rw [show X.env.scope.names.lookup y = _ from k2] at k' <;> cases k'
        · rw [c1] at e'
          cases e'
          exact cellK (I.freeC y _ c1) z
  · obtain ⟨w', z⟩ := I.cell y c (cm e)
    exact ⟨w', cellK (I.freeC y c (cm e)) z⟩
  · have n1 := I.freeC y c (cm e)
    obtain ⟨w', z⟩ := I.cell y c (cm e)
    obtain ⟨o, ho, _⟩ := z
    exact un.free c o ho n1 (by simp)
  · have hq : q ∈ pn := hq
    exact hpn q hq
  · show (xs.map (fun _ => none) ++ σ).length = (xs ++ X.N).length
    rw [List.length_append, List.length_append, List.length_map, I.len]
end
end Cl

set_option maxHeartbeats 0
namespace Cl
open PySem PySem.Spec PyProof.Rows L2
open GxR (TabB TabG Tabbed GenS inv_tab sh_eta)
structure GWT (G : Cx) (xs : List Str) (J : It) (fp : List Addr) (it : Addr) (tn : Nat → Heap → Prop) (tg : Expr) (tgw : TG) (n : Nat) (bs : Nat → Bool) (Pv : Nat → Hp → Prop) (tel : TE) (σ : L2.St) : Prop where
  calm : G.calm = true
  xe : ∀ u s, ¬ G.xe u s
  turn : Turn G.prog G.w G.K tg J fp it tn
  tgp : PG G tg tgw
  go : ∀ i H, i < n → Pv i H → J.go i H
  stop : ∀ H, Pv n H → J.stop n H
  step : ∀ (i : Nat) (v : V) (H H' : Hp) (os : L2.St), i < n → Pv i H → J.yld i H v H' → os.length = xs.length →
    tgw v (os ++ σ) H' fun σ2 H2 => (∃ os2 : L2.St, os2.length = xs.length ∧ σ2 = os2 ++ σ) ∧ tel σ2 H2 fun y H3 => y = .bl (bs i) ∧ Pv (i + 1) H3
section
variable {G : Cx} {xs : List Str} {J : It} {fp : List Addr} {it a : Addr} {tn : Nat → Heap → Prop} {tg : Expr} {tgw : TG} {n g : Nat} {bs : Nat → Bool} {Pv : Nat → Hp → Prop} {tel : TE} {σ : L2.St}
def tST (G : Cx) (xs : List Str) (fp : List Addr) (a : Addr) (tn : Nat → Heap → Prop) (g : Nat) (Pv : Nat → Hp → Prop) (σ : L2.St) (i : Nat) (s : Shared) : Prop :=
  ∃ (H : Hp) (os : L2.St) (oA : Obj), Inv G [(a, oA)] (os ++ σ) H s ∧ os.length = xs.length ∧ Pv i H ∧ tn i s.heap ∧ (∀ b ∈ fp, FpOk G [(a, oA)] H b) ∧ GenO g oA ∧ g < s.gens.size
def tM1 (G : Cx) (xs : List Str) (J : It) (fp : List Addr) (a : Addr) (tn : Nat → Heap → Prop) (g n : Nat) (Pv : Nat → Hp → Prop) (σ : L2.St) (i : Nat) (u : Value) (s : Shared) : Prop :=
  ∃ (H H' : Hp) (v : V) (os : L2.St) (oA : Obj), Inv G [(a, oA)] (os ++ σ) H' s ∧ os.length = xs.length ∧ Pv i H ∧ i < n ∧ J.yld i H v H' ∧ RelV v u ∧ tn (i + 1) s.heap ∧ (∀ b ∈ fp, FpOk G [(a, oA)] H' b) ∧ GenO g oA ∧ g < s.gens.size
def tM2 (G : Cx) (xs : List Str) (fp : List Addr) (a : Addr) (tn : Nat → Heap → Prop) (g : Nat) (bs : Nat → Bool) (Pv : Nat → Hp → Prop) (tel : TE) (σ : L2.St) (i : Nat) (s : Shared) : Prop :=
  ∃ (H : Hp) (os : L2.St) (oA : Obj), Inv G [(a, oA)] (os ++ σ) H s ∧ os.length = xs.length ∧ (tel (os ++ σ) H fun y H3 => y = .bl (bs i) ∧ Pv (i + 1) H3) ∧ tn (i + 1) s.heap ∧ (∀ b ∈ fp, FpOk G [(a, oA)] H b) ∧ GenO g oA ∧ g < s.gens.size
def tFIN (G : Cx) (xs : List Str) (Pv : Nat → Hp → Prop) (σ : L2.St) (n : Nat) (s : Shared) : Prop := ∃ (H : Hp) (os : L2.St), Inv G [] (os ++ σ) H s ∧ os.length = xs.length ∧ Pv n H
theorem kept_turn (T : Turn G.prog G.w G.K tg J fp it tn) {pins : List (Addr × Obj)} {i : Nat} {s s' : Shared} {σ' : L2.St} {H H' : Hp} (t : tn i s.heap) (hf : ∀ b ∈ fp, FpOk G pins H b) (J' : Inv G (pins ++ pinsAt fp s.heap) σ' H' s') :
    tn i s'.heap ∧ (∀ b ∈ fp, FpOk G pins H' b) ∧ Inv G pins σ' H' s' := by
  have at_ : ∀ b ∈ fp, ∀ o, s.heap.get? b = some o → (b, o) ∈ G.pn ++ (pins ++ pinsAt fp s.heap) := fun b hb o e => List.mem_append_right _ (List.mem_append_right _ (mem_pinsAt hb e))
  refine ⟨T.keep _ _ _ t fun b hb o e => (J'.pin _ (at_ b hb o e)).1, fun b hb => ?_, J'.unpinned⟩
  obtain ⟨o, e, _⟩ := T.obj _ _ t b hb
  exact ⟨(J'.pin _ (at_ b hb o e)).2.1, (hf b hb).2⟩
theorem gw_genT {elt : Expr} {A : Around} (hA : G.A = A.deeper G.env) (W : GWT G xs J fp it tn tg tgw n bs Pv tel σ) (helt : PE G elt tel) :
    GenT G.prog G.w A G.env it tg elt n bs (tST G xs fp a tn g Pv σ) (tM1 G xs J fp a tn g n Pv σ) (tM2 G xs fp a tn g bs Pv tel σ) (tFIN G xs Pv σ n) := by
  refine ⟨fun i s Q E hi st hQ => ?_, fun i v s Q E h hQ => ?_, fun i s Q E h hQ => ?_, fun s Q E st hQ => ?_, fun s Q E st hQ => ?_⟩
  · obtain ⟨H, os, oA, J0, lo, p, ht, hf, hA2, hg⟩ := st
    refine GenW.wpAny_gsz (n := g + 1) hg ?_
    rw [← hA]
    refine wpAny_mono (W.turn.item G rfl rfl rfl W.calm i _ s _ H (fun _ _ => False) J0 hf ht (W.go i H hi p)) (fun r s1 hr hsz => ?_) fun _ _ z => z.elim
    obtain ⟨u, rfl, hu⟩ := hr
    refine hQ u s1 ?_
    refine GenW.wpAny_gsz (n := g + 1) hsz ?_
    rw [hA] at hu
    refine wpAny_mono hu (fun _ s2 hs hsz2 => ?_) fun _ _ (z : False) => z.elim
    obtain ⟨x, H', J1, rx, yx, t1, f1⟩ := hs
    exact ⟨H, H', x, os, oA, J1, lo, p, hi, yx, rx, t1, fun b hb => ⟨f1 b hb, (hf b hb).2⟩, hA2, hsz2⟩
  · obtain ⟨H, H', x, os, oA, J1, lo, p, hi, y, r, t1, f1, hA2, hg⟩ := h
    have J2 := J1.pinned f1 (W.turn.obj _ _ t1)
    refine GenW.wpAny_gsz (n := g + 1) hg ?_
    rw [← hA]
    refine wpAny_mono (W.tgp.run _ s _ H' x v _ J2 r (W.step i x H H' os hi p y lo)) (fun _ s' hs hsz => ?_) fun u s' hs => absurd hs (W.xe u s')
    obtain ⟨σ', H2, J3, ⟨os2, lo2, rfl⟩, ht⟩ := hs
    obtain ⟨t2, f2, J4⟩ := kept_turn W.turn t1 f1 J3
    exact hQ s' ⟨H2, os2, oA, J4, lo2, ht, t2, f2, hA2, hsz⟩
  · obtain ⟨H, os, oA, J1, lo, ht, t1, f1, hA2, hg⟩ := h
    have J2 := J1.pinned f1 (W.turn.obj _ _ t1)
    refine GenW.wpAny_gsz (n := g + 1) hg ?_
    rw [← hA]
    refine wpAny_mono (helt.run _ s _ H _ J2 ht) (fun u s' hs hsz => ?_) fun u s' hs => absurd hs (W.xe u s')
    obtain ⟨y, H', J3, r, rfl, p'⟩ := hs
    obtain rfl : u = Value.bool (bs i) := r
    obtain ⟨t2, f2, J4⟩ := kept_turn W.turn t1 f1 J3
    exact hQ s' ⟨H', os, oA, J4, lo, p', t2, f2, hA2, hsz⟩
  · obtain ⟨H, os, oA, J0, lo, p, ht, hf, hA2, hg⟩ := st
    rw [← hA]
    refine wpAny_mono (W.turn.done G rfl rfl rfl W.calm n _ s _ H (fun _ _ => False) J0 hf ht (W.stop H p)) (fun r s1 hr => ?_) fun _ _ z => z.elim
    obtain ⟨rfl, J1⟩ := hr
    exact hQ s1 ⟨H, os, J1.pins_of fun q hq => (nomatch hq), lo, p⟩
  · obtain ⟨H, os, oA, J0, lo, p, ht, _⟩ := st
    exact W.turn.self _ 0 s Q E ht hQ
theorem gw_sideT : SideN a g (tST G xs fp a tn g Pv σ) where
  gen := fun i s ⟨H, os, oA, J, _, _, _, _, ⟨nm, qn, h1, h2, h3⟩, _⟩ => ⟨oA, nm, qn, (J.pin (a, oA) (List.mem_append_right _ (by simp))).1, h1, h2, h3⟩
  lim := fun i s ⟨H, os, oA, J, _⟩ => J.nolimit
  sz := fun i s ⟨_, _, _, _, _, _, _, _, _, h⟩ => h
  set := fun i s y hy ⟨H, os, oA, J, lo, p, ht, hf, hA, hg⟩ => ⟨H, os, oA, Inv.setGen J hy, lo, p, ht, hf, hA, by rw [GenW.setGen_size]; exact hg⟩
end
end Cl

set_option maxHeartbeats 0
namespace Cl
open PySem PySem.Spec PyProof.Rows L2
open GxR (TabB TabG Tabbed GenS inv_tab sh_eta)
section
variable {X : Cx}
theorem gen_coreT {c P : Addr} {elt tg iter : Expr} {xs : List Str} {Ji : It} {fp : List Addr} {it : Addr} {tn : Nat → Heap → Prop} {gpos : Pos} {scope : Scope} {tel : TE} {tgw : TG} {k : Nat} {pins : List (Addr × Obj)} {σ : L2.St} {s1 : Shared} {H1 : Hp} {n : Nat} {bs : Nat → Bool} {Pv : Nat → Hp → Prop} {Q' : Value → Shared → Prop}
    (hr : RG (k + 2) X.A) (TB : TabB X.base X.mg c P) (hcode : X.env.code = .ref c) (L : GenKL X.env.scope scope xs) (hx : ∀ x ∈ xs, x ∉ X.N) (hdot : (".0" : Str) ∉ X.N)
    (htg : ∀ (s1 : Shared) (H1 : Hp) (C : Addr) (code : Value) (fp : List Addr), PG (genCxT X xs X.A.in1.in1 s1 H1 (gEnv X scope C code) fp) tg tgw)
    (helt : ∀ (s1 : Shared) (H1 : Hp) (C : Addr) (code : Value) (fp : List Addr), RG k (X.A.in1.in1.deeper (gEnv X scope C code)) → PE (genCxT X xs X.A.in1.in1 s1 H1 (gEnv X scope C code) fp) elt tel)
    (I1 : Inv X pins σ H1 s1) (hTn : Turn X.prog X.w X.K tg Ji fp it tn) (ht0 : tn 0 s1.heap) (hfp : ∀ b ∈ fp, FpOk X pins H1 b) (hT : TabG H1 P)
    (hgoes : ∀ i H, i < n → Pv i H → Ji.go i H) (hstop : ∀ H, Pv n H → Ji.stop n H) (hp0 : ∀ H2, Same H1 H2 → TabG H2 P → Pv 0 H2)
    (hstep : ∀ (i : Nat) (v : V) (H H' : Hp) (os : L2.St), i < n → Pv i H → Ji.yld i H v H' → os.length = xs.length → tgw v (os ++ σ) H' fun σ2 H2 => (∃ os2 : L2.St, os2.length = xs.length ∧ σ2 = os2 ++ σ) ∧ tel σ2 H2 fun y H3 => y = .bl (bs i) ∧ Pv (i + 1) H3)
    (hQ : ∀ (a : Addr) (g : Nat) (s5 : Shared) (ST : Nat → Shared → Prop) (FIN : Shared → Prop), s5.heap.IsGen a g → SideN a g ST → AtN X.prog X.w X.A.in1.in1 a g n bs ST FIN 0 s5 →
      (∀ i s', ST i s' → ∃ H', (Pv i H') ∧ ∀ (b : Bool) (Q : VK), Q (.bl b) H' → EP X pins σ Q (.bool b) s') →
      (∀ s' h', FIN s' → (∀ b o, s'.heap.get? b = some o → h'.get? b = some o) → ∃ H', (Pv n H') ∧ ∀ (b : Bool) (Q : VK), Q (.bl b) H' → EP X pins σ Q (.bool b) { s'.setGen g .finished with heap := h' }) → Q' (.ref a) s5) :
    s1.heap.NoLimit ∧
      wpAny (model X.prog X.w) X.A (genexprCode X.env gpos (X.env.qual ++ "<genexpr>") scope) (fun code s₃ => wpAny (model X.prog X.w) X.A (builtinsFor X.env.globals X.env.builtins) (fun bi s₄ =>
        ∀ h', h'.Ns s₄.heap.objs.size (fun y => if y = ".0" then some (.ref it) else none) → Heap.SameBut s₄.heap.objs.size (s₄.heap.push { cls := .type "frame", data := .dict #[] }) h' →
          Q' (.ref h'.objs.size) { s₄ with
            gens := s₄.gens.push (.fresh (.compStart (.GeneratorExp elt [⟨tg, iter, [], 0⟩] scope gpos) 0 (.ref it) .none (genEnv scope (cloFrom X.env.cells scope.names []) s₄.heap.objs.size code bi X.env))),
            toks := s₄.toks + 1 + 1 + 1,
            heap := h'.push { cls := .type "generator", data := .fields #[.int s₄.gens.size 0, .str "<genexpr>" (s₄.toks + 1), .str (X.env.qual ++ "<genexpr>") (s₄.toks + 1 + 1)] } }) X.xe s₃) X.xe s1 := by
  have hfl : ∀ b ∈ fp, b < s1.heap.objs.size := fun b hb => by
    obtain ⟨o, e, _⟩ := hTn.obj _ _ ht0 b hb
    exact Heap.lt_size e
  obtain ⟨ps, hP, ht⟩ := id hT
  have hPs : s1.heap.get? P = some { cls := .none, data := .fields ps } := I1.hok P _ hP
  have hPlt : P < s1.heap.objs.size := Heap.lt_size hPs
  have cd : PySem.W.CodeHd s1.heap c P := TB.code.keeps fun b u e => I1.bk b u e
  have cont : ∀ (code : Value) (h3 : Heap) (tk : Nat) (ps' : Array Value), Heap.ExtBut P s1.heap h3 → s1.heap.objs.size ≤ h3.objs.size → h3.get? P = some { cls := .none, data := .fields ps' } → (∃ more, ps' = ps ++ more) → TriplesOk ps'.toList →
      wpAny (model X.prog X.w) X.A (builtinsFor X.env.globals X.env.builtins) (fun bi s₄ =>
        ∀ h', h'.Ns s₄.heap.objs.size (fun y => if y = ".0" then some (.ref it) else none) → Heap.SameBut s₄.heap.objs.size (s₄.heap.push { cls := .type "frame", data := .dict #[] }) h' →
          Q' (.ref h'.objs.size) { s₄ with
            gens := s₄.gens.push (.fresh (.compStart (.GeneratorExp elt [⟨tg, iter, [], 0⟩] scope gpos) 0 (.ref it) .none (genEnv scope (cloFrom X.env.cells scope.names []) s₄.heap.objs.size code bi X.env))),
            toks := s₄.toks + 1 + 1 + 1,
            heap := h'.push { cls := .type "generator", data := .fields #[.int s₄.gens.size 0, .str "<genexpr>" (s₄.toks + 1), .str (X.env.qual ++ "<genexpr>") (s₄.toks + 1 + 1)] } }) X.xe { s1 with heap := h3, toks := tk } := by
    intro code h3 tk ps' hx3 hsz hP3 hmore ht3
    obtain ⟨bm, ob, e1, e2, e3, e4, e5, e6, e7, e8⟩ := TB.bm
    have keep3 : ∀ b u, b ≠ P → s1.heap.get? b = some u → h3.get? b = some u := fun b u hb e => hx3 b u hb e
    refine wpAny_builtinsFor (m := X.mg) (by rw [I1.ok.glob]; exact (I1.mod.glob.keeps I1.bk).extBut hx3 TB.gP) e1 e2 (keep3 _ _ e4 (I1.bk _ _ e5)) e6 e7 e8 ?_
    intro h4 hns4 hsb4
    show Q' (.ref h4.objs.size) _
    have hC4 : h4.objs.size = h3.objs.size + 1 := by rw [hsb4.1, Heap.size_push]
    obtain ⟨more, em⟩ := hmore
    subst em
    have nP : ∀ b, H1 b = none → b ≠ P := fun b n z => by rw [z, hP] at n; cases n
    have keep4 : ∀ b u, b ≠ P → s1.heap.get? b = some u → h4.get? b = some u := fun b u hb e => hsb4.extBut b u (Nat.ne_of_lt (Nat.lt_of_lt_of_le (Heap.lt_size e) hsz)) (Heap.get?_push_of_some _ (keep3 b u hb e))
    have hP4 : h4.get? P = some { cls := .none, data := .fields (ps ++ more) } := hsb4.extBut P _ (Nat.ne_of_lt (Nat.lt_of_lt_of_le hPlt hsz)) (Heap.get?_push_of_some _ hP3)
    generalize hgo : ({ cls := .type "generator", data := .fields #[.int s1.gens.size 0, .str "<genexpr>" (tk + 1), .str (X.env.qual ++ "<genexpr>") (tk + 1 + 1)] } : Obj) = go
    have hA5 : (h4.push go).get? h4.objs.size = some go := Heap.get?_push_size _ (by rw [← hgo]; rfl)
    have keep5 : ∀ b u, b ≠ P → s1.heap.get? b = some u → (h4.push go).get? b = some u := fun b u hb e => Heap.get?_push_of_some _ (keep4 b u hb e)
    have hP5 : (h4.push go).get? P = some { cls := .none, data := .fields (ps ++ more) } := Heap.get?_push_of_some _ hP4
    generalize hgs : (GenState.fresh (.compStart (.GeneratorExp elt [⟨tg, iter, [], 0⟩] scope gpos) 0 (.ref it) .none (gEnv X scope h3.objs.size code))) = gs
    have gb : gs.bare = true := by rw [← hgs]; rfl
    have J := inv_tab (more := more) (h' := h4.push go) (g' := s1.gens.push gs) (d' := s1.drawn) (t' := tk + 1 + 1 + 1) I1 hP keep5 hP5 (I1.bare.push gb)
    have fresh : ∀ b, s1.heap.objs.size ≤ b → b ≠ P → upd H1 P (.tbl (ps ++ more)) b = none := fun b hb n => by rw [upd_ne n]; exact I1.hok.fresh hb
    have neP : ∀ b, s1.heap.objs.size ≤ b → b ≠ P := fun b hb z => by rw [z] at hb; exact absurd hPlt (Nat.not_lt.mpr hb)
    have noStk : ∀ b, s1.heap.objs.size ≤ b → b ∉ frs X.stack := fun b hb z => by
      rcases List.mem_cons.mp (I1.stkSub b z) with e | z
      · rw [e] at hb; exact absurd I1.lt (Nat.not_lt.mpr hb)
      · exact I1.nofs hb z
    have lC : s1.heap.objs.size ≤ h3.objs.size := hsz
    have lA : s1.heap.objs.size ≤ h4.objs.size := by rw [hC4]; exact Nat.le_trans lC (Nat.le_succ _)
    have un : Un (frs X.stack) [] H1 (upd H1 P (.tbl (ps ++ more))) s1.heap (h4.push go) := by
      have at_ : ∀ b, b ≠ P → upd H1 P (.tbl (ps ++ more)) b = H1 b := fun b h => upd_ne h
      have nQ : ∀ b u, H1 b = some u → (∀ q, u ≠ .tbl q) → b ≠ P := fun b u e q z => by
        rw [z, hP] at e
        exact q _ (Option.some.inj e).symm
      refine ⟨fun b o e n _ _ => keep5 b o (nP b n) e, fun b o e n _ _ => ⟨o.slots, keep5 b o (nP b n) e⟩, fun b o _ n _ => by rw [at_ b (nP b n)]; exact n, fun b o e _ => ?_, fun b ys e => by rw [at_ b (nQ b _ e fun q z => nomatch z)]; exact e, fun b o u e => by rw [at_ b (nQ b _ e fun q z => nomatch z)]; exact e, fun b qs e => ?_⟩
      · by_cases hb : b = P
        · rw [hb]; exact ⟨_, hP5⟩
        · exact ⟨o, keep5 b o hb e⟩
      · by_cases hb : b = P
        · rw [hb, hP] at e
          cases e
          exact ⟨more, by rw [hb, upd_same]⟩
        · exact ⟨#[], by rw [at_ b hb, e]; simp⟩
    have nfP : ∀ b ∈ fp, b ≠ P := fun b hb z => by
      have := (hfp b hb).1
      rw [z, hP] at this
      cases this
    have nfC : ∀ b ∈ fp, b ≠ h3.objs.size := fun b hb => Nat.ne_of_lt (Nat.lt_of_lt_of_le (hfl b hb) lC)
    have St := gen_startT (xs := xs) (C := h3.objs.size) (P := P) (code := code) (m := fun y => if y = ".0" then some (.ref it) else none) (A := X.A.in1.in1) (s4 := { s1 with heap := h4.push go, gens := s1.gens.push gs, drawn := s1.drawn, toks := tk + 1 + 1 + 1 }) (pn := [(h4.objs.size, go)]) (fp := fp) I1 L I1.ok.frames hr.room.hd hx hdot lC ⟨ps, hP⟩ keep5 un J.hok J.bare rfl
      (hns4.push _) (fresh _ lC (neP _ lC)) (fun p hp => by
        rw [List.mem_singleton.mp hp]
        exact ⟨hA5, fresh _ lA (neP _ lA), by show h4.objs.size ≠ h3.objs.size; rw [hC4]; exact Nat.succ_ne_self _, noStk _ lA, fun v z => by rw [← hgo] at z; cases z⟩) hfp nfC
    have tb : Tabbed P H1 (upd H1 P (.tbl (ps ++ more))) := ⟨⟨ps ++ more, upd_same, ht3⟩, fun b hb => upd_ne hb⟩
    have sm := Same.tabbed hT tb
    have hrG : RG k (X.A.in1.in1.deeper (gEnv X scope h3.objs.size code)) := ⟨⟨hr.room.hd, by have := hr.room.dp; show X.A.depth + 1 + 3 * k + 5 < _; omega, by have := hr.room.un; show X.A.units + 1 + 1 + 3 + 16 * k + 200 < _; omega⟩, hr.gd⟩
    have GWw : GWT (genCxT X xs X.A.in1.in1 s1 H1 (gEnv X scope h3.objs.size code) fp) xs Ji fp it tn tg tgw n bs Pv tel σ :=
      ⟨rfl, fun u s z => z, hTn, htg s1 H1 _ _ fp, hgoes, hstop, hstep⟩
    have GG := gw_genT (a := h4.objs.size) (g := s1.gens.size) (elt := elt) (A := X.A.in1.in1) (by rfl) GWw (helt s1 H1 _ _ fp hrG)
    have p0 : Pv 0 (upd H1 P (.tbl (ps ++ more))) := hp0 _ sm tb.1
    have cm : ∀ y c, (cloFrom X.env.cells scope.names []).lookup y = some c → X.env.cells.lookup y = some c := fun y c e => by
      have hfree := L.has I1.ok
      rcases cloFrom_mem (PySem.mem_of_lookup e) with hm | ⟨h1, h2⟩
      · cases hm
      · obtain ⟨c1, hc⟩ := hfree _ h1 rfl
        have hc : X.env.cells.lookup y = some c1 := hc
        have e2 : c = c1 := by rw [h2, hc] <;> rfl
        rw [e2]
        exact hc
    have st0 : tST (genCxT X xs X.A.in1.in1 s1 H1 (gEnv X scope h3.objs.size code) fp) xs fp h4.objs.size tn s1.gens.size Pv σ 0 { s1 with heap := h4.push go, gens := s1.gens.push gs, drawn := s1.drawn, toks := tk + 1 + 1 + 1 } :=
      ⟨_, xs.map (fun _ => none), go, St, by rw [List.length_map], p0, hTn.keep _ _ _ ht0 fun b hb o e => keep5 b o (nfP b hb) e, fun b hb => ⟨by rw [upd_ne (nfP b hb)]; exact (hfp b hb).1, nfC b hb, fun z => by
          obtain ⟨_, f1, f2, _⟩ := hfp b hb
          rcases List.mem_cons.mp (I1.stkSub b z) with e | z
          · exact f1 e
          · exact f2 z, .inl hb, fun y c e => (hfp b hb).2.2.2.2.1 y c (cm y c e), fun p hp => by
          have hp : p ∈ [(h4.objs.size, go)] := hp
          rw [List.mem_singleton.mp hp]
          exact fun z => absurd (hfl b hb) (Nat.not_lt.mpr (by rw [← show h4.objs.size = b from z]; exact lA))⟩, by rw [← hgo]; exact ⟨_, _, rfl, rfl, rfl⟩, by show s1.gens.size < (s1.gens.push gs).size; rw [Array.size_push]; exact Nat.lt_succ_self _⟩
    have side := gw_sideT (G := genCxT X xs X.A.in1.in1 s1 H1 (gEnv X scope h3.objs.size code) fp) (xs := xs) (fp := fp) (a := h4.objs.size) (tn := tn) (g := s1.gens.size) (Pv := Pv) (σ := σ)
    have back : ∀ {pn : List (Addr × Obj)} {os : L2.St} {H : Hp} {s' : Shared}, Inv (genCxT X xs X.A.in1.in1 s1 H1 (gEnv X scope h3.objs.size code) fp) pn (os ++ σ) H s' → ∀ (b : Bool) (Q : VK), Q (.bl b) H → EP X pins σ Q (.bool b) s' := fun {pn os H s'} J b Q q =>
      ⟨.bl b, H, I1.call' (ch := fp) J.os J.base J.hok J.bare (fun b hb => ⟨(hfp b hb).2.2.2.1, (hfp b hb).2.1, (hfp b hb).2.2.2.2.1, (hfp b hb).2.2.2.2.2⟩), rfl, q⟩
    have out1 : ∀ i s', tST (genCxT X xs X.A.in1.in1 s1 H1 (gEnv X scope h3.objs.size code) fp) xs fp h4.objs.size tn s1.gens.size Pv σ i s' → ∃ H', (Pv i H') ∧ ∀ (b : Bool) (Q : VK), Q (.bl b) H' → EP X pins σ Q (.bool b) s' :=
      fun i s' ⟨H', os, oA, J', lo, p, _⟩ => ⟨H', p, fun b Q q => back J' b Q q⟩
    have out2 : ∀ s' h', tFIN (genCxT X xs X.A.in1.in1 s1 H1 (gEnv X scope h3.objs.size code) fp) xs Pv σ n s' → (∀ b o, s'.heap.get? b = some o → h'.get? b = some o) → ∃ H', (Pv n H') ∧ ∀ (b : Bool) (Q : VK), Q (.bl b) H' → EP X pins σ Q (.bool b) { s'.setGen s1.gens.size .finished with heap := h' } :=
      fun s' h' ⟨H', os, J', lo, p⟩ k => ⟨H', p, fun b Q q => back (Inv.kept (t' := s'.toks) (Inv.setGen (g := s1.gens.size) (y := .finished) J' rfl) k) b Q q⟩
    refine hQ h4.objs.size s1.gens.size _ _ _ (side.gen 0 _ st0) side ⟨st0, gs, Array.getElem?_push_size .., fun s'' hal => ?_⟩ out1 out2
    rw [← hgs]
    exact ⟨rfl, by rw [Nat.sub_zero]; exact seg_startT (iter := iter) (scope := scope) (pos := gpos) L.co GG s'' s'' hal⟩
  refine ⟨I1.nolimit, ?_⟩
  cases hf : codeAmong gpos ps.toList with
  | none =>
    refine wpAny_genexprCodeX hcode (cd.code hPs ht) (cd.tab hPs) hf fun c' h' tk hx hge hlt hco' _ htab' _ => ?_
    obtain ⟨o1, vs, f1, tf, fl, tg, inF, tx, tt, op, _, _, _, _, _, _, _, _, _, htr, _⟩ := hco'
    exact cont _ h' tk _ hx (Nat.le_trans hge (Nat.le_of_lt hlt)) htab'.2 ⟨_, rfl⟩ htr
  | some cv =>
    refine wpAny_genexprCode_hit hcode (cd.code hPs ht) hf ?_
    exact cont cv s1.heap s1.toks ps (Heap.ExtBut.refl _ _) (Nat.le_refl _) hPs ⟨#[], by simp⟩ ht
/-- all(elt for tg in iter), any(..) over any iterator -/
def tAllI (P : Addr) (m : Nat) (stop : Bool) (wi : TI) (tgw : TG) (tel : TE) : TE := fun σ H Q => wi σ H fun J H1 => ∃ (n : Nat) (bs : Nat → Bool) (Pv : Nat → Hp → Prop), TabG H1 P ∧
  (∀ i H, i < n → Pv i H → J.go i H) ∧ (∀ H, Pv n H → J.stop n H) ∧ (∀ H2, Same H1 H2 → TabG H2 P → Pv 0 H2) ∧
  (∀ (i : Nat) (v : V) (H H' : Hp) (os : L2.St), i < n → Pv i H → J.yld i H v H' → os.length = m → tgw v (os ++ σ) H' fun σ2 H2 => (∃ os2 : L2.St, os2.length = m ∧ σ2 = os2 ++ σ) ∧ tel σ2 H2 fun y H3 => y = .bl (bs i) ∧ Pv (i + 1) H3) ∧
  (∀ i H2, i < n → bs i = stop → Pv (i + 1) H2 → Q (.bl stop) H2) ∧ (∀ H2, (∀ i, i < n → bs i = !stop) → Pv n H2 → Q (.bl (!stop)) H2)
theorem pe_allI {c P : Addr} {elt tg iter : Expr} {xs : List Str} {p pos gpos : Pos} {scope : Scope} {wi : TI} {tel : TE} {tgw : TG} {k : Nat}
    (hr : RG (k + 2) X.A) (hg : Gl X "all") (hm : X.mg "all" = none) (TB : TabB X.base X.mg c P) (hcode : X.env.code = .ref c) (L : GenKL X.env.scope scope xs) (hx : ∀ x ∈ xs, x ∉ X.N) (hdot : (".0" : Str) ∉ X.N) (hi : PI X tg iter wi)
    (htg : ∀ (s1 : Shared) (H1 : Hp) (C : Addr) (code : Value) (fp : List Addr), PG (genCxT X xs X.A.in1.in1 s1 H1 (gEnv X scope C code) fp) tg tgw)
    (helt : ∀ (s1 : Shared) (H1 : Hp) (C : Addr) (code : Value) (fp : List Addr), RG k (X.A.in1.in1.deeper (gEnv X scope C code)) → PE (genCxT X xs X.A.in1.in1 s1 H1 (gEnv X scope C code) fp) elt tel)
    (hs : ∀ v, genFold iter X.env v = pure v := by intro _; rfl)
    (he : starEach [.GeneratorExp elt [⟨tg, iter, [], 0⟩] scope gpos] X.env = (false, eval (.GeneratorExp elt [⟨tg, iter, [], 0⟩] scope gpos) X.env) :: starEach [] X.env := by rfl) :
    PE X (.Call (.Name "all" p) [.GeneratorExp elt [⟨tg, iter, [], 0⟩] scope gpos] [] pos) (tAllI P xs.length false wi tgw tel) := by
  refine ⟨fun pins s σ H Q I h => ?_⟩
  refine wpAny_Call_Name_kw (ld_blt I hg hm PyProof.Rows.boot_all ?_)
  refine PyProof.Rows.callWith_builtin1 ?_ he (by rfl)
  rw [he]
  show wpAny _ _ (spliced ((false, eval (.GeneratorExp elt [⟨tg, iter, [], 0⟩] scope gpos) X.env) :: backTo pos (starEach [] X.env))) _ _ s
  refine Calls.spliced_cons ?_
  refine wpAny_GeneratorExp_make L.co (closure_ok (L.has I.ok)) L.nocell L.dot L.kind (by have := hr.room.dp; omega) ?_ hs
  refine thn (hi.run pins s σ H _ I h) fun xv s0 h0 => ?_
  refine wpAny_mono h0 (fun itv s1 h1 => ?_) fun _ _ z => z
  obtain ⟨it, fp, tn, J, H1, rfl, I1, hTn, ht0, hfp, n, bs, Pv, hT, hgo, hstop, hp0, hstep, q2, q3⟩ := h1
  refine gen_coreT (gpos := gpos) (tg := tg) (iter := iter) (xs := xs) (elt := elt) (scope := scope) (Q' := fun v s' => wpAny (model X.prog X.w) X.A (spliced (backTo pos (starEach [] X.env))) (fun vs s2 => wpAny (model X.prog X.w) X.A (call (.builtin "all") (v :: vs)) (EP X pins σ Q) X.xe s2) X.xe s') hr TB hcode L hx hdot htg helt I1 hTn ht0 hfp hT hgo hstop hp0 hstep fun a g s5 ST FIN hgen side at_ out1 out2 => ?_
  refine Calls.spliced_nil ?_
  refine call_function_tree PySem.F.kind_all PySem.F.plain_all PySem.F.entry_all (PySem.F.args_all1 _) ?_
  unfold Builtin.«all»
  refine wpAny_bind (m := oneArg "all" _) (wpAny_pure ?_)
  refine wpAny_bind (wpAny_pyIter_gen hgen ?_)
  refine wpAny_pure ⟨plainId_quiet PySem.F.plain_all_loop _, all_loopN (A := X.A) hr.room.hd (by have := hr.room.dp; omega) side _ 0 s5 rfl (Nat.zero_le _) at_ (fun j hj => absurd hj (Nat.not_lt_zero _)) (fun i s' hi hb st => ?_) fun s' h' all hf hk => ?_⟩
  · obtain ⟨H', p, e⟩ := out1 (i + 1) s' st
    exact e false Q (q2 i H' hi hb p)
  · obtain ⟨H', p, e⟩ := out2 s' h' hf hk
    exact e true Q (q3 H' all p)
theorem pe_anyI {c P : Addr} {elt tg iter : Expr} {xs : List Str} {p pos gpos : Pos} {scope : Scope} {wi : TI} {tel : TE} {tgw : TG} {k : Nat}
    (hr : RG (k + 2) X.A) (hg : Gl X "any") (hm : X.mg "any" = none) (TB : TabB X.base X.mg c P) (hcode : X.env.code = .ref c) (L : GenKL X.env.scope scope xs) (hx : ∀ x ∈ xs, x ∉ X.N) (hdot : (".0" : Str) ∉ X.N) (hi : PI X tg iter wi)
    (htg : ∀ (s1 : Shared) (H1 : Hp) (C : Addr) (code : Value) (fp : List Addr), PG (genCxT X xs X.A.in1.in1 s1 H1 (gEnv X scope C code) fp) tg tgw)
    (helt : ∀ (s1 : Shared) (H1 : Hp) (C : Addr) (code : Value) (fp : List Addr), RG k (X.A.in1.in1.deeper (gEnv X scope C code)) → PE (genCxT X xs X.A.in1.in1 s1 H1 (gEnv X scope C code) fp) elt tel)
    (hs : ∀ v, genFold iter X.env v = pure v := by intro _; rfl)
    (he : starEach [.GeneratorExp elt [⟨tg, iter, [], 0⟩] scope gpos] X.env = (false, eval (.GeneratorExp elt [⟨tg, iter, [], 0⟩] scope gpos) X.env) :: starEach [] X.env := by rfl) :
    PE X (.Call (.Name "any" p) [.GeneratorExp elt [⟨tg, iter, [], 0⟩] scope gpos] [] pos) (tAllI P xs.length true wi tgw tel) := by
  refine ⟨fun pins s σ H Q I h => ?_⟩
  refine wpAny_Call_Name_kw (ld_blt I hg hm PyProof.Rows.boot_any ?_)
  refine PyProof.Rows.callWith_builtin1 ?_ he (by rfl)
  rw [he]
  show wpAny _ _ (spliced ((false, eval (.GeneratorExp elt [⟨tg, iter, [], 0⟩] scope gpos) X.env) :: backTo pos (starEach [] X.env))) _ _ s
  refine Calls.spliced_cons ?_
  refine wpAny_GeneratorExp_make L.co (closure_ok (L.has I.ok)) L.nocell L.dot L.kind (by have := hr.room.dp; omega) ?_ hs
  refine thn (hi.run pins s σ H _ I h) fun xv s0 h0 => ?_
  refine wpAny_mono h0 (fun itv s1 h1 => ?_) fun _ _ z => z
  obtain ⟨it, fp, tn, J, H1, rfl, I1, hTn, ht0, hfp, n, bs, Pv, hT, hgo, hstop, hp0, hstep, q2, q3⟩ := h1
  refine gen_coreT (gpos := gpos) (tg := tg) (iter := iter) (xs := xs) (elt := elt) (scope := scope) (Q' := fun v s' => wpAny (model X.prog X.w) X.A (spliced (backTo pos (starEach [] X.env))) (fun vs s2 => wpAny (model X.prog X.w) X.A (call (.builtin "any") (v :: vs)) (EP X pins σ Q) X.xe s2) X.xe s') hr TB hcode L hx hdot htg helt I1 hTn ht0 hfp hT hgo hstop hp0 hstep fun a g s5 ST FIN hgen side at_ out1 out2 => ?_
  refine Calls.spliced_nil ?_
  refine call_function_tree PySem.F.kind_any PySem.F.plain_any PySem.F.entry_any (PySem.F.args_any1 _) ?_
  unfold Builtin.«any»
  refine wpAny_bind (m := oneArg "any" _) (wpAny_pure ?_)
  refine wpAny_bind (wpAny_pyIter_gen hgen ?_)
  refine wpAny_pure ⟨plainId_quiet PySem.F.plain_any_loop _, any_loopN (A := X.A) hr.room.hd (by have := hr.room.dp; omega) side _ 0 s5 rfl (Nat.zero_le _) at_ (fun j hj => absurd hj (Nat.not_lt_zero _)) (fun i s' hi hb st => ?_) fun s' h' all hf hk => ?_⟩
  · obtain ⟨H', p, e⟩ := out1 (i + 1) s' st
    exact e true Q (q2 i H' hi hb p)
  · obtain ⟨H', p, e⟩ := out2 s' h' hf hk
    exact e false Q (q3 H' all p)
end
end Cl

set_option maxHeartbeats 0
namespace Cl
open PySem PySem.Spec PyProof.Rows L2
def topS (i : Nat) : Stmt := PySem.Challenge.pw_cornerlines_k14_papers_that_nothing_want.main.body.getD i (.Pass ⟨0, 0, 0, 0⟩)

abbrev sis_whole : Stmt := topS 1
theorem scis_whole : FnScope ["thing"] ["thing"] (defScope sis_whole) := ⟨rfl, rfl, rfl, by decide +kernel, rfl, by decide +kernel, by decide +kernel⟩
abbrev sare_wholes : Stmt := topS 2
theorem scare_wholes : FnScope ["thing", "many", "part"] ["thing", "many"] (defScope sare_wholes) := ⟨rfl, rfl, rfl, by decide +kernel, rfl, by decide +kernel, by decide +kernel⟩
abbrev sgreatest_parting : Stmt := topS 3
theorem scgreatest_parting : FnScope ["n", "m"] ["n", "m"] (defScope sgreatest_parting) := ⟨rfl, rfl, rfl, by decide +kernel, rfl, by decide +kernel, by decide +kernel⟩
abbrev slowest : Stmt := topS 4
theorem sclowest : FnScope ["n", "d", "part"] ["n", "d"] (defScope slowest) := ⟨rfl, rfl, rfl, by decide +kernel, rfl, by decide +kernel, by decide +kernel⟩
abbrev snearest : Stmt := topS 5
theorem scnearest : FnScope ["n", "d"] ["n", "d"] (defScope snearest) := ⟨rfl, rfl, rfl, by decide +kernel, rfl, by decide +kernel, by decide +kernel⟩
abbrev sis_paper : Stmt := topS 7
theorem scis_paper : FnScope ["thing", "word", "many"] ["thing", "word", "many"] (defScope sis_paper) := ⟨rfl, rfl, rfl, by decide +kernel, rfl, by decide +kernel, by decide +kernel⟩
abbrev sspot_of : Stmt := topS 9
theorem scspot_of : FnScope ["n", "m", "d", "part"] ["n", "m", "d"] (defScope sspot_of) := ⟨rfl, rfl, rfl, by decide +kernel, rfl, by decide +kernel, by decide +kernel⟩
abbrev scorner_at : Stmt := topS 10
theorem sccorner_at : FnScope ["grain", "spot", "n", "m", "d"] ["grain", "spot"] (defScope scorner_at) := ⟨rfl, rfl, rfl, by decide +kernel, rfl, by decide +kernel, by decide +kernel⟩
abbrev sstep_of : Stmt := topS 12
theorem scstep_of : FnScope ["line", "x", "y", "far_x", "far_y"] ["line"] (defScope sstep_of) := ⟨rfl, rfl, rfl, by decide +kernel, rfl, by decide +kernel, by decide +kernel⟩
abbrev sturn_of : Stmt := topS 13
theorem scturn_of : FnScope ["one", "other"] ["one", "other"] (defScope sturn_of) := ⟨rfl, rfl, rfl, by decide +kernel, rfl, by decide +kernel, by decide +kernel⟩
abbrev sside_of : Stmt := topS 14
theorem scside_of : FnScope ["line", "point"] ["line", "point"] (defScope sside_of) := ⟨rfl, rfl, rfl, by decide +kernel, rfl, by decide +kernel, by decide +kernel⟩
abbrev sways_across : Stmt := topS 15
theorem scways_across : FnScope ["line", "dx", "dy"] ["line"] (defScope sways_across) := ⟨rfl, rfl, rfl, by decide +kernel, rfl, by decide +kernel, by decide +kernel⟩
abbrev sgreatest_by : Stmt := topS 16
theorem scgreatest_by : FnScope ["line", "p", "q", "x", "y"] ["line", "p", "q"] (defScope sgreatest_by) := ⟨rfl, rfl, rfl, by decide +kernel, rfl, by decide +kernel, by decide +kernel⟩
abbrev sleast_by : Stmt := topS 17
theorem scleast_by : FnScope ["line", "p", "q", "x", "y"] ["line", "p", "q"] (defScope sleast_by) := ⟨rfl, rfl, rfl, by decide +kernel, rfl, by decide +kernel, by decide +kernel⟩
abbrev sis_share : Stmt := topS 19
theorem scis_share : FnScope ["k", "m"] ["k", "m"] (defScope sis_share) := ⟨rfl, rfl, rfl, by decide +kernel, rfl, by decide +kernel, by decide +kernel⟩
abbrev sspot_at : Stmt := topS 20
theorem scspot_at : FnScope ["line", "k", "m", "x", "y", "dx", "dy"] ["line", "k", "m"] (defScope sspot_at) := ⟨rfl, rfl, rfl, by decide +kernel, rfl, by decide +kernel, by decide +kernel⟩
abbrev sshare_of : Stmt := topS 21
theorem scshare_of : FnScope ["line", "spot", "x", "y", "dx", "dy", "n", "m", "d"] ["line", "spot"] (defScope sshare_of) := ⟨rfl, rfl, rfl, by decide +kernel, rfl, by decide +kernel, by decide +kernel⟩
abbrev sapart_holds : Stmt := topS 23
theorem scapart_holds : FnScope ["one", "other", "thing", "p", "q", "r", "below", "x", "y"] ["one", "other", "thing"] (defScope sapart_holds) := ⟨rfl, rfl, rfl, by decide +kernel, rfl, by decide +kernel, by decide +kernel⟩
abbrev smeets_at : Stmt := topS 24
theorem scmeets_at : FnScope ["one", "other", "thing", "k", "m", "l", "n", "spot"] ["one", "other", "thing"] (defScope smeets_at) := ⟨rfl, rfl, rfl, by decide +kernel, rfl, by decide +kernel, by decide +kernel⟩
abbrev scommon : Stmt := topS 26
theorem sccommon : FnScope ["one", "other"] ["one", "other"] (defScope scommon) := ⟨rfl, rfl, rfl, by decide +kernel, rfl, by decide +kernel, by decide +kernel⟩
abbrev scommon_paper : Stmt := topS 27
theorem sccommon_paper : FnScope ["one", "other", "spots", "k", "m", "l", "n"] ["one", "other"] (defScope scommon_paper) := ⟨rfl, rfl, rfl, by decide +kernel, rfl, by decide +kernel, by decide +kernel⟩
abbrev scommon_across : Stmt := topS 28
theorem sccommon_across : FnScope ["one", "other", "way", "across", "between", "m", "k", "l"] ["one", "other"] (defScope scommon_across) := ⟨rfl, rfl, rfl, by decide +kernel, rfl, by decide +kernel, by decide +kernel⟩
abbrev scommon_along : Stmt := topS 29
theorem sccommon_along : FnScope ["one", "other", "low", "high", "ends", "x", "y"] ["one", "other"] (defScope scommon_along) := ⟨rfl, rfl, rfl, by decide +kernel, rfl, by decide +kernel, by decide +kernel⟩
abbrev sapart_paper : Stmt := topS 30
theorem scapart_paper : FnScope ["one", "other", "dx", "dy", "ways", "p", "q"] ["one", "other"] (defScope sapart_paper) := ⟨rfl, rfl, rfl, by decide +kernel, rfl, by decide +kernel, by decide +kernel⟩
abbrev sgap_by : Stmt := topS 31
theorem scgap_by : FnScope ["way", "one", "other", "p", "q"] ["way", "one", "other"] (defScope sgap_by) := ⟨rfl, rfl, rfl, by decide +kernel, rfl, by decide +kernel, by decide +kernel⟩
abbrev scorner_of : Stmt := topS 33
theorem sccorner_of : FnScope ["grain", "point", "x", "y"] ["grain", "point"] (defScope scorner_of) := ⟨rfl, rfl, rfl, by decide +kernel, rfl, by decide +kernel, by decide +kernel⟩
abbrev swants_of : Stmt := topS 35
theorem scwants_of : FnScope ["grain", "lines", "found", "corner", "want"] ["grain", "lines"] (defScope swants_of) := ⟨rfl, rfl, rfl, by decide +kernel, rfl, by decide +kernel, by decide +kernel⟩
abbrev scorners_of : Stmt := topS 36
theorem sccorners_of : FnScope ["grain", "lines", "corner", "wants"] ["grain", "lines"] (defScope scorners_of) := ⟨rfl, rfl, rfl, by decide +kernel, rfl, by decide +kernel, by decide +kernel⟩
abbrev send_wants : Stmt := topS 37
theorem scend_wants : FnScope ["grain", "lines", "rows", "k", "line", "e", "point"] ["grain", "lines"] (defScope send_wants) := ⟨rfl, rfl, rfl, by decide +kernel, rfl, by decide +kernel, by decide +kernel⟩
abbrev scross_wants : Stmt := topS 38
theorem sccross_wants : FnScope ["grain", "lines", "rows", "k", "l", "spots"] ["grain", "lines"] (defScope scross_wants) := ⟨rfl, rfl, rfl, by decide +kernel, rfl, by decide +kernel, by decide +kernel⟩
abbrev spairs_below : Stmt := topS 39
theorem scpairs_below : FnScope ["many", "k", "l"] ["many"] (defScope spairs_below) := ⟨rfl, rfl, rfl, by decide +kernel, rfl, by decide +kernel, by decide +kernel⟩
abbrev sunwanted_paper : Stmt := topS 41
theorem scunwanted_paper : FnScope ["grain", "lines", "corner", "k", "l"] ["grain", "lines", "corner"] (defScope sunwanted_paper) := ⟨rfl, rfl, rfl, by decide +kernel, rfl, by decide +kernel, by decide +kernel⟩
abbrev sunwanted_holds : Stmt := topS 42
theorem scunwanted_holds : FnScope ["grain", "lines", "corner", "thing", "pairs"] ["grain", "lines", "corner", "thing"] (defScope sunwanted_holds) := ⟨rfl, rfl, rfl, by decide +kernel, rfl, by decide +kernel, by decide +kernel⟩
abbrev spair_paper : Stmt := topS 43
theorem scpair_paper : FnScope ["one", "other"] ["one", "other"] (defScope spair_paper) := ⟨rfl, rfl, rfl, by decide +kernel, rfl, by decide +kernel, by decide +kernel⟩
abbrev spair_holds : Stmt := topS 44
theorem scpair_holds : FnScope ["grain", "one", "other", "corner", "thing", "spot"] ["grain", "one", "other", "corner", "thing"] (defScope spair_holds) := ⟨rfl, rfl, rfl, by decide +kernel, rfl, by decide +kernel, by decide +kernel⟩
abbrev sare_along : Stmt := topS 45
theorem scare_along : FnScope ["one", "other"] ["one", "other"] (defScope sare_along) := ⟨rfl, rfl, rfl, by decide +kernel, rfl, by decide +kernel, by decide +kernel⟩
abbrev sends_in : Stmt := topS 46
theorem scends_in : FnScope ["grain", "line", "corner"] ["grain", "line", "corner"] (defScope sends_in) := ⟨rfl, rfl, rfl, by decide +kernel, rfl, by decide +kernel, by decide +kernel⟩
abbrev s_law_deck : Stmt := topS 48
theorem sc_law_deck : FnScope ["_law_script", "_law_cells", "_law_cell"] ["_law_script"] (defScope s_law_deck) := ⟨rfl, rfl, rfl, by decide +kernel, rfl, by decide +kernel, by decide +kernel⟩
abbrev s_law_draw : Stmt := topS 49
theorem sc_law_draw : FnScope ["_law_deck_here", "_law_most", "_law_cell", "_law_number"] ["_law_deck_here", "_law_most"] (defScope s_law_draw) := ⟨rfl, rfl, rfl, by decide +kernel, rfl, by decide +kernel, by decide +kernel⟩
abbrev s_law_point : Stmt := topS 50
theorem sc_law_point : FnScope ["_law_deck_here", "_law_grain_here", "_law_way", "_law_x", "_law_y"] ["_law_deck_here", "_law_grain_here"] (defScope s_law_point) := ⟨rfl, rfl, rfl, by decide +kernel, rfl, by decide +kernel, by decide +kernel⟩
abbrev s_law_unlike : Stmt := topS 51
theorem sc_law_unlike : FnScope ["_law_one", "_law_other"] ["_law_one", "_law_other"] (defScope s_law_unlike) := ⟨rfl, rfl, rfl, by decide +kernel, rfl, by decide +kernel, by decide +kernel⟩
abbrev s_law_beside : Stmt := topS 52
theorem sc_law_beside : FnScope ["_law_deck_here", "_law_line_here", "_law_one", "_law_other", "_law_way", "_law_at", "_law_more", "_law_x", "_law_y", "_law_u", "_law_v", "_law_k"] ["_law_deck_here", "_law_line_here", "_law_one", "_law_other"] (defScope s_law_beside) := ⟨rfl, rfl, rfl, by decide +kernel, rfl, by decide +kernel, by decide +kernel⟩
abbrev s_law_line : Stmt := topS 53
theorem sc_law_line : FnScope ["_law_deck_here", "_law_grain_here", "_law_lines_here", "_law_way", "_law_one", "_law_other", "_law_line_here", "_law_number"] ["_law_deck_here", "_law_grain_here", "_law_lines_here"] (defScope s_law_line) := ⟨rfl, rfl, rfl, by decide +kernel, rfl, by decide +kernel, by decide +kernel⟩
abbrev s_law_lines : Stmt := topS 54
theorem sc_law_lines : FnScope ["_law_deck_here", "_law_grain_here", "_law_many_here", "_law_away", "_law_moves", "_law_k", "_law_near", "_law_far", "_law_lines_here", "_law_dx", "_law_dy", "_law_x", "_law_y", "_law_u", "_law_v"] ["_law_deck_here", "_law_grain_here", "_law_many_here"] (defScope s_law_lines) := ⟨rfl, rfl, rfl, by decide +kernel, rfl, by decide +kernel, by decide +kernel⟩
abbrev s_law_turn : Stmt := topS 55
theorem sc_law_turn : FnScope ["_law_one", "_law_other"] ["_law_one", "_law_other"] (defScope s_law_turn) := ⟨rfl, rfl, rfl, by decide +kernel, rfl, by decide +kernel, by decide +kernel⟩
abbrev s_law_less : Stmt := topS 56
theorem sc_law_less : FnScope ["_law_one", "_law_other"] ["_law_one", "_law_other"] (defScope s_law_less) := ⟨rfl, rfl, rfl, by decide +kernel, rfl, by decide +kernel, by decide +kernel⟩
abbrev s_law_parted : Stmt := topS 57
theorem sc_law_parted : FnScope ["_law_one", "_law_other"] ["_law_one", "_law_other"] (defScope s_law_parted) := ⟨rfl, rfl, rfl, by decide +kernel, rfl, by decide +kernel, by decide +kernel⟩
abbrev s_law_lowest : Stmt := topS 58
theorem sc_law_lowest : FnScope ["_law_n", "_law_m", "_law_d", "_law_by"] ["_law_n", "_law_m", "_law_d"] (defScope s_law_lowest) := ⟨rfl, rfl, rfl, by decide +kernel, rfl, by decide +kernel, by decide +kernel⟩
abbrev s_law_due_along : Stmt := topS 59
theorem sc_law_due_along : FnScope ["_law_one", "_law_other", "_law_some", "_law_p"] ["_law_one", "_law_other"] (defScope s_law_due_along) := ⟨rfl, rfl, rfl, by decide +kernel, rfl, by decide +kernel, by decide +kernel⟩
abbrev s_law_due : Stmt := topS 60
theorem sc_law_due : FnScope ["_law_one", "_law_other", "_law_a", "_law_b", "_law_c", "_law_e", "_law_way", "_law_there", "_law_far", "_law_whole", "_law_sign", "_law_here"] ["_law_one", "_law_other"] (defScope s_law_due) := ⟨rfl, rfl, rfl, by decide +kernel, rfl, by decide +kernel, by decide +kernel⟩
abbrev s_law_nearest : Stmt := topS 61
theorem sc_law_nearest : FnScope ["_law_grain_here", "_law_spot", "_law_n", "_law_m", "_law_d"] ["_law_grain_here", "_law_spot"] (defScope s_law_nearest) := ⟨rfl, rfl, rfl, by decide +kernel, rfl, by decide +kernel, by decide +kernel⟩
abbrev s_law_wants : Stmt := topS 62
theorem sc_law_wants : FnScope ["_law_grain_here", "_law_lines_here", "_law_found", "_law_k", "_law_line_here", "_law_e", "_law_l", "_law_some", "_law_corner"] ["_law_grain_here", "_law_lines_here"] (defScope s_law_wants) := ⟨rfl, rfl, rfl, by decide +kernel, rfl, by decide +kernel, by decide +kernel⟩
abbrev s_law_grain : Stmt := topS 63
theorem sc_law_grain : FnScope ["_law_deck_here"] ["_law_deck_here"] (defScope s_law_grain) := ⟨rfl, rfl, rfl, by decide +kernel, rfl, by decide +kernel, by decide +kernel⟩
abbrev s_law_many : Stmt := topS 64
theorem sc_law_many : FnScope ["_law_deck_here", "_law_most"] ["_law_deck_here", "_law_most"] (defScope s_law_many) := ⟨rfl, rfl, rfl, by decide +kernel, rfl, by decide +kernel, by decide +kernel⟩
abbrev s_law_is_whole : Stmt := topS 65
theorem sc_law_is_whole : FnScope ["_law_thing"] ["_law_thing"] (defScope s_law_is_whole) := ⟨rfl, rfl, rfl, by decide +kernel, rfl, by decide +kernel, by decide +kernel⟩
abbrev s_law_number_at : Stmt := topS 66
theorem sc_law_number_at : FnScope ["_law_line_here", "_law_k", "_law_m", "_law_at"] ["_law_line_here", "_law_k", "_law_m", "_law_at"] (defScope s_law_number_at) := ⟨rfl, rfl, rfl, by decide +kernel, rfl, by decide +kernel, by decide +kernel⟩
abbrev s_law_is_paper : Stmt := topS 67
theorem sc_law_is_paper : FnScope ["_law_one", "_law_other", "_law_thing", "_law_part", "_law_here", "_law_x", "_law_y", "_law_there", "_law_k", "_law_m", "_law_l", "_law_n", "_law_at"] ["_law_one", "_law_other", "_law_thing"] (defScope s_law_is_paper) := ⟨rfl, rfl, rfl, by decide +kernel, rfl, by decide +kernel, by decide +kernel⟩
abbrev s_law_is_along : Stmt := topS 68
theorem sc_law_is_along : FnScope ["_law_one", "_law_other", "_law_way", "_law_point_here"] ["_law_one", "_law_other"] (defScope s_law_is_along) := ⟨rfl, rfl, rfl, by decide +kernel, rfl, by decide +kernel, by decide +kernel⟩
abbrev s_law_pair_so : Stmt := topS 69
theorem sc_law_pair_so : FnScope ["_law_grain_here", "_law_one", "_law_other", "_law_corner", "_law_thing", "_law_k", "_law_m"] ["_law_grain_here", "_law_one", "_law_other", "_law_corner", "_law_thing"] (defScope s_law_pair_so) := ⟨rfl, rfl, rfl, by decide +kernel, rfl, by decide +kernel, by decide +kernel⟩
abbrev s_law_is_unwanted : Stmt := topS 70
theorem sc_law_is_unwanted : FnScope ["_law_grain_here", "_law_lines_here", "_law_corner", "_law_thing", "_law_pairs", "_law_k", "_law_other", "_law_line_here", "_law_point_here", "_law_found", "_law_pair", "_law_part"] ["_law_grain_here", "_law_lines_here", "_law_corner", "_law_thing"] (defScope s_law_is_unwanted) := ⟨rfl, rfl, rfl, by decide +kernel, rfl, by decide +kernel, by decide +kernel⟩
abbrev s_law_corners_asked : Stmt := topS 71
theorem sc_law_corners_asked : FnScope ["_law_deck_here", "_law_grain_here", "_law_lines_here", "_law_some", "_law_corner", "_law_wants_here", "_law_found", "_law_k", "_law_i", "_law_j"] ["_law_deck_here", "_law_grain_here", "_law_lines_here"] (defScope s_law_corners_asked) := ⟨rfl, rfl, rfl, by decide +kernel, rfl, by decide +kernel, by decide +kernel⟩
abbrev s_law_told_right : Stmt := topS 72
theorem sc_law_told_right : FnScope ["_law_grain_here", "_law_lines_here", "_law_corner", "_law_wanted", "_law_found"] ["_law_grain_here", "_law_lines_here", "_law_corner", "_law_wanted"] (defScope s_law_told_right) := ⟨rfl, rfl, rfl, by decide +kernel, rfl, by decide +kernel, by decide +kernel⟩
abbrev slaw : Stmt := topS 73
theorem sclaw : FnScope ["_law_script", "_law_deck_here", "_law_many_here", "_law_grain_here", "_law_lines_here", "_law_corners", "_law_some", "_law_corner", "_law_wants_here", "_law_papers", "_law_paper", "_law_held"] ["_law_script"] (defScope slaw) := ⟨rfl, rfl, rfl, by decide +kernel, rfl, by decide +kernel, by decide +kernel⟩
structure Bt (mg : Str → Option Value) : Prop where
  list : mg "list" = none
  sum : mg "sum" = none
  len : mg "len" = none
  range : mg "range" = none
  abs : mg "abs" = none
  max : mg "max" = none
  min : mg "min" = none
  tuple : mg "tuple" = none
  int : mg "int" = none
  sorted : mg "sorted" = none
  set : mg "set" = none
  repr : mg "repr" = none
  enumerate : mg "enumerate" = none
  isinstance : mg "isinstance" = none
  all : mg "all" = none
  any : mg "any" = none
  zip : mg "zip" = none
  bool : mg "bool" = none
  str : mg "str" = none
theorem cut63 {ns : List Int} (h : ns.length ≤ 63) : cutV (ns.map V.int) none (some 63) = ns.map V.int := by
  unfold cutV
  rw [HT.sIx_none, show HT.sIx (ns.map V.int).length (ns.map V.int).length (some 63) = min 63 (ns.map V.int).length from HT.sIx_nat _ _ 63, List.length_map]
  rw [List.drop_zero, List.take_of_length_le (by rw [List.length_map]; omega)]
section
variable {P : Program} {w : World} {K : PySem.W.Frag} {mg : Str → Option Value} {base : Heap}
theorem ok_law_deck {f : Addr} {fd : FuncData} (F : Fun K "_law_deck" "_law_deck" s_law_deck f fd) (T : Bt mg) :
    FnG P w K mg base CX0 1 f fd ["_law_script"] (spDeck K) := by
  refine okG (k := 0) F sc_law_deck (fun vs H Q E h => ?_) (fun cdv A outer s H vs Q E hr h => ?_)
  · obtain ⟨a, ns, rfl, _⟩ := h
    rfl
  · obtain ⟨a, ns, rfl, hS, hlen, q⟩ := h
    refine ⟨_, (pss_cons (ps_set (i := 1) sc_law_deck.nd rfl (.inl rfl) (pe_callTy call_list_ofN (by rfl) T.list (by decide +kernel) (pa_cons (pe_slice sl_listN (pv 0) po_none (po_some pe_int)) pa_nil)))
      (pss_one (ps_ret (lstN (pa_cons (pe_revL (pv 1)) (pa_cons (pe_op op_add (pe_callB (cr_sum rfl) (by rfl) T.sum (by decide +kernel) (pa_cons (pe_lc (own := [("_law_cell", 2)]) (g := gName 2) (tt := tYes) (by rfl) sc_law_deck.nd (pi_list (pv 1)) (blkOk_by (own := [("_law_cell", 2)]) (N := ["_law_script", "_law_cells", "_law_cell"]) (sc := defScope s_law_deck) (by decide +kernel)) (fun _ _ _ _ _ => (pg_name (i := 2) sc_law_deck.nd rfl (.inl rfl))) (fun _ _ _ _ _ => pts_nil) (fun _ _ _ _ _ => (pe_op op_mod (pv 2) pe_int))) pa_nil)) (pe_op op_mul pe_int (pe_callB call_len_seq (by rfl) T.len (by decide +kernel) (pa_cons (pv 1) pa_nil)))) (pa_cons pe_int pa_nil))))))), ?_⟩
    -- cells = list(script[:63])
    refine ⟨.ref a, rfl, 63, rfl, a, _, rfl, hS, fun p1 H1 n1 s1 g1 => ⟨p1, _, rfl, .inl (.inl (.inl g1)), fun p2 H2 n2 s2 g2 => ?_⟩⟩
    have t2 : Same H H2 := s1.trans s2
    rw [cut63 hlen] at g2
    refine ⟨.ref p2, rfl, p2, _, rfl, .inl (.inl g2), fun l H3 n3 s3 g3 => ?_⟩
    have t3 : Same H H3 := t2.trans s3
    rw [← List.map_reverse] at g3
    have h2 := s3 _ _ g2
    refine ⟨_, rfl, p2, rfl, ⟨_, .inl (.inl h2)⟩, fun p5 n5 => ?_⟩
    refine lcL (K := K) (a := p2) (xs := ns.map V.int) (fun i H' => Same H3 H' ∧ H' p5 = some (.lst ((ns.take i).map fun z => V.int (z % 1000003)))) n5 (fun H' e1 e2 => ⟨e1, e2⟩) (fun i H' _ z => .inl (.inl (z.1 _ _ h2))) (fun i x H' hx z => ?_) (fun H5 z => ?_)
    · obtain ⟨e1, e2⟩ := z
      rw [List.getElem?_map] at hx
      cases hn : ns[i]? with
      | none => rw [hn] at hx; cases hx
      | some y =>
        rw [hn] at hx
        cases hx
        refine ⟨rfl, _, rfl, _, _, rfl, rfl, (by show (0 : Int) < 1000003; decide), _, e2, ?_, ?_, ?_⟩
        · rw [List.length_map, List.length_take]
          exact small1000 (by omega)
        · intro b o e
          rw [upd_ne (ne_of_none e n5)]
          exact e1 _ _ e
        · rw [upd_same, List.take_add_one, hn, List.map_append]
          rfl
    · obtain ⟨e1, e2⟩ := z
      have l1 : (ns.map V.int).length = ns.length := List.length_map _
      rw [l1, List.take_length] at e2
      refine ⟨p5, ns.map fun z => z % 1000003, rfl, .inl (.inl ?_), _, rfl, p2, _, rfl, .inl (.inl (.inl (e1 _ _ h2))), _, _, rfl, rfl, .inl (by decide), _, _, rfl, rfl, (by show 3 ≤ sizeLine; decide), fun d H7 n7 s7 g7 => ?_⟩
      · rw [e2, List.map_map]
        rfl
      have hl : H7 l = some (.lst (ns.reverse.map V.int)) := s7 _ _ (e1 _ _ g3)
      exact q d l H7 ((t3.trans e1).trans s7) ⟨ne_of g7 hl (by intro z; cases hns : ns.reverse with
        | nil => rw [hns] at z; cases z
        | cons y r => rw [hns] at z; cases z), _, _, _, g7, hl, by rw [List.length_reverse]; exact hlen⟩

theorem ok_law_draw {f : Addr} {fd : FuncData} (F : Fun K "_law_draw" "_law_draw" s_law_draw f fd) (T : Bt mg) :
    FnG P w K mg base CX0 1 f fd ["_law_deck_here", "_law_most"] spDraw := by
  refine okG (k := 0) F sc_law_draw (fun vs H Q E h => ?_) (fun cdv A outer s H vs Q E hr h => ?_)
  · obtain ⟨d, l, m, rfl, _⟩ := h
    rfl
  · obtain ⟨d, l, m, rfl, hm, hm2, D, q⟩ := h
    refine ⟨_, (pss_cons (ps_asg (pe_op op_add (pe_ix ix_list (pv 0) pe_int (fun _ _ => rfl)) pe_int) (pg_sub (pv 0) pe_int set_list))
      (pss_cons (ps_set (i := 2) sc_law_draw.nd rfl (.inl rfl) (pe_ix ix_list (pv 0) pe_int (fun _ _ => rfl)))
      (cutS (ps_if (pt_cmpR (op_neD hr.room.units) (pe_ix ix_list (pv 0) pe_int (fun _ _ => rfl)) (lstN pa_nil) (nomark _)) (pss_cons (ps_set (i := 2) sc_law_draw.nd rfl (.inl rfl) (pe_bm0 PySem.F.plainAttrs_list PySem.F.slot_list_pop PySem.F.type_list_pop mt_pop (pe_ix ix_list (pv 0) pe_int (fun _ _ => rfl))))
      (pss_one (ps_if (pt_cmpR op_ge (pv 2) (pe_op op_pow pe_int pe_int) (nomark _)) (pss_cons (ps_expr (pe_bm PySem.F.plainAttrs_list PySem.F.slot_list_append PySem.F.type_list_append mt_append (pe_ix ix_list (pv 0) pe_int (fun _ _ => rfl)) (pa_cons (pe_op op_fdivW (pv 2) (pv 1)) pa_nil)))
      (pss_one (ps_ret (pe_op op_mod (pv 2) (pv 1))))) pss_nil))) pss_nil)
      (pss_cons (ps_set (i := 3) sc_law_draw.nd rfl (.inl rfl) (pe_op op_mod (pe_op op_mul (pe_op op_add (pe_op op_add (pe_op op_mod (pv 2) pe_int) (pe_op op_mul pe_int (pe_ix ix_list (pv 0) pe_int (fun _ _ => rfl)))) pe_int) pe_int) pe_int))
      (pss_cons (ps_set (i := 3) sc_law_draw.nd rfl (.inl rfl) (pe_op op_mod (pe_op op_add (pe_op op_add (pe_op op_mul (pv 3) (pv 3)) (pe_op op_mul pe_int (pe_ix ix_list (pv 0) pe_int (fun _ _ => rfl)))) pe_int) pe_int))
      (pss_one (ps_ret (pe_op op_mod (pe_op op_fdiv (pe_op op_mod (pe_op op_add (pe_op op_mul (pv 3) (pv 3)) (pe_op op_mul pe_int (pv 3))) pe_int) pe_int) (pv 1))))))))), ?_⟩
    obtain ⟨ns, s0, c, h1, h2, h3⟩ := D.ex
    have dl := D.ne
    -- deck[2] = deck[2] + 1
    refine ⟨.ref d, rfl, d, _, 2, .int c, rfl, rfl, .inl (.inl h1), rfl, c, 1, rfl, rfl, .ref d, rfl, d, _, 2, 2, rfl, rfl, h1, rfl, ?_⟩
    generalize hU : upd H d (.lst ([V.ref l, .int s0, .int c].set 2 ((fun i j => V.int (i + j)) c 1))) = H1
    have g1 : H1 d = some (.lst [.ref l, .int s0, .int (c + 1)]) := by rw [← hU]; exact upd_same
    have g2 : H1 l = some (.lst (ns.map V.int)) := by rw [← hU, upd_ne dl.symm]; exact h2
    have g3 : ∀ b o, b ≠ d → b ≠ l → H b = some o → H1 b = some o := fun b o e1 _ e2 => by rw [← hU, upd_ne e1]; exact e2
    clear hU
    have fin : ∀ (ms : List Int) (H2 : Hp), ms.length ≤ 63 → H2 d = some (.lst [.ref l, .int s0, .int (c + 1)]) → H2 l = some (.lst (ms.map V.int)) →
        (∀ b o, b ≠ d → b ≠ l → H b = some o → Keep (H2 b) o) → Step d l H H2 := fun ms H2 e1 e2 e3 e4 => ⟨⟨dl, ms, s0, c + 1, e2, e3, e1⟩, fun b o e => by
          obtain ⟨n1, n2, n3⟩ := hide_at e
          rw [hide_ne n1 n2]
          exact e4 b o n1 n2 n3⟩
    -- cell = deck[1]
    refine ⟨.ref d, rfl, d, _, 1, .int s0, rfl, rfl, .inl (.inl g1), rfl, ?_⟩
    refine ⟨fun σ' H' => ∃ (cell : Int) (y : Option V) (ms : List Int), σ' = [some (.ref d), some (.int m), some (.int cell), y] ∧ ms.length ≤ 63 ∧
      H' d = some (.lst [.ref l, .int s0, .int (c + 1)]) ∧ H' l = some (.lst (ms.map V.int)) ∧ (∀ b o, b ≠ d → b ≠ l → H b = some o → Keep (H' b) o), ?_, ?_⟩
    · -- if deck[0] != []
      refine ⟨.ref d, rfl, d, _, 0, .ref l, rfl, rfl, .inl (.inl g1), rfl, Nat.zero_le _, fun pe HE ne se ge => ?_⟩
      have h1E := se _ _ g1
      have h2E := se _ _ g2
      have h3E : ∀ b o, b ≠ d → b ≠ l → H b = some o → Keep (HE b) o := fun b o e1 e2 e3 => se _ _ (g3 b o e1 e2 e3)
      refine ⟨_, _, .lst (.inl (.inl h2E)) (dpInts ns), .lst (.inl (.inl ge)) .nil, shapedInts ns, rfl, _, rfl, ?_⟩
      show if (!PyData.eqv (.list (ns.map PyData.int)) (.list [])) = true then _ else _
      rw [eqvNil]
      refine ite2 (fun e => ?_) (fun e => ?_)
      · have h0 : ns ≠ [] := fun z => by subst z; exact absurd e (by decide)
        obtain ⟨z, hz⟩ : ∃ z, ns[ns.length - 1]? = some z := by
          have : ns.length - 1 < ns.length := by cases ns with
            | nil => exact absurd rfl h0
            | cons a b => simp
          exact ⟨_, List.getElem?_eq_getElem this⟩
        -- cell = deck[0].pop()
        refine ⟨.ref d, rfl, d, _, 0, .ref l, rfl, rfl, .inl (.inl h1E), rfl, .inl ⟨rfl, _, .inl (.inl h2E)⟩, l, _, .int z, rfl, rfl, h2E, ?_, ?_⟩
        · rw [List.length_map, List.getElem?_map, hz]
          rfl
        have k1 : ns.dropLast.length < 63 := by
          rw [List.length_dropLast]
          have : ns.length ≠ 0 := fun z => h0 (List.length_eq_zero_iff.mp z)
          omega
        generalize hU : upd HE l (.lst (ns.map V.int).dropLast) = H2
        have u1 : H2 d = some (.lst [.ref l, .int s0, .int (c + 1)]) := by rw [← hU, upd_ne dl]; exact h1E
        have u2 : H2 l = some (.lst (ns.dropLast.map V.int)) := by rw [← hU, upd_same, dropLast_map]
        have u3 : ∀ b o, b ≠ d → b ≠ l → H b = some o → Keep (H2 b) o := fun b o e1 e2 e3 => by rw [← hU, upd_ne e2]; exact h3E b o e1 e2 e3
        clear hU
        refine ⟨.int z, rfl, _, _, rfl, rfl, ⟨by decide, by decide, by decide⟩, _, _, rfl, rfl, _, rfl, ite2 (fun e2 => ?_) (fun e2 => ?_)⟩
        · -- deck[0].append(cell // most); return cell % most
          refine ⟨.ref d, rfl, d, _, 0, .ref l, rfl, rfl, .inl (.inl u1), rfl, .inl ⟨rfl, _, .inl (.inl u2)⟩, .int z, rfl, .int m, rfl, _, _, rfl, rfl,
            wide_div (b := 64) hm (by omega) (by decide) (by decide), l, _, _, rfl, rfl, u2, ?_, ?_⟩
          · rw [List.length_map]
            exact small1000 (by omega)
          refine ⟨.int z, rfl, .int m, rfl, _, _, rfl, rfl, hm, q _ _ (Int.emod_nonneg _ (by omega)) (Int.emod_lt_of_pos _ hm) (fin (ns.dropLast ++ [z / m]) _ ?_ ?_ ?_ ?_)⟩
          · rw [List.length_append]; show _ + 1 ≤ 63; omega
          · rw [upd_ne dl]; exact u1
          · rw [upd_same, List.map_append]; rfl
          · intro b o e1 e2 e3
            rw [upd_ne e2]; exact u3 b o e1 e2 e3
        · exact ⟨z, none, ns.dropLast, rfl, by omega, u1, u2, u3⟩
      · exact ⟨s0, none, ns, rfl, h3, h1E, h2E, h3E⟩
    · rintro σ' H' ⟨cell, y, ms, rfl, e1, e2, e3, e4⟩
      have S := fin ms H' e1 e2 e3 e4
      have eD : SqL K H' d [.ref l, .int s0, .int (c + 1)] := .inl (.inl e2)
      refine ⟨_, rfl, _, _, rfl, rfl, (by show (0 : Int) < 2147483629; decide), .ref d, rfl, d, _, 2, .int (c + 1), rfl, rfl, eD, rfl, _, _, rfl, rfl, .inl (by decide),
        _, _, rfl, rfl, _, _, rfl, rfl, _, _, rfl, rfl, .inr (by decide), _, _, rfl, rfl, (by show (0 : Int) < 2147483647; decide), ?_⟩
      refine ⟨_, rfl, _, rfl, _, _, rfl, rfl, .inl (modlt (by decide) (by decide)), .ref d, rfl, d, _, 2, .int (c + 1), rfl, rfl, eD, rfl, _, _, rfl, rfl, .inl (by decide),
        _, _, rfl, rfl, _, _, rfl, rfl, _, _, rfl, rfl, (by show (0 : Int) < 2147483587; decide), ?_⟩
      refine ⟨_, rfl, _, rfl, _, _, rfl, rfl, .inl (modlt (by decide) (by decide)), _, rfl, _, _, rfl, rfl, .inl (by decide), _, _, rfl, rfl, _, _, rfl, rfl, (by show (0 : Int) < 2147483563; decide),
        _, _, rfl, rfl, ⟨by decide, by decide⟩, .int m, rfl, _, _, rfl, rfl, hm, q _ _ (Int.emod_nonneg _ (by omega)) (Int.emod_lt_of_pos _ hm) S⟩

end

section
variable {P : Program} {w : World} {K : PySem.W.Frag} {mg : Str → Option Value} {base : Heap}

theorem ok_law_unlike {f : Addr} {fd : FuncData} (F : Fun K "_law_unlike" "_law_unlike" s_law_unlike f fd) (T : Bt mg) :
    FnG P w K mg base CX0 1 f fd ["_law_one", "_law_other"] (spUnlike K) := by
  refine okG (k := 0) F sc_law_unlike (fun vs H Q E h => ?_) (fun cdv A outer s H vs Q E hr h => ?_)
  · obtain ⟨u, v, p, q, rfl, _⟩ := h
    rfl
  · obtain ⟨u, v, p, p2, rfl, hp, hq, q⟩ := h
    refine ⟨_, (pss_cons (ps_if (pt_cmpR (op_eqD hr.room.units) (pv 0) (pv 1) (nomark _)) (pss_one (ps_ret (tupN (pa_cons (pv 0) (pa_cons (tupN (pa_cons (pe_op op_add (pe_ix ix_tup (pv 0) pe_int (fun _ _ => rfl)) pe_int) (pa_cons (pe_ix ix_tup (pv 0) pe_int (fun _ _ => rfl)) pa_nil))) pa_nil))))) pss_nil)
      (pss_one (ps_ret (tupN (pa_cons (pv 0) (pa_cons (pv 1) pa_nil)))))), ?_⟩
    refine ⟨_, rfl, _, rfl, _, _, hp.dp, hq.dp, rfl, rfl, _, rfl, ?_⟩
    by_cases e : p = p2
    · subst e
      rw [SeqAt.eqv_refl _ rfl]
      obtain ⟨a, rfl, ha⟩ := id hp
      refine iteT ⟨_, rfl, _, rfl, a, _, 0, _, rfl, rfl, ha, rfl, _, _, rfl, rfl, _, rfl, a, _, 1, _, rfl, rfl, ha, rfl, (by show 2 ≤ sizeLine; decide), fun p6 H6 n6 s6 g6 => ⟨(by show 2 ≤ sizeLine; decide), fun p7 H7 n7 s7 g7 => ?_⟩⟩
      exact q _ _ (p, (p.1 + 1, p.2)) (s6.trans s7) ⟨p7, _, _, rfl, .inl (.inl g7), hp.same (s6.trans s7), ⟨p6, rfl, .inl (.inl (s7 _ _ g6))⟩⟩ rfl (fun z => by have := congrArg Prod.fst z; simp only at this; omega) (.inr rfl)
    · have hne : PyData.eqv (pd p) (pd p2) = false := by
        cases hz : PyData.eqv (pd p) (pd p2) with
        | false => rfl
        | true =>
          exfalso
          apply e
          simp [pd, PyData.eqv, PyData.eqvAll] at hz
          exact Prod.ext hz.1 hz.2
      rw [hne]
      refine iteF ⟨_, rfl, _, rfl, (by show 2 ≤ sizeLine; decide), fun p6 H6 n6 s6 g6 => ?_⟩
      exact q _ _ (p, p2) s6 ⟨p6, _, _, rfl, .inl (.inl g6), hp.same s6, hq.same s6⟩ rfl e (.inl rfl)

theorem ok_law_less {f : Addr} {fd : FuncData} (F : Fun K "_law_less" "_law_less" s_law_less f fd) (T : Bt mg) :
    FnG P w K mg base CX0 1 f fd ["_law_one", "_law_other"] (spLess K) := by
  refine okG (k := 0) F sc_law_less (fun vs H Q E h => ?_) (fun cdv A outer s H vs Q E hr h => ?_)
  · obtain ⟨u, v, p, q, rfl, _⟩ := h
    rfl
  · obtain ⟨_, _, p, p2, rfl, ⟨a, rfl, ha⟩, ⟨b, rfl, hb⟩, q⟩ := h
    refine ⟨_, (pss_one (ps_ret (tupN (pa_cons (pe_op op_sub (pe_ix ix_tup (pv 0) pe_int (fun _ _ => rfl)) (pe_ix ix_tup (pv 1) pe_int (fun _ _ => rfl))) (pa_cons (pe_op op_sub (pe_ix ix_tup (pv 0) pe_int (fun _ _ => rfl)) (pe_ix ix_tup (pv 1) pe_int (fun _ _ => rfl))) pa_nil))))), ?_⟩
    exact ⟨_, rfl, a, _, 0, _, rfl, rfl, ha, rfl, _, rfl, b, _, 0, _, rfl, rfl, hb, rfl, _, _, rfl, rfl, _, rfl, a, _, 1, _, rfl, rfl, ha, rfl, _, rfl, b, _, 1, _, rfl, rfl, hb, rfl, _, _, rfl, rfl, (by show 2 ≤ sizeLine; decide),
      fun p6 H6 n6 s6 g6 => q _ _ s6 ⟨p6, rfl, .inl (.inl g6)⟩⟩

theorem ok_law_parted {f : Addr} {fd : FuncData} (F : Fun K "_law_parted" "_law_parted" s_law_parted f fd) (T : Bt mg) :
    FnG P w K mg base CX0 1 f fd ["_law_one", "_law_other"] spGp := by
  refine okG (k := 0) F sc_law_parted (fun vs H Q E h => ?_) (fun cdv A outer s H vs Q E hr h => ?_)
  · obtain ⟨n, m, rfl, _⟩ := h
    rfl
  · obtain ⟨n, m, rfl, q⟩ := h
    refine ⟨_, (pss_cons (ps_while PassesOwn.never (pt_cmpR op_ne (pv 1) pe_int (nomark _)) (pss_one (ps_par (i := 0) (j := 1) (by rfl) sc_law_parted.nd rfl rfl (by decide) rfl rfl (pa_cons (pv 1) (pa_cons (pe_op op_modN (pv 0) (pv 1)) pa_nil)) (by rfl))))
      (pss_one (ps_ret (pe_callB call_abs (by rfl) T.abs (by decide +kernel) (pa_cons (pv 0) pa_nil))))), ?_⟩
    refine while_by (fun σ H' => ∃ a b : Int, σ = [some (.int a), some (.int b)] ∧ H' = H ∧ Int.gcd a b = Int.gcd n m) (fun σ _ => match σ with | [_, some (.int b)] => b.natAbs | _ => 0) ?_ ?_ ?_
    · exact ⟨n, m, rfl, rfl, rfl⟩
    · rintro σ H' ⟨a, b, rfl, rfl, hg⟩
      refine ⟨_, rfl, rfl, _, rfl, ?_⟩
      by_cases hb : b = 0
      · subst hb
        refine iteF ⟨_, rfl, _, rfl, ?_⟩
        have e1 : (if a < 0 then -a else a) = (Int.gcd n m : Nat) := by
          rw [← hg, Int.gcd_zero_right]
          split <;> omega
        rw [e1]
        exact q
      · have e0 : (!decide (V.int b = V.int 0)) = true := by
          rw [decide_eq_false (fun z => hb (V.int.inj z))]; rfl
        rw [e0]
        exact iteT ⟨_, rfl, _, rfl, _, rfl, _, _, rfl, rfl, hb, _, _, rfl, ⟨b, a.fmod b, rfl, rfl, by rw [gcd_fmod a b hb, hg]⟩, fmod_small a b hb⟩
    · rintro σ H1 Q1 Q2 hq ⟨v, h1, h2, k, h4, h5⟩
      exact ⟨v, h1, h2, k, h4, hq _ _ h5⟩

theorem ok_law_lowest {f : Addr} {fd : FuncData} (F : Fun K "_law_lowest" "_law_lowest" s_law_lowest f fd) (T : Bt mg) (D_law_parted : Def P w K mg base 1 "_law_parted" ["_law_one", "_law_other"] spGp) :
    FnG P w K mg base CX0 2 f fd ["_law_n", "_law_m", "_law_d"] (spLowest K) := by
  refine okG (k := 1) F sc_law_lowest (fun vs H Q E h => ?_) (fun cdv A outer s H vs Q E hr h => ?_)
  · obtain ⟨n, m, d, rfl, _⟩ := h
    rfl
  · obtain ⟨n, m, d, rfl, h0, h1, q⟩ := h
    refine ⟨_, (pss_cons (ps_set (i := 3) sc_law_lowest.nd rfl (.inl rfl) (callD D_law_parted (hr.mono (by decide)) (pa_cons (callD D_law_parted (hr.mono (by decide)) (pa_cons (pv 0) (pa_cons (pv 1) pa_nil))) (pa_cons (pv 2) pa_nil))))
      (pss_one (ps_ret (tupN (pa_cons (pe_op op_fdivW (pv 0) (pv 3)) (pa_cons (pe_op op_fdivW (pv 1) (pv 3)) (pa_cons (pe_op op_fdivW (pv 2) (pv 3)) pa_nil))))))), ?_⟩
    have hp : spP n m d = gpar n m d := if_neg (by omega)
    have a1 := gpar_le (n := n) (m := m) (d := d) (by omega)
    have a2 := gpar_pos (n := n) (m := m) (d := d) (by omega)
    have hd : ∀ x : Int, CDivW x (gpar n m d) := fun x => wide_div (b := 200) a2 (by omega) (by decide) (by decide)
    refine ⟨_, rfl, _, rfl, n, m, rfl, _, rfl, _, d, rfl, ?_⟩
    refine ⟨_, rfl, _, rfl, _, _, rfl, rfl, hd n, _, rfl, _, rfl, _, _, rfl, rfl, hd m, _, rfl, _, rfl, _, _, rfl, rfl, hd d, (by show 3 ≤ sizeLine; decide), fun p6 H6 n6 s6 g6 => q _ _ s6 ⟨p6, rfl, .inl (.inl ?_)⟩⟩
    unfold sp3
    rw [hp]
    exact g6

theorem okgreatest_parting {f : Addr} {fd : FuncData} (F : Fun K "greatest_parting" "greatest_parting" sgreatest_parting f fd) (T : Bt mg) :
    FnG P w K mg base CX0 1 f fd ["n", "m"] spGp := by
  refine okG (k := 0) F scgreatest_parting (fun vs H Q E h => ?_) (fun cdv A outer s H vs Q E hr h => ?_)
  · obtain ⟨n, m, rfl, _⟩ := h
    rfl
  · obtain ⟨n, m, rfl, q⟩ := h
    refine ⟨_, (pss_cons (ps_par (i := 0) (j := 1) (by rfl) scgreatest_parting.nd rfl rfl (by decide) rfl rfl (pa_cons (pe_callB call_abs (by rfl) T.abs (by decide +kernel) (pa_cons (pv 0) pa_nil)) (pa_cons (pe_callB call_abs (by rfl) T.abs (by decide +kernel) (pa_cons (pv 1) pa_nil)) pa_nil)) (by rfl))
      (pss_cons (ps_while PassesOwn.never (pt_cmpR op_gt (pv 1) pe_int (nomark _)) (pss_one (ps_par (i := 0) (j := 1) (by rfl) scgreatest_parting.nd rfl rfl (by decide) rfl rfl (pa_cons (pv 1) (pa_cons (pe_op op_mod (pv 0) (pv 1)) pa_nil)) (by rfl))))
      (pss_one (ps_ret (pv 0))))), ?_⟩
    refine ⟨_, rfl, _, rfl, _, rfl, _, rfl, _, _, rfl, ?_⟩
    have e1 : (if n < 0 then -n else n) = (n.natAbs : Int) := by split <;> omega
    have e2 : (if m < 0 then -m else m) = (m.natAbs : Int) := by split <;> omega
    refine while_by (fun σ H' => ∃ a b : Nat, σ = [some (.int a), some (.int b)] ∧ H' = H ∧ Nat.gcd a b = Int.gcd n m) (fun σ _ => match σ with | [_, some (.int b)] => b.toNat | _ => 0) ?_ ?_ ?_
    · refine ⟨n.natAbs, m.natAbs, ?_, rfl, rfl⟩
      show [some (V.int (if n < 0 then -n else n)), some (.int (if m < 0 then -m else m))] = _
      rw [e1, e2]
    · rintro σ H' ⟨a, b, rfl, rfl, hg⟩
      refine ⟨_, rfl, _, _, rfl, rfl, _, rfl, ite2 (fun e => ?_) (fun e => ?_)⟩
      · have hb : 0 < b := by have := of_decide_eq_true e; omega
        refine ⟨_, rfl, _, rfl, _, rfl, _, _, rfl, rfl, (by omega), _, _, rfl, ⟨b, a % b, rfl, rfl, ?_⟩, ?_⟩
        · rw [← hg, Nat.gcd_comm b, ← Nat.gcd_rec, Nat.gcd_comm]
        · show ((a : Int) % (b : Int)).toNat < (b : Int).toNat
          have := Nat.mod_lt a hb
          omega
      · have hb : b = 0 := by
          have : ¬ (0 : Int) < b := fun z => e (decide_eq_true z)
          omega
        subst hb
        rw [Nat.gcd_zero_right] at hg
        rw [← hg] at q
        exact ⟨_, rfl, q⟩
    · rintro σ H1 Q1 Q2 hq ⟨v, h1, i, j, h2, h3, k, h4, h5⟩
      exact ⟨v, h1, i, j, h2, h3, k, h4, hq _ _ h5⟩

theorem okspot_of {f : Addr} {fd : FuncData} (F : Fun K "spot_of" "spot_of" sspot_of f fd) (T : Bt mg) (Dgreatest_parting : Def P w K mg base 1 "greatest_parting" ["n", "m"] spGp) :
    FnG P w K mg base CX0 2 f fd ["n", "m", "d"] spSpotOf := by
  refine okG (k := 1) F scspot_of (fun vs H Q E h => ?_) (fun cdv A outer s H vs Q E hr h => ?_)
  · obtain ⟨n, m, d, rfl, _⟩ := h
    rfl
  · obtain ⟨n, m, d, rfl, h0, h1, q⟩ := h
    refine ⟨_, (pss_cons (ps_set (i := 3) scspot_of.nd rfl (.inl rfl) (callD Dgreatest_parting (hr.mono (by decide)) (pa_cons (callD Dgreatest_parting (hr.mono (by decide)) (pa_cons (pv 0) (pa_cons (pv 1) pa_nil))) (pa_cons (pv 2) pa_nil))))
      (cutS (ps_if (pt_cmpR op_lt (pv 2) pe_int (nomark _)) (pss_one (ps_set (i := 3) scspot_of.nd rfl (.inl rfl) (pe_un un_neg (pv 3)))) pss_nil)
      (pss_one (ps_ret (tupN (pa_cons (pe_op op_fdivX (pv 0) (pv 3)) (pa_cons (pe_op op_fdivX (pv 1) (pv 3)) (pa_cons (pe_op op_fdivX (pv 2) (pv 3)) pa_nil)))))))), ?_⟩
    refine ⟨_, rfl, _, rfl, n, m, rfl, _, rfl, _, d, rfl, ?_⟩
    obtain ⟨v1, v2, v3⟩ := spP_dvd n m d
    rw [← Int.fdiv_eq_ediv_of_dvd v1, ← Int.fdiv_eq_ediv_of_dvd v2, ← Int.fdiv_eq_ediv_of_dvd v3] at q
    have hd : CDivX n (spP n m d) := by
      refine ⟨spP_ne h0, ?_⟩
      have a1 := gpar_le (n := n) (m := m) h0
      have a2 := gpar_pos (n := n) (m := m) h0
      have a3 : (spP n m d).natAbs < 2 ^ 200 := by unfold spP; split <;> omega
      have := PySem.Flt.log2_lt_of (show 0 < 200 by decide) a3
      omega
    refine ⟨fun σ' H' => σ' = [some (.int n), some (.int m), some (.int d), some (.int (spP n m d))] ∧ H' = H, ?_, ?_⟩
    · refine ⟨_, rfl, _, _, rfl, rfl, _, rfl, ite2 (fun e => ?_) (fun e => ?_)⟩
      · have e' := of_decide_eq_true e
        refine ⟨_, rfl, _, rfl, ?_, rfl⟩
        unfold spP
        rw [if_pos e']
        rfl
      · have e' : ¬ d < 0 := fun z => e (decide_eq_true z)
        refine ⟨?_, rfl⟩
        unfold spP
        rw [if_neg e']
        rfl
    · rintro σ' H' ⟨rfl, rfl⟩
      exact ⟨_, rfl, _, rfl, _, _, rfl, rfl, hd, _, rfl, _, rfl, _, _, rfl, rfl, hd, _, rfl, _, rfl, _, _, rfl, rfl, hd, (by show 3 ≤ sizeLine; decide), q⟩

theorem okstep_of {f : Addr} {fd : FuncData} (F : Fun K "step_of" "step_of" sstep_of f fd) (T : Bt mg) :
    FnG P w K mg base CX0 1 f fd ["line"] (spStep K) := by
  refine okG (k := 0) F scstep_of (fun vs H Q E h => ?_) (fun cdv A outer s H vs Q E hr h => ?_)
  · obtain ⟨v, l, rfl, _⟩ := h
    rfl
  · obtain ⟨_, l, rfl, ⟨a, _, _, rfl, hS, ⟨b, rfl, hb⟩, ⟨c, rfl, hc⟩⟩, q⟩ := h
    refine ⟨_, (pss_cons (ps_asg (pv 0) (pg_tup (by rfl) (pgs_cons (pg_tup (by rfl) (pgs_cons (pg_name (i := 1) scstep_of.nd rfl (.inl rfl)) (pgs_cons (pg_name (i := 2) scstep_of.nd rfl (.inl rfl)) pgs_nil))) (pgs_cons (pg_tup (by rfl) (pgs_cons (pg_name (i := 3) scstep_of.nd rfl (.inl rfl)) (pgs_cons (pg_name (i := 4) scstep_of.nd rfl (.inl rfl)) pgs_nil))) pgs_nil))))
      (pss_one (ps_ret (tupN (pa_cons (pe_op op_sub (pv 3) (pv 1)) (pa_cons (pe_op op_sub (pv 4) (pv 2)) pa_nil)))))), ?_⟩
    refine ⟨_, rfl, a, _, rfl, hS, rfl, _, _, rfl, b, _, rfl, hb, rfl, _, _, rfl, _, _, rfl, rfl, _, _, rfl, c, _, rfl, hc, rfl, _, _, rfl, _, _, rfl, rfl, rfl, ?_⟩
    exact ⟨_, rfl, _, rfl, _, _, rfl, rfl, _, rfl, _, rfl, _, _, rfl, rfl, (by show 2 ≤ sizeLine; decide), fun p H1 n s e => q _ _ s ⟨p, rfl, .inl (.inl e)⟩⟩

theorem ok_law_turn {f : Addr} {fd : FuncData} (F : Fun K "_law_turn" "_law_turn" s_law_turn f fd) (T : Bt mg) :
    FnG P w K mg base CX0 1 f fd ["_law_one", "_law_other"] (spTurn K) := by
  refine okG (k := 0) F sc_law_turn (fun vs H Q E h => ?_) (fun cdv A outer s H vs Q E hr h => ?_)
  · obtain ⟨u, v, p, q, rfl, _⟩ := h
    rfl
  · obtain ⟨_, _, p, p2, rfl, ⟨a, rfl, ha⟩, ⟨b, rfl, hb⟩, bd, q⟩ := h
    refine ⟨_, (pss_one (ps_ret (pe_op op_sub (pe_op op_mul (pe_ix ix_tup (pv 0) pe_int (fun _ _ => rfl)) (pe_ix ix_tup (pv 1) pe_int (fun _ _ => rfl))) (pe_op op_mul (pe_ix ix_tup (pv 0) pe_int (fun _ _ => rfl)) (pe_ix ix_tup (pv 1) pe_int (fun _ _ => rfl)))))), ?_⟩
    obtain ⟨⟨x1, x2⟩, y1, y2⟩ := bd
    exact ⟨_, rfl, a, _, 0, _, rfl, rfl, ha, rfl, _, rfl, b, _, 1, _, rfl, rfl, hb, rfl, _, _, rfl, rfl, .inl (by omega), _, rfl, a, _, 1, _, rfl, rfl, ha, rfl, _, rfl, b, _, 0, _, rfl, rfl, hb, rfl, _, _, rfl, rfl, .inl (by omega), _, _, rfl, rfl, q⟩

theorem okturn_of {f : Addr} {fd : FuncData} (F : Fun K "turn_of" "turn_of" sturn_of f fd) (T : Bt mg) :
    FnG P w K mg base CX0 1 f fd ["one", "other"] (spTurn K) := by
  refine okG (k := 0) F scturn_of (fun vs H Q E h => ?_) (fun cdv A outer s H vs Q E hr h => ?_)
  · obtain ⟨u, v, p, q, rfl, _⟩ := h
    rfl
  · obtain ⟨_, _, p, p2, rfl, ⟨a, rfl, ha⟩, ⟨b, rfl, hb⟩, bd, q⟩ := h
    refine ⟨_, (pss_one (ps_ret (pe_op op_sub (pe_op op_mul (pe_ix ix_tup (pv 0) pe_int (fun _ _ => rfl)) (pe_ix ix_tup (pv 1) pe_int (fun _ _ => rfl))) (pe_op op_mul (pe_ix ix_tup (pv 0) pe_int (fun _ _ => rfl)) (pe_ix ix_tup (pv 1) pe_int (fun _ _ => rfl)))))), ?_⟩
    obtain ⟨⟨x1, x2⟩, y1, y2⟩ := bd
    exact ⟨_, rfl, a, _, 0, _, rfl, rfl, ha, rfl, _, rfl, b, _, 1, _, rfl, rfl, hb, rfl, _, _, rfl, rfl, .inl (by omega), _, rfl, a, _, 1, _, rfl, rfl, ha, rfl, _, rfl, b, _, 0, _, rfl, rfl, hb, rfl, _, _, rfl, rfl, .inl (by omega), _, _, rfl, rfl, q⟩

theorem okspot_at {f : Addr} {fd : FuncData} (F : Fun K "spot_at" "spot_at" sspot_at f fd) (T : Bt mg) (Dstep_of : Def P w K mg base 1 "step_of" ["line"] (spStep K)) (Dspot_of : Def P w K mg base 2 "spot_of" ["n", "m", "d"] spSpotOf) :
    FnG P w K mg base CX0 3 f fd ["line", "k", "m"] (spSpotAt K) := by
  refine okG (k := 2) F scspot_at (fun vs H Q E h => ?_) (fun cdv A outer s H vs Q E hr h => ?_)
  · obtain ⟨v, l, k, m, rfl, _⟩ := h
    rfl
  · obtain ⟨_, l, kk, m, rfl, hL, bl, hm, hm2, q⟩ := h
    refine ⟨_, (pss_cons (ps_asg (pe_ix ix_tup (pv 0) pe_int (fun _ _ => rfl)) (pg_tup (by rfl) (pgs_cons (pg_name (i := 3) scspot_at.nd rfl (.inl rfl)) (pgs_cons (pg_name (i := 4) scspot_at.nd rfl (.inl rfl)) pgs_nil))))
      (pss_cons (ps_asg (callD Dstep_of (hr.mono (by decide)) (pa_cons (pv 0) pa_nil)) (pg_tup (by rfl) (pgs_cons (pg_name (i := 5) scspot_at.nd rfl (.inl rfl)) (pgs_cons (pg_name (i := 6) scspot_at.nd rfl (.inl rfl)) pgs_nil))))
      (pss_one (ps_ret (callD Dspot_of (hr.mono (by decide)) (pa_cons (pe_op op_add (pe_op op_mul (pv 2) (pv 3)) (pe_op op_mul (pv 1) (pv 5))) (pa_cons (pe_op op_add (pe_op op_mul (pv 2) (pv 4)) (pe_op op_mul (pv 1) (pv 6))) (pa_cons (pv 2) pa_nil)))))))), ?_⟩
    obtain ⟨⟨x1, x2⟩, x3, x4⟩ := bl.1
    obtain ⟨⟨d1, d2⟩, d3, d4⟩ := bd_less bl.2 bl.1
    have hL0 := hL
    obtain ⟨a, x, y, rfl, hS, ⟨b, rfl, hb⟩, hy⟩ := hL
    refine ⟨_, rfl, a, _, 0, _, rfl, rfl, hS, rfl, b, _, rfl, hb, rfl, _, _, rfl, _, _, rfl, rfl, ?_⟩
    refine ⟨_, rfl, _, l, rfl, hL0, fun w1 H1 s1 e1 => ?_⟩
    obtain ⟨c, rfl, hc⟩ := e1
    refine ⟨c, _, rfl, hc, rfl, _, _, rfl, _, _, rfl, rfl, ?_⟩
    exact ⟨_, rfl, _, rfl, _, _, rfl, rfl, .inr (by omega), _, rfl, _, rfl, _, _, rfl, rfl, .inr (by omega), _, _, rfl, rfl, _, rfl, _, rfl, _, _, rfl, rfl, .inr (by omega), _, rfl, _, rfl, _, _, rfl, rfl, .inr (by omega), _, _, rfl, rfl, _, rfl,
      _, _, m, rfl, hm, hm2, fun p H2 n2 s2 e2 => q _ _ (s1.trans s2) ⟨p, rfl, .inl (.inl e2)⟩⟩

theorem okside_of {f : Addr} {fd : FuncData} (F : Fun K "side_of" "side_of" sside_of f fd) (T : Bt mg) (Dstep_of : Def P w K mg base 1 "step_of" ["line"] (spStep K)) (Dturn_of : Def P w K mg base 1 "turn_of" ["one", "other"] (spTurn K)) :
    FnG P w K mg base CX0 2 f fd ["line", "point"] (spSide K) := by
  refine okG (k := 1) F scside_of (fun vs H Q E h => ?_) (fun cdv A outer s H vs Q E hr h => ?_)
  · obtain ⟨u, v, l, p, rfl, _⟩ := h
    rfl
  · obtain ⟨u, v, l, p, rfl, hL, hp, bl, q⟩ := h
    refine ⟨_, (pss_one (ps_ret (callD Dturn_of (hr.mono (by decide)) (pa_cons (callD Dstep_of (hr.mono (by decide)) (pa_cons (pv 0) pa_nil)) (pa_cons (callD Dstep_of (hr.mono (by decide)) (pa_cons (tupN (pa_cons (pe_ix ix_tup (pv 0) pe_int (fun _ _ => rfl)) (pa_cons (pv 1) pa_nil))) pa_nil)) pa_nil))))), ?_⟩
    refine ⟨_, rfl, u, l, rfl, hL, fun w1 H1 s1 e1 => ?_⟩
    obtain ⟨a, x, y, ea, hS, hx, hy⟩ := hL.same s1
    subst ea
    refine ⟨_, rfl, a, _, 0, x, rfl, rfl, hS, rfl, v, rfl, (by show 2 ≤ sizeLine; decide), fun p2 H2 n2 s2 e2 => ?_⟩
    refine ⟨.ref p2, (l.1, p), rfl, ⟨p2, x, v, rfl, .inl (.inl e2), hx.same s2, hp.same (s1.trans s2)⟩, fun w3 H3 s3 e3 => ?_⟩
    exact ⟨w1, w3, _, _, rfl, e1.same (s2.trans s3), e3, bd_less bl.2 bl.1, q _ ((s1.trans s2).trans s3)⟩

end
end Cl

set_option maxHeartbeats 0
namespace Cl
open PySem PySem.Spec PyProof.Rows L2
open GxR (TabB TabG)


/-- a paper: a word and whole numbers -/
def Pap (K : PySem.W.Frag) (H : Hp) (v : V) (wd : Str) (ns : List Int) : Prop := ∃ a, v = .ref a ∧ SqT K H a (.str wd :: ns.map V.int)
theorem Pap.same {K : PySem.W.Frag} {H H' : Hp} {v : V} {wd : Str} {ns : List Int} (h : Pap K H v wd ns) (s : Same H H') : Pap K H' v wd ns := by
  obtain ⟨a, e, h⟩ := h
  exact ⟨a, e, seT s h⟩
def spPaper (K : PySem.W.Frag) (P : Addr) : Sp := fun vs H Q _ => ∃ v w m wd ns, vs = [v, .str w, .int m] ∧ TabG H P ∧ Pap K H v wd ns ∧ ns.length ≤ 9 ∧ SeqAt.shaped (.tuple [.str wd]) = true ∧ SeqAt.shaped (.tuple [.str w]) = true ∧ ∀ H', Same H H' → Q (.bl (decide (wd = w) && decide ((ns.length : Int) = m))) H'
theorem eqv_str1 (a b : Str) : PyData.eqv (.tuple [.str a]) (.tuple [.str b]) = decide (a = b) := by
  rw [Bool.eq_iff_iff]
  simp [PyData.eqv, PyData.eqvAll]
theorem wholes_ints (ns : List Int) (m : Int) : wholes (some (ns.map V.int)) m = decide ((ns.length : Int) = m) := by
  show (decide (((ns.map V.int).length : Int) = m) && (ns.map V.int).all isI) = _
  rw [List.length_map, show (ns.map V.int).all isI = true from List.all_eq_true.mpr fun x hx => by
    obtain ⟨i, _, rfl⟩ := List.mem_map.mp hx
    rfl, Bool.and_true]
theorem th_ints {K : PySem.W.Frag} {H : Hp} {a : Addr} {ns : List Int} (h : SqT K H a (ns.map V.int)) : Th K H (.ref a) (some (ns.map V.int)) :=
  ⟨a, rfl, h, fun x hx => by
    obtain ⟨i, _, rfl⟩ := List.mem_map.mp hx
    exact ⟨_, .int i⟩⟩
def spShareQ : Sp := fun vs H Q _ => ∃ k m : Int, vs = [.int k, .int m] ∧ Q (.bl (decide (1 ≤ m) && (decide (0 ≤ k) && decide (k ≤ m)))) H

section
variable {P : Program} {w : World} {K : PySem.W.Frag} {mg : Str → Option Value} {base : Heap}

theorem qw_is_whole {f : Addr} {fd : FuncData} (F : Fun K "is_whole" "is_whole" sis_whole f fd) (T : Bt mg) (b : Binds K fd ["thing"] []) : QW P w K mg f :=
  qw_of (k := 0) F scis_whole rfl rfl rfl rfl T.isinstance T.int T.bool rfl b

theorem okare_wholes {f c Pt : Addr} {fd : FuncData} (F : Fun K "are_wholes" "are_wholes" sare_wholes f fd) (hc : fd.code = .ref c) (TB : GxR.TabB base mg c Pt) (T : Bt mg) {fw : Addr} (W : QW P w K mg fw) (hW : mg "is_whole" = some (.ref fw)) (kW : PySem.W.keepIn K (.ref fw) = true) :
    FnG P w K mg base CX0 3 f fd ["thing", "many"] (spAre K Pt) := by
  refine okGT (k := 2) F hc scare_wholes (fun vs H Q E h => ?_) (fun A outer s H vs Q E hr h => ?_)
  · obtain ⟨v, m, u, rfl, _⟩ := h
    rfl
  · obtain ⟨v, m, u, rfl, hT, hv, q⟩ := h
    refine ⟨_, (pss_one (ps_ret (pe_and (pe_callB call_isi (by rfl) T.isinstance (by decide +kernel) (pa_cons (pv 0) (pa_cons (pe_bltn (v := .ty "tuple") (by rfl) T.tuple (by decide +kernel) rfl) pa_nil))) (pe_and (pe_cmpR op_eq (pe_callB call_len_seq (by rfl) T.len (by decide +kernel) (pa_cons (pv 0) pa_nil)) (pv 1) (nomark _)) (pe_one (pe_allW hr.room (roomD hr.room) (by rfl) T.all TB rfl W hW kW (pv 0) (genS rfl rfl (by decide +kernel) rfl rfl) rfl)))))), ?_⟩
    cases u with
    | none =>
      obtain ⟨U, hk, nt⟩ := hv
      refine ⟨_, rfl, _, _, _, _, _, rfl, .ty _, hk.ty, kit_ty hk.tuple?, _, rfl, ?_⟩
      rw [decide_eq_false nt]
      exact iteF (q _ (.refl _))
    | some xs =>
      obtain ⟨a, rfl, hS, hp⟩ := hv
      refine ⟨_, rfl, _, _, _, _, _, rfl, .ty _, (Kd.tup hS).ty, kit_ty (Kd.tup hS).tuple?, _, rfl, iteT ?_⟩
      refine ⟨_, rfl, a, _, rfl, .inr hS, _, rfl, rfl, _, rfl, ite2 (fun e => ?_) (fun e => ?_)⟩
      · have hw : wholes (some xs) m = (xs.map isI).all id := by
          show (decide ((xs.length : Int) = m) && xs.all isI) = _
          rw [show decide ((xs.length : Int) = m) = true from decide_eq_true (V.int.inj (of_decide_eq_true e)), Bool.true_and, List.all_map]
          rfl
        refine ⟨_, rfl, a, xs, xs.map isI, rfl, hS, by simp, fun i x b hx hb => ?_, trivial, hT, fun H2 s t => ?_⟩
        · obtain ⟨U, hk⟩ := hp x (List.mem_of_getElem? hx)
          refine ⟨U, hk, ?_⟩
          rw [List.getElem?_map, hx] at hb
          exact (Option.some.inj hb).symm
        · have := q H2 s
          rw [hw] at this
          exact this
      · have hw : wholes (some xs) m = false := by
          show (decide ((xs.length : Int) = m) && xs.all isI) = _
          rw [show decide ((xs.length : Int) = m) = false from decide_eq_false fun z => e (decide_eq_true (by rw [z])), Bool.false_and]
        have := q H (.refl _)
        rw [hw] at this
        exact this

theorem okis_paper {f Pt : Addr} {fd : FuncData} (F : Fun K "is_paper" "is_paper" sis_paper f fd) (T : Bt mg) (Dare_wholes : Def P w K mg base 3 "are_wholes" ["thing", "many"] (spAre K Pt)) :
    FnG P w K mg base CX0 4 f fd ["thing", "word", "many"] (spPaper K Pt) := by
  refine okG (k := 3) F scis_paper (fun vs H Q E h => ?_) (fun cdv A outer s H vs Q E hr h => ?_)
  · obtain ⟨v, w, m, wd, ns, rfl, _⟩ := h
    rfl
  · obtain ⟨v, w2, m, wd, ns, rfl, hT, hp, hl, sh1, sh2, q⟩ := h
    refine ⟨_, (pss_one (ps_ret (pe_and (pe_callB call_isi (by rfl) T.isinstance (by decide +kernel) (pa_cons (pv 0) (pa_cons (pe_bltn (v := .ty "tuple") (by rfl) T.tuple (by decide +kernel) rfl) pa_nil))) (pe_and (pe_cmpR (op_eqD hr.room.units) (pe_slice sl_tupB (pv 0) po_none (po_some pe_int)) (tupN (pa_cons (pv 1) pa_nil)) (nomark _)) (pe_one (callD Dare_wholes (hr.mono (by decide)) (pa_cons (pe_slice sl_tupB (pv 0) (po_some pe_int) po_none) (pa_cons (pv 2) pa_nil)))))))), ?_⟩
    obtain ⟨a, rfl, hS⟩ := hp
    refine ⟨_, rfl, _, _, _, _, _, rfl, .ty _, (Kd.tup hS).ty, kit_ty (Kd.tup hS).tuple?, _, rfl, iteT ?_⟩
    refine ⟨.ref a, rfl, _, rfl, a, _, rfl, hS, fun p1 H1 s1 e1 => ?_⟩
    rw [cut_first] at e1
    refine ⟨_, rfl, (by show 1 ≤ sizeLine; decide), fun p2 H2 n2 s2 e2 => ?_⟩
    refine ⟨.tuple [.str wd], .tuple [.str w2], .tup (seT s2 e1) (.cons (.str _) .nil), .tup (.inl (.inl e2)) (.cons (.str _) .nil), sh1, sh2, _, rfl, ?_⟩
    rw [eqv_str1]
    have S2 := s1.trans s2
    refine ite2 (fun e => ?_) (fun e => ?_)
    · refine ⟨.ref a, rfl, _, rfl, a, _, rfl, seT S2 hS, fun p3 H3 s3 e3 => ?_⟩
      rw [cut_rest] at e3
      refine ⟨_, rfl, .ref p3, m, some (ns.map V.int), rfl, (S2.trans s3).tab hT, th_ints e3, fun H4 s4 => ?_⟩
      rw [wholes_ints]
      have := q H4 (S2.trans (s3.trans s4))
      rw [of_decide_eq_true e, decide_eq_true rfl, Bool.true_and] at this
      exact this
    · have := q H2 S2
      rw [decide_eq_false (fun z => e (decide_eq_true z)), Bool.false_and] at this
      exact this

theorem okis_share {f : Addr} {fd : FuncData} (F : Fun K "is_share" "is_share" sis_share f fd) (T : Bt mg) :
    FnG P w K mg base CX0 1 f fd ["k", "m"] spShareQ := by
  refine okG (k := 0) F scis_share (fun vs H Q E h => ?_) (fun cdv A outer s H vs Q E hr h => ?_)
  · obtain ⟨k, m, rfl, _⟩ := h
    rfl
  · obtain ⟨k, m, rfl, q⟩ := h
    refine ⟨_, (pss_one (ps_ret (pe_and (pe_cmpR op_ge (pv 1) pe_int (nomark _)) (pe_one (pe_chain op_le op_le pe_int (pv 0) (pv 1)))))), ?_⟩
    refine ⟨_, rfl, _, _, rfl, rfl, _, rfl, ite2 (fun e => ?_) (fun e => ?_)⟩
    · rw [show decide (1 ≤ m) = true from e, Bool.true_and] at q
      refine ⟨_, rfl, _, _, rfl, rfl, _, rfl, ite2 (fun e => ?_) (fun e => ?_)⟩
      · rw [show decide (0 ≤ k) = true from e, Bool.true_and] at q
        exact ⟨_, rfl, _, _, rfl, rfl, q⟩
      · rw [show decide (0 ≤ k) = false from Bool.eq_false_iff.mpr e, Bool.false_and] at q
        exact q
    · have : ¬ (1 : Int) ≤ m := fun z => e (decide_eq_true z)
      rw [decide_eq_false this, Bool.false_and] at q
      exact q

end
end Cl

set_option maxHeartbeats 0
namespace Cl
open PySem PySem.Spec PyProof.Rows L2
open GxR (TabB TabG)


def B190 (ns : List Int) : Prop := ∀ n ∈ ns, n.natAbs < 2 ^ 190
def shQ (k m : Int) : Bool := decide (1 ≤ m) && (decide (0 ≤ k) && decide (k ≤ m))
def below (p q r : Int) (x : Int × Int) : Bool := decide (p * x.1 + q * x.2 < r)
def above (p q r : Int) (x : Int × Int) : Bool := decide (r < p * x.1 + q * x.2)
def CB (_ _ _ : Int) (x : Int × Int) : Prop := (-(2 ^ 64) < x.1 ∧ x.1 < 2 ^ 64) ∧ -(2 ^ 64) < x.2 ∧ x.2 < 2 ^ 64
def ptsOf (l : Ln) : List (Int × Int) := [l.1, l.2]
def isApart (l r : Ln) (wd : Str) : List Int → Bool
  | [p, q, t] => decide (wd = "apart") && ((ptsOf l).all (below p q t) && (ptsOf r).all (above p q t))
  | _ => false
def at3 (l : Ln) (k m : Int) : S3 := sp3 (m * l.1.1 + k * (l.2.1 - l.1.1)) (m * l.1.2 + k * (l.2.2 - l.1.2)) m
def isMeet (l r : Ln) (wd : Str) : List Int → Bool
  | [k, m, k2, n] => decide (wd = "meets") && (shQ k m && (shQ k2 n && decide (at3 l k m = at3 r k2 n)))
  | _ => false
def spApartQ (K : PySem.W.Frag) (P P2 : Addr) : Sp := fun vs H Q _ => ∃ u v w l r wd ns, vs = [u, v, w] ∧ TabG H P ∧ TabG H P2 ∧ AtL K H u l ∧ AtL K H v r ∧ BdL l ∧ BdL r ∧ Pap K H w wd ns ∧ ns.length ≤ 9 ∧ SeqAt.shaped (.tuple [.str wd]) = true ∧
  ∀ H', Same H H' → Q (.bl (isApart l r wd ns)) H'
def spMeetQ (K : PySem.W.Frag) (P : Addr) : Sp := fun vs H Q _ => ∃ u v w l r wd ns, vs = [u, v, w] ∧ TabG H P ∧ AtL K H u l ∧ AtL K H v r ∧ BdL l ∧ BdL r ∧ Pap K H w wd ns ∧ ns.length ≤ 9 ∧ B190 ns ∧ SeqAt.shaped (.tuple [.str wd]) = true ∧
  (isMeet l r wd ns = false → ∀ H', Same H H' → Q .non H') ∧ (isMeet l r wd ns = true → ∀ a H', Same H H' → Q (.ref a) H')
def spHoldsQ (K : PySem.W.Frag) (P P2 : Addr) : Sp := fun vs H Q _ => ∃ u v w l r wd ns, vs = [u, v, w] ∧ TabG H P ∧ TabG H P2 ∧ AtL K H u l ∧ AtL K H v r ∧ BdL l ∧ BdL r ∧ Pap K H w wd ns ∧ ns.length ≤ 9 ∧ B190 ns ∧ SeqAt.shaped (.tuple [.str wd]) = true ∧
  ∀ H', Same H H' → Q (.bl (isApart l r wd ns || isMeet l r wd ns)) H'
section
variable {P : Program} {w : World}
theorem elt_below {scope : Scope} {q1 q2 q3 q4 q5 q6 q7 q8 q9 : Pos} (hk : scope.kind = .function) (h1 : scope.names.lookup ("p" : Str) = some NameKind.free) (h2 : scope.names.lookup ("q" : Str) = some NameKind.free) (h3 : scope.names.lookup ("r" : Str) = some NameKind.free) (h4 : scope.names.lookup ("x" : Str) = some NameKind.local) (h5 : scope.names.lookup ("y" : Str) = some NameKind.local) :
    EltP P w scope "x" "y" "p" "q" "r" (.Compare (.BinOp (.BinOp (.Name "p" q1) .Mult (.Name "x" q2) q3) .Add (.BinOp (.Name "q" q4) .Mult (.Name "y" q5) q6) q7) [.Lt] [.Name "r" q8] q9) CB below := by
  intro cenv h i1 i2 i3 x y tx ty m hs c1 c2 c3 hn hx hy hC
  subst hs
  obtain ⟨a1, t1, e1, g1⟩ := c1
  obtain ⟨a2, t2, e2, g2⟩ := c2
  obtain ⟨a3, t3, e3, g3⟩ := c3
  exact sees_lt (sees_add (sees_mul (sees_free hk h1 e1 g1) (sees_loc hk h4 hn hx) (CMul.ok (.inr hC.1))) (sees_mul (sees_free hk h2 e2 g2) (sees_loc hk h5 hn hy) (CMul.ok (.inr hC.2)))) (sees_free hk h3 e3 g3)
theorem elt_above {scope : Scope} {q1 q2 q3 q4 q5 q6 q7 q8 q9 : Pos} (hk : scope.kind = .function) (h1 : scope.names.lookup ("p" : Str) = some NameKind.free) (h2 : scope.names.lookup ("q" : Str) = some NameKind.free) (h3 : scope.names.lookup ("r" : Str) = some NameKind.free) (h4 : scope.names.lookup ("x" : Str) = some NameKind.local) (h5 : scope.names.lookup ("y" : Str) = some NameKind.local) :
    EltP P w scope "x" "y" "p" "q" "r" (.Compare (.BinOp (.BinOp (.Name "p" q1) .Mult (.Name "x" q2) q3) .Add (.BinOp (.Name "q" q4) .Mult (.Name "y" q5) q6) q7) [.Gt] [.Name "r" q8] q9) CB above := by
  intro cenv h i1 i2 i3 x y tx ty m hs c1 c2 c3 hn hx hy hC
  subst hs
  obtain ⟨a1, t1, e1, g1⟩ := c1
  obtain ⟨a2, t2, e2, g2⟩ := c2
  obtain ⟨a3, t3, e3, g3⟩ := c3
  exact sees_gt (sees_add (sees_mul (sees_free hk h1 e1 g1) (sees_loc hk h4 hn hx) (CMul.ok (.inr hC.1))) (sees_mul (sees_free hk h2 e2 g2) (sees_loc hk h5 hn hy) (CMul.ok (.inr hC.2)))) (sees_free hk h3 e3 g3)
end
theorem isApart_not {l r : Ln} {wd : Str} {ns : List Int} (h : ¬ (wd = "apart" ∧ ns.length = 3)) : isApart l r wd ns = false := by
  unfold isApart
  split
  · rename_i p q t
    rw [decide_eq_false (fun z => h ⟨z, rfl⟩), Bool.false_and]
  · rfl
theorem isMeet_not {l r : Ln} {wd : Str} {ns : List Int} (h : ¬ (wd = "meets" ∧ ns.length = 4)) : isMeet l r wd ns = false := by
  unfold isMeet
  split
  · rw [decide_eq_false (fun z => h ⟨z, rfl⟩), Bool.false_and]
  · rfl
theorem shQ_iff {k m : Int} : shQ k m = true ↔ 1 ≤ m ∧ 0 ≤ k ∧ k ≤ m := by
  unfold shQ
  simp
theorem eqv_d3 (s t : S3) : PyData.eqv (d3 s) (d3 t) = decide (s = t) := by
  rw [Bool.eq_iff_iff]
  obtain ⟨a, b, c⟩ := s
  obtain ⟨a', b', c'⟩ := t
  simp [d3, PyData.eqv, PyData.eqvAll]
theorem cb_of {l : Ln} (b : BdL l) (i j k : Int) : ∀ p ∈ ptsOf l, CB i j k p := fun p hp => by
  obtain ⟨⟨⟨x1, x2⟩, x3, x4⟩, ⟨y1, y2⟩, y3, y4⟩ := b
  simp only [ptsOf, List.mem_cons, List.not_mem_nil, or_false] at hp
  rcases hp with rfl | rfl
  · exact ⟨⟨by omega, by omega⟩, by omega, by omega⟩
  · exact ⟨⟨by omega, by omega⟩, by omega, by omega⟩
theorem pts_at {K : PySem.W.Frag} {H : Hp} {v : V} {l : Ln} (h : AtL K H v l) : ∃ a vs, v = .ref a ∧ SqT K H a vs ∧ AllAt (At2 K H) vs (ptsOf l) := by
  obtain ⟨a, u, w, e, h1, h2, h3⟩ := h
  exact ⟨a, _, e, h1, .cons h2 (.cons h3 .nil)⟩

section
variable {P : Program} {w : World} {K : PySem.W.Frag} {mg : Str → Option Value} {base : Heap}

theorem okapart_holds {f c Pt Pa : Addr} {fd : FuncData} (F : Fun K "apart_holds" "apart_holds" sapart_holds f fd) (hc : fd.code = .ref c) (TB : GxR.TabB base mg c Pt) (T : Bt mg) (Dis_paper : Def P w K mg base 4 "is_paper" ["thing", "word", "many"] (spPaper K Pa)) :
    FnG P w K mg base CX0 5 f fd ["one", "other", "thing"] (spApartQ K Pa Pt) := by
  refine okGT (k := 4) F hc scapart_holds (fun vs H Q E h => ?_) (fun A outer s H vs Q E hr h => ?_)
  · obtain ⟨u, v, w, l, r, wd, ns, rfl, _⟩ := h
    rfl
  · obtain ⟨u, v, w, l, r, wd, ns, rfl, hTa, hT, hL, hR, bl, br, hp, hl, sh, q⟩ := h
    refine ⟨_, (pss_cons (ps_if (pt_not (pt_val (callD Dis_paper (hr.mono (by decide)) (pa_cons (pv 2) (pa_cons pe_str (pa_cons pe_int pa_nil)))))) (pss_one (ps_ret pe_bl)) pss_nil)
      (pss_cons (ps_asg (pe_slice sl_tupB (pv 2) (po_some pe_int) po_none) (pg_tup (by rfl) (pgs_cons (pg_name (i := 3) scapart_holds.nd rfl (.inr rfl)) (pgs_cons (pg_name (i := 4) scapart_holds.nd rfl (.inr rfl)) (pgs_cons (pg_name (i := 5) scapart_holds.nd rfl (.inr rfl)) pgs_nil)))))
      (pss_cons (ps_set (i := 6) scapart_holds.nd rfl (.inl rfl) (pe_allP (s1 := 3) (s2 := 4) (s3 := 5) hr.room (by rfl) T.all TB rfl (pv 0) ⟨rfl, rfl, by decide +kernel, rfl, rfl, rfl, by decide, by decide +kernel, by decide +kernel, by decide +kernel, by decide +kernel, rfl, rfl, rfl, PySem.W.cellsFrom_some _ _ _ (.inl rfl), PySem.W.cellsFrom_some _ _ _ (.inl rfl), PySem.W.cellsFrom_some _ _ _ (.inl rfl)⟩ rfl rfl rfl (elt_below rfl rfl rfl rfl rfl rfl)))
      (pss_one (ps_ret (pe_and (pv 6) (pe_one (pe_allP (s1 := 3) (s2 := 4) (s3 := 5) hr.room (by rfl) T.all TB rfl (pv 1) ⟨rfl, rfl, by decide +kernel, rfl, rfl, rfl, by decide, by decide +kernel, by decide +kernel, by decide +kernel, by decide +kernel, rfl, rfl, rfl, PySem.W.cellsFrom_some _ _ _ (.inl rfl), PySem.W.cellsFrom_some _ _ _ (.inl rfl), PySem.W.cellsFrom_some _ _ _ (.inl rfl)⟩ rfl rfl rfl (elt_above rfl rfl rfl rfl rfl rfl))))))))), ?_⟩
    refine ⟨_, rfl, w, "apart", 3, wd, ns, rfl, hTa, hp, hl, sh, by decide +kernel, fun H1 s1 => ?_⟩
    by_cases hw : wd = "apart" ∧ ns.length = 3
    · obtain ⟨rfl, hn⟩ := hw
      obtain ⟨p, q', t, rfl⟩ : ∃ p q t, ns = [p, q, t] := by
        match ns, hn with
        | [p, q, t], _ => exact ⟨p, q, t, rfl⟩
      obtain ⟨a, rfl, hS⟩ := hp
      refine ⟨true, rfl, iteF ?_⟩
      refine ⟨.ref a, rfl, _, rfl, a, _, rfl, seT s1 hS, fun p1 H2 s2 e2 => ?_⟩
      rw [cut_rest] at e2
      refine ⟨p1, _, rfl, e2, rfl, _, _, rfl, _, _, rfl, _, _, rfl, rfl, ?_⟩
      have S2 := s1.trans s2
      obtain ⟨a1, vs1, rfl, h1, h2⟩ := pts_at hL
      obtain ⟨a2, vs2, rfl, h3, h4⟩ := pts_at hR
      refine ⟨_, rfl, a1, vs1, ptsOf l, p, q', t, rfl, seT S2 h1, h2.map fun _ _ z => z.same S2, rfl, rfl, rfl, cb_of bl _ _ _, S2.tab hT, fun H3 s3 t3 => ?_⟩
      have S3 := S2.trans s3
      have ev : isApart l r "apart" [p, q', t] = ((ptsOf l).all (below p q' t) && (ptsOf r).all (above p q' t)) := by
        show (decide ((("apart" : Str)) = "apart") && _) = _
        rw [decide_eq_true rfl]
        exact Bool.true_and _
      rw [ev] at q
      refine ⟨_, rfl, _, rfl, ite2 (fun e => ?_) (fun e => ?_)⟩
      · refine ⟨_, rfl, a2, vs2, ptsOf r, p, q', t, rfl, seT S3 h3, h4.map fun _ _ z => z.same S3, rfl, rfl, rfl, cb_of br _ _ _, t3, fun H4 s4 t4 => ?_⟩
        have := q H4 (S3.trans s4)
        rw [e, Bool.true_and] at this
        exact this
      · have := q H3 S3
        rw [Bool.eq_false_iff.mpr e, Bool.false_and] at this
        exact this
    · have hv : (decide (wd = "apart") && decide ((ns.length : Int) = 3)) = false := by
        rw [Bool.and_eq_false_iff]
        by_cases h1 : wd = "apart"
        · exact .inr (decide_eq_false fun z => hw ⟨h1, by omega⟩)
        · exact .inl (decide_eq_false h1)
      rw [hv]
      have := q H1 s1
      rw [isApart_not hw] at this
      exact ⟨false, rfl, iteT this⟩

end
end Cl

set_option maxHeartbeats 0
namespace Cl
open PySem PySem.Spec PyProof.Rows L2
open GxR (TabB TabG)


def spMeetS (K : PySem.W.Frag) (P : Addr) : Sp := fun vs H Q _ => ∃ u v w l r wd ns, vs = [u, v, w] ∧ TabG H P ∧ AtL K H u l ∧ AtL K H v r ∧ BdL l ∧ BdL r ∧ Pap K H w wd ns ∧ ns.length ≤ 9 ∧ B190 ns ∧ SeqAt.shaped (.tuple [.str wd]) = true ∧
  (isMeet l r wd ns = false → ∀ H', Same H H' → Q .non H') ∧ (isMeet l r wd ns = true → ∀ a H', Same H H' → SqT K H' a [.int (at3 l (ns.getD 0 0) (ns.getD 1 0)).1, .int (at3 l (ns.getD 0 0) (ns.getD 1 0)).2.1, .int (at3 l (ns.getD 0 0) (ns.getD 1 0)).2.2] → Q (.ref a) H')

section
variable {P : Program} {w : World} {K : PySem.W.Frag} {mg : Str → Option Value} {base : Heap}

theorem okmeets_at {f Pt : Addr} {fd : FuncData} (F : Fun K "meets_at" "meets_at" smeets_at f fd) (T : Bt mg) (Dis_paper : Def P w K mg base 4 "is_paper" ["thing", "word", "many"] (spPaper K Pt)) (Dis_share : Def P w K mg base 1 "is_share" ["k", "m"] spShareQ) (Dspot_at : Def P w K mg base 3 "spot_at" ["line", "k", "m"] (spSpotAt K)) :
    FnG P w K mg base CX0 5 f fd ["one", "other", "thing"] (spMeetS K Pt) := by
  refine okG (k := 4) F scmeets_at (fun vs H Q E h => ?_) (fun cdv A outer s H vs Q E hr h => ?_)
  · obtain ⟨u, v, w, l, r, wd, ns, rfl, _⟩ := h
    rfl
  · obtain ⟨u, v, w, l, r, wd, ns, rfl, hT, hL, hR, bl, br, hp, hl, hb, sh, q1, q2⟩ := h
    refine ⟨_, (pss_cons (ps_if (pt_not (pt_val (callD Dis_paper (hr.mono (by decide)) (pa_cons (pv 2) (pa_cons pe_str (pa_cons pe_int pa_nil)))))) (pss_one (ps_ret pe_non)) pss_nil)
      (pss_cons (ps_asg (pe_slice sl_tupB (pv 2) (po_some pe_int) po_none) (pg_tup (by rfl) (pgs_cons (pg_name (i := 3) scmeets_at.nd rfl (.inl rfl)) (pgs_cons (pg_name (i := 4) scmeets_at.nd rfl (.inl rfl)) (pgs_cons (pg_name (i := 5) scmeets_at.nd rfl (.inl rfl)) (pgs_cons (pg_name (i := 6) scmeets_at.nd rfl (.inl rfl)) pgs_nil))))))
      (pss_cons (ps_if (PW.pt (pw_or (pt_not (pt_val (callD Dis_share (hr.mono (by decide)) (pa_cons (pv 3) (pa_cons (pv 4) pa_nil))))) (pw_or1 (pt_not (pt_val (callD Dis_share (hr.mono (by decide)) (pa_cons (pv 5) (pa_cons (pv 6) pa_nil)))))))) (pss_one (ps_ret pe_non)) pss_nil)
      (pss_cons (ps_set (i := 7) scmeets_at.nd rfl (.inl rfl) (callD Dspot_at (hr.mono (by decide)) (pa_cons (pv 0) (pa_cons (pv 3) (pa_cons (pv 4) pa_nil)))))
      (pss_one (ps_ret (pe_ifExp (pt_cmpR (op_eqD hr.room.units) (pv 7) (callD Dspot_at (hr.mono (by decide)) (pa_cons (pv 1) (pa_cons (pv 5) (pa_cons (pv 6) pa_nil)))) (nomark _)) (pv 7) pe_non))))))), ?_⟩
    refine ⟨_, rfl, w, "meets", 4, wd, ns, rfl, hT, hp, hl, sh, by decide +kernel, fun H1 s1 => ?_⟩
    by_cases hw : wd = "meets" ∧ ns.length = 4
    · obtain ⟨rfl, hn⟩ := hw
      obtain ⟨k, m, k2, n, rfl⟩ : ∃ p q t n, ns = [p, q, t, n] := by
        match ns, hn with
        | [p, q, t, n], _ => exact ⟨p, q, t, n, rfl⟩
      obtain ⟨a, rfl, hS⟩ := hp
      refine ⟨true, rfl, iteF ?_⟩
      refine ⟨.ref a, rfl, _, rfl, a, _, rfl, seT s1 hS, fun p1 H2 s2 e2 => ?_⟩
      rw [cut_rest] at e2
      refine ⟨p1, _, rfl, e2, rfl, _, _, rfl, _, _, rfl, _, _, rfl, _, _, rfl, rfl, ?_⟩
      have S2 := s1.trans s2
      have ev : isMeet l r "meets" [k, m, k2, n] = (shQ k m && (shQ k2 n && decide (at3 l k m = at3 r k2 n))) := by
        show (decide ((("meets" : Str)) = "meets") && _) = _
        rw [decide_eq_true rfl]
        exact Bool.true_and _
      rw [ev] at q1 q2
      refine ⟨_, rfl, _, rfl, k, m, rfl, _, rfl, ?_⟩
      cases h1 : shQ k m with
      | false =>
        rw [h1, Bool.false_and] at q1
        rw [show (decide (1 ≤ m) && (decide (0 ≤ k) && decide (k ≤ m))) = false from h1]
        exact iteT (iteT (q1 rfl H2 S2))
      | true =>
        rw [h1, Bool.true_and] at q1 q2
        rw [show (decide (1 ≤ m) && (decide (0 ≤ k) && decide (k ≤ m))) = true from h1]
        refine iteF ⟨_, rfl, _, rfl, k2, n, rfl, _, rfl, ?_⟩
        cases h2 : shQ k2 n with
        | false =>
          rw [h2, Bool.false_and] at q1
          rw [show (decide (1 ≤ n) && (decide (0 ≤ k2) && decide (k2 ≤ n))) = false from h2]
          exact iteT (q1 rfl H2 S2)
        | true =>
          rw [h2, Bool.true_and] at q1 q2
          rw [show (decide (1 ≤ n) && (decide (0 ≤ k2) && decide (k2 ≤ n))) = true from h2]
          have m1 := (shQ_iff.mp h1).1
          have n1 := (shQ_iff.mp h2).1
          have mb := hb m (by simp)
          have nb := hb n (by simp)
          refine iteF ⟨_, rfl, _, rfl, _, rfl, u, l, k, m, rfl, hL.same S2, bl, by omega, by omega, fun w1 H3 s3 e3 => ?_⟩
          obtain ⟨a1, rfl, g1⟩ := e3
          refine ⟨_, rfl, _, rfl, _, rfl, _, rfl, v, r, k2, n, rfl, hR.same (S2.trans s3), br, by omega, by omega, fun w2 H4 s4 e4 => ?_⟩
          obtain ⟨a2, rfl, g2⟩ := e4
          have g1' := seT s4 g1
          have S4 := S2.trans (s3.trans s4)
          refine ⟨d3 (at3 l k m), d3 (at3 r k2 n), .tup g1' (.cons (.int _) (.cons (.int _) (.cons (.int _) .nil))), .tup g2 (.cons (.int _) (.cons (.int _) (.cons (.int _) .nil))), rfl, rfl, _, rfl, ?_⟩
          rw [eqv_d3]
          refine ite2 (fun e => ?_) (fun e => ?_)
          · exact ⟨_, rfl, q2 e _ H4 S4 g1'⟩
          · exact q1 (Bool.eq_false_iff.mpr e) H4 S4
    · have hv : (decide (wd = "meets") && decide ((ns.length : Int) = 4)) = false := by
        rw [Bool.and_eq_false_iff]
        by_cases h1 : wd = "meets"
        · exact .inr (decide_eq_false fun z => hw ⟨h1, by omega⟩)
        · exact .inl (decide_eq_false h1)
      rw [hv]
      exact ⟨false, rfl, iteT (q1 (isMeet_not hw) H1 s1)⟩

end
end Cl

set_option maxHeartbeats 0
namespace Cl
open PySem PySem.Spec PyProof.Rows L2
open GxR (TabB TabG)


def alB (l r : Ln) : Bool := decide (trn (less l.2 l.1) (less r.1 l.1) = 0) && decide (trn (less l.2 l.1) (less r.2 l.1) = 0)
def spAlong (K : PySem.W.Frag) (P : Addr) : Sp := fun vs H Q _ => ∃ u v l r, vs = [u, v] ∧ TabG H P ∧ AtL K H u l ∧ AtL K H v r ∧ BdL l ∧ ∀ H', Same H H' → Q (.bl (alB l r)) H'
theorem decInt (a : Int) : decide (V.int a = V.int 0) = decide (a = 0) := decide_eq_decide.mpr ⟨V.int.inj, congrArg V.int⟩
theorem sameTab {H H' : Hp} {P : Addr} (s : Same H H') (t : TabG H P) : TabG H' P := s.tab t

section
variable {P : Program} {w : World} {K : PySem.W.Frag} {mg : Str → Option Value} {base : Heap}

theorem okare_along {f c Pt : Addr} {fd : FuncData} (F : Fun K "are_along" "are_along" sare_along f fd) (hc : fd.code = .ref c) (TB : GxR.TabB base mg c Pt) (T : Bt mg) (Dside_of : Def P w K mg base 2 "side_of" ["line", "point"] (spSide K)) :
    FnG P w K mg base CX0 5 f fd ["one", "other"] (spAlong K Pt) := by
  refine okGT (k := 4) F hc scare_along (fun vs H Q E h => ?_) (fun A outer s H vs Q E hr h => ?_)
  · obtain ⟨u, v, l, r, rfl, _⟩ := h
    rfl
  · obtain ⟨u, v, l, r, rfl, hT, hL, ⟨b, x, y, rfl, hS, hx, hy⟩, bl, q⟩ := h
    refine ⟨_, (pss_one (ps_ret (pe_allN (k := 2) (c := c) (P := Pt) hr (by rfl) T.all TB rfl (genK_by (sc := defScope sare_along) (by decide +kernel)) (show ¬ ("point" : Str) ∈ (["one", "other"] : List Str) from by decide) (show ¬ (".0" : Str) ∈ (["one", "other"] : List Str) from by decide) scare_along.nd (pv 1) (fun s1 H1 C code hr2 => pe_cmpR op_eq (callD Dside_of (hr2.mono (by decide)) (pa_cons (pv 1) (pa_cons (pv 0) pa_nil))) pe_int (nomark _))))), ?_⟩
    refine ⟨_, rfl, b, [x, y], fun i => if i = 0 then decide (trn (less l.2 l.1) (less r.1 l.1) = 0) else decide (trn (less l.2 l.1) (less r.2 l.1) = 0), fun i H' => Same H H' ∧ TabG H' Pt, rfl, hS, hT, fun i H' z => seT z.1 hS, fun H2 s2 t2 => ⟨s2, t2⟩, fun i x' H2 hx' z => ?_, fun i H2 hi hb z => ?_, fun H2 hb z => ?_⟩
    · rcases i with _ | _ | i
      · cases hx'
        exact ⟨_, rfl, _, rfl, u, _, l, r.1, rfl, hL.same z.1, hx.same z.1, bl, fun H3 s3 => ⟨rfl, congrArg V.bl (decInt _), z.1.trans s3, s3.tab z.2⟩⟩
      · cases hx'
        exact ⟨_, rfl, _, rfl, u, _, l, r.2, rfl, hL.same z.1, hy.same z.1, bl, fun H3 s3 => ⟨rfl, congrArg V.bl (decInt _), z.1.trans s3, s3.tab z.2⟩⟩
      · simp at hx'
    · have := q H2 z.1
      rw [show alB l r = false from by
        rcases i with _ | _ | i
        · show (decide _ && _) = false
          rw [show decide (trn (less l.2 l.1) (less r.1 l.1) = 0) = false from hb, Bool.false_and]
        · show (_ && decide _) = false
          rw [show decide (trn (less l.2 l.1) (less r.2 l.1) = 0) = false from hb, Bool.and_false]
        · exact absurd hi (by simp)] at this
      exact this
    · have := q H2 z.1
      rw [show alB l r = true from by
        show (decide _ && decide _) = true
        rw [show decide (trn (less l.2 l.1) (less r.1 l.1) = 0) = true from hb 0 (by simp), show decide (trn (less l.2 l.1) (less r.2 l.1) = 0) = true from hb 1 (by simp)]
        rfl] at this
      exact this

end
end Cl

set_option maxHeartbeats 0
namespace Cl
open PySem PySem.Spec PyProof.Rows L2
open GxR (TabB TabG)


def phB (g : Int) (l r : Ln) (c : Int × Int) (wd : Str) (ns : List Int) : Bool :=
  if decide (wd = "along" ∧ ns = []) = true then alB l r
  else if isMeet l r wd ns = true then !decide ((nr (at3 l (ns.getD 0 0) (ns.getD 1 0)).1 ((at3 l (ns.getD 0 0) (ns.getD 1 0)).2.2 * g), nr (at3 l (ns.getD 0 0) (ns.getD 1 0)).2.1 ((at3 l (ns.getD 0 0) (ns.getD 1 0)).2.2 * g)) = c)
  else isApart l r wd ns
def spPairH (K : PySem.W.Frag) (Pw Pa Pl : Addr) : Sp := fun vs H Q _ => ∃ g u v x w l r c wd ns, vs = [.int g, u, v, x, w] ∧ TabG H Pw ∧ TabG H Pa ∧ TabG H Pl ∧ AtL K H u l ∧ AtL K H v r ∧ At2 K H x c ∧ BdL l ∧ BdL r ∧ 0 < g ∧ g < 2 ^ 60 ∧ Pap K H w wd ns ∧ ns.length ≤ 9 ∧ B190 ns ∧ SeqAt.shaped (.tuple [.str wd]) = true ∧
  (isMeet l r wd ns = true → 0 < (at3 l (ns.getD 0 0) (ns.getD 1 0)).2.2 ∧ (at3 l (ns.getD 0 0) (ns.getD 1 0)).2.2 * g < 2 ^ 60) ∧ ∀ H', Same H H' → Q (.bl (phB g l r c wd ns)) H'
theorem eqv_ptH (x y : Pt) : PyData.eqv (pd x) (pd y) = decide (x = y) := by
  show PyData.eqv (.tuple [.int x.1, .int x.2]) (.tuple [.int y.1, .int y.2]) = _
  rw [eqv_pair]
  exact decide_eq_decide.mpr ⟨fun z => Prod.ext z.1 z.2, fun z => by rw [z]; exact ⟨rfl, rfl⟩⟩
theorem lay_ints : ∀ ns : List Int, PyData.canLayAll0 (ns.map PyData.int) = true
  | [] => rfl
  | n :: r => by simp [PyData.canLayAll0, PyData.canLay0, lay_ints r]
theorem dep_ints : ∀ ns : List Int, PyData.depthAll (ns.map PyData.int) = 0
  | [] => rfl
  | n :: r => by simp [PyData.depthAll, PyData.depth, dep_ints r]
theorem shapedPap (wd : Str) (ns : List Int) (h : SeqAt.shaped (.tuple [.str wd]) = true) : SeqAt.shaped (.tuple (.str wd :: ns.map PyData.int)) = true := by
  have h2 := SeqAt.canLay_of_shaped h
  simp [PyData.canLay0, PyData.canLayAll0] at h2
  unfold SeqAt.shaped
  simp [h2, PyData.canLay0, PyData.canLayAll0, lay_ints, PyData.depth, PyData.depthAll, dep_ints]
theorem eqv_along (wd : Str) (ns : List Int) : PyData.eqv (.tuple (.str wd :: ns.map PyData.int)) (.tuple [.str "along"]) = decide (wd = "along" ∧ ns = []) := by
  rw [Bool.eq_iff_iff]
  cases ns <;> simp [PyData.eqv, PyData.eqvAll]
theorem dps_ints {K : PySem.W.Frag} {H : Hp} : ∀ ns : List Int, DpAll K H (ns.map V.int) (ns.map PyData.int)
  | [] => .nil
  | n :: r => .cons (.int n) (dps_ints r)

section
variable {P : Program} {w : World} {K : PySem.W.Frag} {mg : Str → Option Value} {base : Heap}

theorem okpair_holds {f Pw Pa Pl : Addr} {fd : FuncData} (F : Fun K "pair_holds" "pair_holds" spair_holds f fd) (T : Bt mg) (Dare_along : Def P w K mg base 5 "are_along" ["one", "other"] (spAlong K Pl)) (Dmeets_at : Def P w K mg base 5 "meets_at" ["one", "other", "thing"] (spMeetS K Pw)) (Dapart_holds : Def P w K mg base 5 "apart_holds" ["one", "other", "thing"] (spApartQ K Pw Pa)) (Dcorner_at : Def P w K mg base 2 "corner_at" ["grain", "spot"] (spCornerAt K)) :
    FnG P w K mg base CX0 6 f fd ["grain", "one", "other", "corner", "thing"] (spPairH K Pw Pa Pl) := by
  refine okG (k := 5) F scpair_holds (fun vs H Q E h => ?_) (fun cdv A outer s H vs Q E hr h => ?_)
  · obtain ⟨g, u, v, x, w, l, r, c, wd, ns, rfl, _⟩ := h
    rfl
  · obtain ⟨g, u, v, x, w, l, r, c, wd, ns, rfl, hTw, hTa, hTl, hL, hR, hc, bl, br, g0, g1, hp, hl, hb, sh, hm, q⟩ := h
    refine ⟨_, (pss_cons (ps_if (pt_cmpR (op_eqD hr.room.units) (pv 4) (tupN (pa_cons pe_str pa_nil)) (nomark _)) (pss_one (ps_ret (callD Dare_along (hr.mono (by decide)) (pa_cons (pv 1) (pa_cons (pv 2) pa_nil))))) pss_nil)
      (pss_cons (ps_set (i := 5) scpair_holds.nd rfl (.inl rfl) (callD Dmeets_at (hr.mono (by decide)) (pa_cons (pv 1) (pa_cons (pv 2) (pa_cons (pv 4) pa_nil)))))
      (pss_cons (ps_if (pt_cmpR op_isN (pv 5) pe_non (nomark _)) (pss_one (ps_ret (callD Dapart_holds (hr.mono (by decide)) (pa_cons (pv 1) (pa_cons (pv 2) (pa_cons (pv 4) pa_nil)))))) pss_nil)
      (pss_one (ps_ret (pe_cmpR (op_neD hr.room.units) (callD Dcorner_at (hr.mono (by decide)) (pa_cons (pv 0) (pa_cons (pv 5) pa_nil))) (pv 3) (nomark _))))))), ?_⟩
    obtain ⟨a, rfl, hS⟩ := id hp
    refine ⟨_, rfl, (by show 1 ≤ sizeLine; decide), fun p1 H1 n1 s1 e1 => ?_⟩
    refine ⟨.tuple (.str wd :: ns.map PyData.int), .tuple [.str "along"], .tup (seT s1 hS) (.cons (.str _) (dps_ints ns)), .tup (.inl (.inl e1)) (.cons (.str _) .nil), shapedPap wd ns sh, by decide +kernel, _, rfl, ?_⟩
    rw [eqv_along]
    refine ite2 (fun e => ?_) (fun e => ?_)
    · refine ⟨_, rfl, _, rfl, u, v, l, r, rfl, s1.tab hTl, hL.same s1, hR.same s1, bl, fun H2 s2 => ?_⟩
      have := q H2 (s1.trans s2)
      rw [show phB g l r c wd ns = alB l r from by unfold phB; rw [if_pos e]] at this
      exact this
    · refine ⟨_, rfl, _, rfl, _, rfl, u, v, .ref a, l, r, wd, ns, rfl, s1.tab hTw, hL.same s1, hR.same s1, bl, br, ⟨a, rfl, seT s1 hS⟩, hl, hb, sh, fun em H2 s2 => ?_, fun em a2 H2 s2 g2 => ?_⟩
      · have s12 := s1.trans s2
        refine ⟨_, rfl, rfl, _, rfl, ite2 (fun _ => ?_) (fun z => absurd (decide_eq_true rfl) z)⟩
        refine ⟨_, rfl, _, rfl, _, rfl, u, v, .ref a, l, r, wd, ns, rfl, s12.tab hTw, s12.tab hTa, hL.same s12, hR.same s12, bl, br, ⟨a, rfl, seT s12 hS⟩, hl, sh, fun H3 s3 => ?_⟩
        have := q H3 (s12.trans s3)
        rw [show phB g l r c wd ns = isApart l r wd ns from by unfold phB; rw [if_neg e, if_neg (by rw [em]; decide)]] at this
        exact this
      · have s12 := s1.trans s2
        obtain ⟨m1, m2⟩ := hm em
        refine ⟨_, rfl, rfl, _, rfl, ite2 (fun z => absurd (of_decide_eq_true z) (fun y => by cases y)) (fun _ => ?_)⟩
        refine ⟨_, rfl, _, rfl, g, .ref a2, at3 l (ns.getD 0 0) (ns.getD 1 0), rfl, ⟨a2, rfl, g2⟩, g0, g1, m1, m2, fun w3 H3 s3 e3 => ⟨_, rfl, _, _, e3.dp, (hc.same (s12.trans s3)).dp, rfl, rfl, ?_⟩⟩
        rw [eqv_ptH]
        have := q H3 (s12.trans s3)
        rw [show phB g l r c wd ns = _ from by unfold phB; rw [if_neg e, if_pos em]] at this
        exact this

end
end Cl

set_option maxHeartbeats 0
namespace Cl
open PySem PySem.Spec PyProof.Rows L2
open GxR (TabB TabG)


def onB (l : Ln) (p : Int × Int) : Bool := decide (trn (less l.2 l.1) (less p l.1) = 0)
def spAlongL (K : PySem.W.Frag) : Sp := fun vs H Q _ => ∃ u v l r, vs = [u, v] ∧ AtL K H u l ∧ AtL K H v r ∧ BdL l ∧ ∀ H', Same H H' → Q (.bl (alB l r)) H'

section
variable {P : Program} {w : World} {K : PySem.W.Frag} {mg : Str → Option Value} {base : Heap}

theorem ok_law_is_along {f : Addr} {fd : FuncData} (F : Fun K "_law_is_along" "_law_is_along" s_law_is_along f fd) (T : Bt mg) (D_law_less : Def P w K mg base 1 "_law_less" ["_law_one", "_law_other"] (spLess K)) (D_law_turn : Def P w K mg base 1 "_law_turn" ["_law_one", "_law_other"] (spTurn K)) :
    FnG P w K mg base CX0 2 f fd ["_law_one", "_law_other"] (spAlongL K) := by
  refine okG (k := 1) F sc_law_is_along (fun vs H Q E h => ?_) (fun cdv A outer s H vs Q E hr h => ?_)
  · obtain ⟨u, v, l, r, rfl, _⟩ := h
    rfl
  · obtain ⟨u, v, l, r, rfl, hL, ⟨b, x, y, rfl, hS, hx, hy⟩, bl, q⟩ := h
    refine ⟨_, (pss_cons (ps_set (i := 2) sc_law_is_along.nd rfl (.inr rfl) (callD D_law_less (hr.mono (by decide)) (pa_cons (pe_ix ix_tup (pv 0) pe_int (fun _ _ => rfl)) (pa_cons (pe_ix ix_tup (pv 0) pe_int (fun _ _ => rfl)) pa_nil))))
      (pss_one (ps_ret (pe_cmpR (op_eqNil hr.room.units) (pe_lc (own := [("_law_point_here", 3)]) (g := gName 3) (by rfl) sc_law_is_along.nd (pi_tup (pv 1)) (blkOk_by (own := [("_law_point_here", 3)]) (N := ["_law_one", "_law_other", "_law_way", "_law_point_here"]) (sc := defScope s_law_is_along) (by decide +kernel)) (fun _ _ _ _ _ => (pg_name (i := 3) sc_law_is_along.nd rfl (.inl rfl))) (fun _ _ _ _ _ => (pts_one (pt_cmpR op_ne (callD D_law_turn (hr.mono (by decide)) (pa_cons (pv 2) (pa_cons (callD D_law_less (hr.mono (by decide)) (pa_cons (pv 3) (pa_cons (pe_ix (ix_tupk (K := K) rfl) (pv 0) pe_int (fun _ _ => rfl)) pa_nil))) pa_nil))) pe_int (nomark _)))) (fun _ _ _ _ _ => (pv 3))) (lstN pa_nil) (nomark _))))), ?_⟩
    obtain ⟨a, u1, u2, rfl, hS1, h1, h2⟩ := id hL
    refine ⟨_, rfl, a, _, 1, u2, rfl, rfl, hS1, rfl, _, rfl, a, _, 0, u1, rfl, rfl, hS1, rfl, u2, u1, l.2, l.1, rfl, h2, h1, fun w H1 s1 hw => ?_⟩
    refine ⟨_, rfl, b, rfl, ⟨_, seT s1 hS⟩, fun pD nD => ?_⟩
    refine lcT (K := K) (a := b) (xs := [x, y]) (fun i H' => Same H1 H' ∧ ∃ ws, H' pD = some (.lst ws) ∧ ws.length ≤ i ∧ ws.isEmpty = ([r.1, r.2].take i).all (onB l)) nD (fun H' e1 e2 => ⟨e1, [], e2, Nat.le_refl _, rfl⟩) (fun i H' _ z => seT (s1.trans z.1) hS) (fun i x' H' hx' z => ?_) (fun H5 z => ?_)
    · obtain ⟨z1, ws, z2, z3, z4⟩ := z
      have S1 := s1.trans z1
      obtain ⟨p, ep, hp⟩ : ∃ p, [r.1, r.2][i]? = some p ∧ At2 K H' x' p := by
        rcases i with _ | _ | i
        · cases hx'
          exact ⟨_, rfl, hx.same S1⟩
        · cases hx'
          exact ⟨_, rfl, hy.same S1⟩
        · simp at hx'
      have hi : i < 2 := (List.getElem?_eq_some_iff.mp ep).1
      have tk : ([r.1, r.2].take (i + 1)).all (onB l) = (([r.1, r.2].take i).all (onB l) && onB l p) := by
        rw [List.take_add_one, ep, List.all_append]
        simp
      refine ⟨rfl, _, rfl, _, rfl, _, rfl, a, _, 0, u1, rfl, rfl, seT S1 hS1, rfl, x', u1, p, l.1, rfl, hp, h1.same S1, fun w3 H3 s3 hw3 => ⟨w, w3, _, _, rfl, hw.same (z1.trans s3), hw3, bd_less bl.2 bl.1, rfl, _, rfl, ?_⟩⟩
      have z13 := z1.trans s3
      by_cases e : trn (less l.2 l.1) (less p l.1) = 0
      · have ho : onB l p = true := decide_eq_true e
        refine ite2 (fun z => absurd z (by rw [e]; decide)) (fun _ => ⟨z13, ws, s3 _ _ z2, by omega, ?_⟩)
        rw [tk, ho, z4, Bool.and_true]
      · have ho : onB l p = false := decide_eq_false e
        obtain ⟨acc, a1, a2, a3, a4⟩ := acc_new (y := x') nD z13 (s3 _ _ z2) (by omega)
        refine ite2 (fun _ => ⟨_, rfl, acc, a1, a2, a3, _, a4, by simp; omega, ?_⟩) (fun z => absurd (by simp [e]) z)
        rw [tk, ho, Bool.and_false]
        simp
    · obtain ⟨z1, ws, z2, z3, z4⟩ := z
      refine ⟨Nat.zero_le _, fun p6 H6 n6 s6 g6 => ⟨pD, p6, _, rfl, rfl, .inl (.inl (s6 _ _ z2)), .inl (.inl g6), ?_⟩⟩
      have := q H6 (s1.trans (z1.trans s6))
      rw [z4]
      rw [show alB l r = ([r.1, r.2].take [x, y].length).all (onB l) from by show (_ && _) = (_ && (_ && true)); rw [Bool.and_true]; rfl] at this
      exact this

end
end Cl

set_option maxHeartbeats 0
namespace Cl
open PySem PySem.Spec PyProof.Rows L2
open GxR (TabB TabG)


def cri (p : Int × Int) (i : Int) : Int := if i = 0 then p.1 else p.2
def spNumAt (K : PySem.W.Frag) : Sp := fun vs H Q _ => ∃ v l k m i, vs = [v, .int k, .int m, .int i] ∧ AtL K H v l ∧ BdL l ∧ (i = 0 ∨ i = 1) ∧ Q (.int (cri l.1 i * m + k * (cri l.2 i - cri l.1 i))) H
def spLPap (K : PySem.W.Frag) : Sp := fun vs H Q _ => ∃ u v w l r wd ns, vs = [u, v, w] ∧ AtL K H u l ∧ AtL K H v r ∧ BdL l ∧ BdL r ∧ Pap K H w wd ns ∧ ns.length ≤ 9 ∧ B190 ns ∧ SeqAt.shaped (.tuple [.str wd]) = true ∧
  ∀ H', Same H H' → Q (.bl (isApart l r wd ns || isMeet l r wd ns)) H'
theorem accI {α : Type} {H0 H' : Hp} {pD : Addr} {ps : List α} {F : α → Int} {i : Nat} {pt : α} (nD : H0 pD = none) (t1 : Same H0 H') (e : H' pD = some (.lst (((ps.take i).map F).map V.int))) (hp : ps[i]? = some pt) (len : ps.length ≤ 900) :
    ∃ acc, H' pD = some (.lst acc) ∧ acc.length < sizeLine ∧ Same H0 (upd H' pD (.lst (acc ++ [V.int (F pt)]))) ∧ (upd H' pD (.lst (acc ++ [V.int (F pt)]))) pD = some (.lst (((ps.take (i + 1)).map F).map V.int)) := by
  obtain ⟨acc, a1, a2, a3, a4⟩ := acc_new (y := V.int (F pt)) nD t1 e (by rw [List.length_map, List.length_map, List.length_take]; omega)
  refine ⟨acc, a1, a2, a3, ?_⟩
  rw [a4, List.take_add_one, hp, List.map_append, List.map_append]
  rfl
theorem cri_lt {l : Ln} (b : BdL l) (i : Int) : (-(2 ^ 40) < cri l.1 i ∧ cri l.1 i < 2 ^ 40) ∧ -(2 ^ 40) < cri l.2 i ∧ cri l.2 i < 2 ^ 40 := by
  obtain ⟨⟨⟨x1, x2⟩, x3, x4⟩, ⟨y1, y2⟩, y3, y4⟩ := b
  unfold cri
  split <;> exact ⟨⟨by omega, by omega⟩, by omega, by omega⟩
theorem at_cri {i : Int} {p : Int × Int} (h : i = 0 ∨ i = 1) : atI [V.int p.1, .int p.2] i = some (.int (cri p i)) := by
  rcases h with rfl | rfl <;> rfl
theorem numB {x y k m : Int} (hx : -(2 ^ 40) < x ∧ x < 2 ^ 40) (hy : -(2 ^ 40) < y ∧ y < 2 ^ 40) (hk : k.natAbs < 2 ^ 190) (hm : m.natAbs < 2 ^ 190) : (x * m + k * (y - x)).natAbs < 2 ^ 240 := by
  have a := Int.natAbs_add_le (x * m) (k * (y - x))
  rw [Int.natAbs_mul, Int.natAbs_mul] at a
  have b1 : x.natAbs * m.natAbs ≤ 2 ^ 40 * 2 ^ 190 := Nat.mul_le_mul (by omega) (by omega)
  have b2 : k.natAbs * (y - x).natAbs ≤ 2 ^ 190 * 2 ^ 41 := Nat.mul_le_mul (by omega) (by omega)
  omega
theorem eqv_00 (a b : Int) : PyData.eqv (.list [.int a, .int b]) (.list [.int 0, .int 0]) = (decide (a = 0) && decide (b = 0)) := by
  rw [Bool.eq_iff_iff]
  simp [PyData.eqv, PyData.eqvAll]
/-- the two spots are one just where the numbers agree -/
theorem sp3_eq {a b m c d n : Int} (hm : 0 < m) (hn : 0 < n) : sp3 a b m = sp3 c d n ↔ a * n - c * m = 0 ∧ b * n - d * m = 0 := by
  have key : ∀ {a b m c d n : Int}, 0 < m → 0 < n → sp3 a b m = sp3 c d n → a * n - c * m = 0 ∧ b * n - d * m = 0 := by
    intro a b m c d n hm hn h
    obtain ⟨p, hp, e1, e2, e3, e4, _⟩ := spot_pos (n := a) (m := b) hm
    obtain ⟨p', hp', f1, f2, f3, f4, _⟩ := spot_pos (n := c) (m := d) hn
    unfold sp3 at h
    obtain ⟨g1, g23⟩ := Prod.mk.inj h
    obtain ⟨g2, g3⟩ := Prod.mk.inj g23
    rw [← g1] at f1
    rw [← g2] at f2
    rw [← g3] at f3
    generalize a / spP a b m = x at *
    generalize b / spP a b m = y at *
    generalize m / spP a b m = z at *
    subst e1 e2 e3 f1 f2 f3
    constructor <;> grind
  constructor
  · exact key hm hn
  · rintro ⟨h1, h2⟩
    have e1 : a * n = c * m := by omega
    have e2 : b * n = d * m := by omega
    have := sp3_scale (n := a) (m := b) (d := m) (t := n) hn hm
    rw [e1, e2, Int.mul_comm m n] at this
    rw [← this, sp3_scale hm hn]
theorem at3_eq {l r : Ln} {k m k2 n : Int} (hm : 0 < m) (hn : 0 < n) : decide (at3 l k m = at3 r k2 n) =
    (decide ((cri l.1 0 * m + k * (cri l.2 0 - cri l.1 0)) * n - (cri r.1 0 * n + k2 * (cri r.2 0 - cri r.1 0)) * m = 0) && decide ((cri l.1 1 * m + k * (cri l.2 1 - cri l.1 1)) * n - (cri r.1 1 * n + k2 * (cri r.2 1 - cri r.1 1)) * m = 0)) := by
  rw [Bool.eq_iff_iff, Bool.and_eq_true]
  simp only [decide_eq_true_iff]
  unfold at3
  rw [sp3_eq hm hn]
  simp only [cri, if_true, show ((1 : Int) = 0) = False from by simp, if_false]
  rw [Int.mul_comm m l.1.1, Int.mul_comm m l.1.2, Int.mul_comm n r.1.1, Int.mul_comm n r.1.2]

section
variable {P : Program} {w : World} {K : PySem.W.Frag} {mg : Str → Option Value} {base : Heap}

theorem ok_law_is_whole {f : Addr} {fd : FuncData} (F : Fun K "_law_is_whole" "_law_is_whole" s_law_is_whole f fd) (T : Bt mg) :
    FnG P w K mg base CX0 1 f fd ["_law_thing"] (spWhole K) := by
  refine okG (k := 0) F sc_law_is_whole (fun vs H Q E h => ?_) (fun cdv A outer s H vs Q E hr h => ?_)
  · obtain ⟨v, T, rfl, _⟩ := h
    rfl
  · obtain ⟨v, U, rfl, hk, q⟩ := h
    refine ⟨_, (pss_one (ps_ret (pe_and (pe_callB call_isi (by rfl) T.isinstance (by decide +kernel) (pa_cons (pv 0) (pa_cons (pe_bltn (v := .ty "int") (by rfl) T.int (by decide +kernel) rfl) pa_nil))) (pe_one (pe_not (pe_callB call_isi (by rfl) T.isinstance (by decide +kernel) (pa_cons (pv 0) (pa_cons (pe_bltn (v := .ty "bool") (by rfl) T.bool (by decide +kernel) rfl) pa_nil)))))))), ?_⟩
    refine ⟨_, rfl, _, _, _, _, _, rfl, .ty _, hk.ty, kit_ty hk.int?, _, rfl, ?_⟩
    cases hb : isB v with
    | true =>
      have e : (isI v || true) = true := by cases isI v <;> rfl
      rw [e]
      refine iteT ⟨_, rfl, _, _, _, _, _, rfl, .ty _, hk.ty, kit_ty hk.bool?, _, rfl, ?_⟩
      rw [hb]
      have e2 : isI v = false := by cases v <;> first | rfl | cases hb
      rw [e2] at q
      exact q
    | false =>
      rw [Bool.or_false]
      cases hi : isI v with
      | false =>
        rw [hi] at q
        exact iteF q
      | true =>
        rw [hi] at q
        refine iteT ⟨_, rfl, _, _, _, _, _, rfl, .ty _, hk.ty, kit_ty hk.bool?, _, rfl, ?_⟩
        rw [hb]
        exact q

theorem ok_law_number_at {f : Addr} {fd : FuncData} (F : Fun K "_law_number_at" "_law_number_at" s_law_number_at f fd) (T : Bt mg) :
    FnG P w K mg base CX0 1 f fd ["_law_line_here", "_law_k", "_law_m", "_law_at"] (spNumAt K) := by
  refine okG (k := 0) F sc_law_number_at (fun vs H Q E h => ?_) (fun cdv A outer s H vs Q E hr h => ?_)
  · obtain ⟨v, l, k, m, i, rfl, _⟩ := h
    rfl
  · obtain ⟨v, l, k, m, i, rfl, hL, bl, hi, q⟩ := h
    refine ⟨_, (pss_one (ps_ret (pe_op op_add (pe_op op_mul (pe_ix ix_tup (pe_ix ix_tup (pv 0) pe_int (fun _ _ => rfl)) (pv 3) (fun _ _ => rfl)) (pv 2)) (pe_op op_mul (pv 1) (pe_op op_sub (pe_ix ix_tup (pe_ix ix_tup (pv 0) pe_int (fun _ _ => rfl)) (pv 3) (fun _ _ => rfl)) (pe_ix ix_tup (pe_ix ix_tup (pv 0) pe_int (fun _ _ => rfl)) (pv 3) (fun _ _ => rfl))))))), ?_⟩
    obtain ⟨a, u, w, rfl, hS, ⟨b, rfl, hb⟩, ⟨c, rfl, hc⟩⟩ := hL
    obtain ⟨c1, c2⟩ := cri_lt bl i
    refine ⟨_, rfl, a, _, 0, _, rfl, rfl, hS, rfl, _, rfl, b, _, i, _, rfl, rfl, hb, at_cri hi, _, rfl, _, _, rfl, rfl, .inl (by omega), _, rfl, _, rfl, a, _, 1, _, rfl, rfl, hS, rfl, _, rfl, c, _, i, _, rfl, rfl, hc, at_cri hi, ?_⟩
    exact ⟨_, rfl, a, _, 0, _, rfl, rfl, hS, rfl, _, rfl, b, _, i, _, rfl, rfl, hb, at_cri hi, _, _, rfl, rfl, _, _, rfl, rfl, .inr (by omega), _, _, rfl, rfl, q⟩

end
end Cl

set_option maxHeartbeats 0
namespace Cl
open PySem PySem.Spec PyProof.Rows L2
open GxR (TabB TabG)

section
variable {P : Program} {w : World} {K : PySem.W.Frag} {mg : Str → Option Value} {base : Heap}

theorem ok_law_is_paper {f : Addr} {fd : FuncData} (F : Fun K "_law_is_paper" "_law_is_paper" s_law_is_paper f fd) (T : Bt mg) (D_law_is_whole : Def P w K mg base 1 "_law_is_whole" ["_law_thing"] (spWhole K)) (D_law_number_at : Def P w K mg base 1 "_law_number_at" ["_law_line_here", "_law_k", "_law_m", "_law_at"] (spNumAt K)) :
    FnG P w K mg base CX0 2 f fd ["_law_one", "_law_other", "_law_thing"] (spLPap K) := by
  refine okG (k := 1) F sc_law_is_paper (fun vs H Q E h => ?_) (fun cdv A outer s H vs Q E hr h => ?_)
  · obtain ⟨u, v, w, l, r, wd, ns, rfl, _⟩ := h
    rfl
  · obtain ⟨u, v, w, l, r, wd, ns, rfl, hL, hR, bl, br, hp, hl, hb, sh, q⟩ := h
    refine ⟨_, (pss_cons (ps_if (PW.pt (pw_or (pt_not (pt_val (pe_callB call_isi (by rfl) T.isinstance (by decide +kernel) (pa_cons (pv 2) (pa_cons (pe_bltn (v := .ty "tuple") (by rfl) T.tuple (by decide +kernel) rfl) pa_nil))))) (pw_or (pt_cmpR (op_eqTNil hr.room.units) (pv 2) (tupN pa_nil) (nomark _)) (pw_or1 (pt_not (pt_val (pe_callB call_isi (by rfl) T.isinstance (by decide +kernel) (pa_cons (pe_ix ix_tup (pv 2) pe_int (fun _ _ => rfl)) (pa_cons (pe_bltn (v := .ty "str") (by rfl) T.str (by decide +kernel) rfl) pa_nil))))))))) (pss_one (ps_ret pe_bl)) pss_nil)
      (pss_cons (ps_if (pt_cmpR (op_neD hr.room.units) (pe_lc (own := [("_law_part", 3)]) (g := gName 3) (by rfl) sc_law_is_paper.nd (pi_tup (pe_slice sl_tupB (pv 2) (po_some pe_int) po_none)) (blkOk_by (own := [("_law_part", 3)]) (N := ["_law_one", "_law_other", "_law_thing", "_law_part", "_law_here", "_law_x", "_law_y", "_law_there", "_law_k", "_law_m", "_law_l", "_law_n", "_law_at"]) (sc := defScope s_law_is_paper) (by decide +kernel)) (fun _ _ _ _ _ => (pg_name (i := 3) sc_law_is_paper.nd rfl (.inl rfl))) (fun _ _ _ _ _ => (pts_one (pt_not (pt_val (callD D_law_is_whole (hr.mono (by decide)) (pa_cons (pv 3) pa_nil)))))) (fun _ _ _ _ _ => (pv 3))) (lstN pa_nil) (nomark _)) (pss_one (ps_ret pe_bl)) pss_nil)
      (pss_cons (ps_if (PW.pt (pw_and (pt_cmpR op_eq (pe_ix ix_tup (pv 2) pe_int (fun _ _ => rfl)) pe_str (nomark _)) (pw_and1 (pt_cmpR op_eq (pe_callB call_len_seq (by rfl) T.len (by decide +kernel) (pa_cons (pv 2) pa_nil)) pe_int (nomark _))))) (pss_cons (ps_setLc (i := 4) (own := [("_law_x", 5), ("_law_y", 6)]) (g := gTup K 2 (gCons (gName 5) (gCons (gName 6) gNil))) (tt := tYes) (by rfl) sc_law_is_paper.nd rfl rfl (sw_true rfl rfl rfl (by decide +kernel)) (pi_tup (pv 0)) (blkOk_by (own := [("_law_x", 5), ("_law_y", 6)]) (N := ["_law_one", "_law_other", "_law_thing", "_law_part", "_law_here", "_law_x", "_law_y", "_law_there", "_law_k", "_law_m", "_law_l", "_law_n", "_law_at"]) (sc := defScope s_law_is_paper) (by decide +kernel)) (fun _ _ _ _ _ => (pg_tup (by rfl) (pgs_cons (pg_name (i := 5) sc_law_is_paper.nd rfl (.inl rfl)) (pgs_cons (pg_name (i := 6) sc_law_is_paper.nd rfl (.inl rfl)) pgs_nil)))) (fun _ _ _ _ _ => pts_nil) (fun _ _ _ _ _ => (pe_op op_add (pe_op op_mul (pe_ix (ix_tupk (K := K) rfl) (pv 2) pe_int (fun _ _ => rfl)) (pv 5)) (pe_op op_mul (pe_ix (ix_tupk (K := K) rfl) (pv 2) pe_int (fun _ _ => rfl)) (pv 6)))))
      (pss_cons (ps_setLc (i := 7) (own := [("_law_x", 5), ("_law_y", 6)]) (g := gTup K 2 (gCons (gName 5) (gCons (gName 6) gNil))) (tt := tYes) (by rfl) sc_law_is_paper.nd rfl rfl (sw_true rfl rfl rfl (by decide +kernel)) (pi_tup (pv 1)) (blkOk_by (own := [("_law_x", 5), ("_law_y", 6)]) (N := ["_law_one", "_law_other", "_law_thing", "_law_part", "_law_here", "_law_x", "_law_y", "_law_there", "_law_k", "_law_m", "_law_l", "_law_n", "_law_at"]) (sc := defScope s_law_is_paper) (by decide +kernel)) (fun _ _ _ _ _ => (pg_tup (by rfl) (pgs_cons (pg_name (i := 5) sc_law_is_paper.nd rfl (.inl rfl)) (pgs_cons (pg_name (i := 6) sc_law_is_paper.nd rfl (.inl rfl)) pgs_nil)))) (fun _ _ _ _ _ => pts_nil) (fun _ _ _ _ _ => (pe_op op_add (pe_op op_mul (pe_ix (ix_tupk (K := K) rfl) (pv 2) pe_int (fun _ _ => rfl)) (pv 5)) (pe_op op_mul (pe_ix (ix_tupk (K := K) rfl) (pv 2) pe_int (fun _ _ => rfl)) (pv 6)))))
      (pss_one (ps_ret (pe_chain op_lt op_lt (pe_callB (cr_max rfl) (by rfl) T.max (by decide +kernel) (pa_cons (pv 4) pa_nil)) (pe_ix ix_tup (pv 2) pe_int (fun _ _ => rfl)) (pe_callB (cr_min rfl) (by rfl) T.min (by decide +kernel) (pa_cons (pv 7) pa_nil))))))) pss_nil)
      (pss_cons (ps_if (PW.pt (pw_or (pt_cmpR op_ne (pe_ix ix_tup (pv 2) pe_int (fun _ _ => rfl)) pe_str (nomark _)) (pw_or1 (pt_cmpR op_ne (pe_callB call_len_seq (by rfl) T.len (by decide +kernel) (pa_cons (pv 2) pa_nil)) pe_int (nomark _))))) (pss_one (ps_ret pe_bl)) pss_nil)
      (pss_cons (ps_asg (pe_slice sl_tupB (pv 2) (po_some pe_int) po_none) (pg_tup (by rfl) (pgs_cons (pg_name (i := 8) sc_law_is_paper.nd rfl (.inr rfl)) (pgs_cons (pg_name (i := 9) sc_law_is_paper.nd rfl (.inr rfl)) (pgs_cons (pg_name (i := 10) sc_law_is_paper.nd rfl (.inr rfl)) (pgs_cons (pg_name (i := 11) sc_law_is_paper.nd rfl (.inr rfl)) pgs_nil))))))
      (pss_cons (ps_if (PW.pt (pw_or (pt_cmpR op_lt (pv 9) pe_int (nomark _)) (pw_or (pt_cmpR op_lt (pv 11) pe_int (nomark _)) (pw_or (pt_not (pt_chain op_le op_le pe_int (pv 8) (pv 9))) (pw_or1 (pt_not (pt_chain op_le op_le pe_int (pv 10) (pv 11)))))))) (pss_one (ps_ret pe_bl)) pss_nil)
      (pss_one (ps_ret (pe_cmpR (op_eqD hr.room.units) (pe_lc (own := [("_law_at", 12)]) (g := gName 12) (tt := tYes) (by rfl) sc_law_is_paper.nd (pi_tup (tupN (pa_cons pe_int (pa_cons pe_int pa_nil)))) (blkOk_by (own := [("_law_at", 12)]) (N := ["_law_one", "_law_other", "_law_thing", "_law_part", "_law_here", "_law_x", "_law_y", "_law_there", "_law_k", "_law_m", "_law_l", "_law_n", "_law_at"]) (sc := defScope s_law_is_paper) (by decide +kernel)) (fun _ _ _ _ _ => (pg_name (i := 12) sc_law_is_paper.nd rfl (.inl rfl))) (fun _ _ _ _ _ => pts_nil) (fun _ _ _ _ _ => (pe_op op_sub (pe_op op_mulW (callD D_law_number_at (hr.mono (by decide)) (pa_cons (pv 0) (pa_cons (pv 8) (pa_cons (pv 9) (pa_cons (pv 12) pa_nil))))) (pv 11)) (pe_op op_mulW (callD D_law_number_at (hr.mono (by decide)) (pa_cons (pv 1) (pa_cons (pv 10) (pa_cons (pv 11) (pa_cons (pv 12) pa_nil))))) (pv 9))))) (lstN (pa_cons pe_int (pa_cons pe_int pa_nil))) (nomark _)))))))))), ?_⟩
    obtain ⟨a, rfl, hS⟩ := hp
    refine ⟨_, rfl, _, _, _, _, _, rfl, .ty _, (Kd.tup hS).ty, kit_ty (Kd.tup hS).tuple?, _, rfl, iteF ?_⟩
    refine ⟨_, rfl, Nat.zero_le _, fun p1 H1 n1 s1 e1 => ?_⟩
    refine ⟨a, p1, _, rfl, rfl, seT s1 hS, .inl (.inl e1), _, rfl, iteF ?_⟩
    have kS : Kd K H1 (.str wd) "str" := .str wd
    refine ⟨_, rfl, a, _, 0, _, rfl, rfl, seT s1 hS, atI_nat (j := 0) rfl, _, _, _, _, _, rfl, .ty _, kS.ty, kit_ty kS.str?, _, rfl, iteF ?_⟩
    refine ⟨.ref a, rfl, _, rfl, a, _, rfl, seT s1 hS, fun p2 H2 s2 e2 => ?_⟩
    rw [cut_rest] at e2
    refine ⟨p2, rfl, ⟨_, e2⟩, fun pD nD => ?_⟩
    refine lcT (K := K) (a := p2) (xs := ns.map V.int) (fun i H' => Same H2 H' ∧ H' pD = some (.lst [])) nD (fun H' e1 e2 => ⟨e1, e2⟩) (fun i H' _ z => seT z.1 e2) (fun i x H' hx z => ?_) (fun H5 z => ?_)
    · obtain ⟨k, _, rfl⟩ := List.mem_map.mp (List.mem_of_getElem? hx)
      exact ⟨rfl, _, rfl, .int k, _, rfl, .int k, _, rfl, iteF z⟩
    refine ⟨Nat.zero_le _, fun p6 H6 n6 s6 g6 => ⟨.list [], .list [], .lst (.inl (.inl (s6 _ _ z.2))) .nil, .lst (.inl (.inl g6)) .nil, rfl, rfl, _, rfl, iteF ?_⟩⟩
    have S6 := s1.trans (s2.trans (z.1.trans s6))
    have hS6 := seT S6 hS
    have hL6 := hL.same S6
    have hR6 := hR.same S6
    clear hS hL hR z e2 s6 nD
    have hw0 : ∀ b : Str, decide (V.str wd = V.str b) = decide (wd = b) := fun b => decide_eq_decide.mpr ⟨V.str.inj, congrArg _⟩
    have hlen : ∀ k : Nat, decide (V.int (((V.str wd :: ns.map V.int).length : Nat) : Int) = V.int ((k + 1 : Nat) : Int)) = decide (ns.length = k) := fun k => decide_eq_decide.mpr ⟨fun h => by have := V.int.inj h; simp at this; omega, fun h => by rw [List.length_cons, List.length_map, h]⟩
    obtain ⟨a1, vs1, rfl, h1, h2⟩ := pts_at hL6
    obtain ⟨a2, vs2, rfl, h3, h4⟩ := pts_at hR6
    refine ⟨_, rfl, a, _, 0, _, rfl, rfl, hS6, atI_nat (j := 0) rfl, rfl, _, rfl, ite2 (fun e => ?_) (fun e => ?_)⟩
    · have hwd : wd = "apart" := V.str.inj (of_decide_eq_true e)
      refine ⟨_, rfl, a, _, rfl, .inr hS6, rfl, _, rfl, ite2 (fun e2 => ?_) (fun e2 => ?_)⟩
      · have hn : ns.length = 3 := of_decide_eq_true ((hlen 3).symm.trans e2)
        obtain ⟨p, q', t, rfl⟩ : ∃ p q t, ns = [p, q, t] := by
          match ns, hn with
          | [p, q, t], _ => exact ⟨p, q, t, rfl⟩
        refine ⟨_, rfl, a1, rfl, ⟨_, h1⟩, fun pD nD => ?_⟩
        refine lcT (K := K) (a := a1) (xs := vs1) (fun i H' => Same H6 H' ∧ H' pD = some (.lst ((((ptsOf l).take i).map (fun z => p * z.1 + q' * z.2)).map V.int))) nD (fun H' e1 e2 => ⟨e1, e2⟩) (fun i H' _ z => seT z.1 h1) (fun i z H' hz w => ?_) (fun H7 z => ?_)
        · obtain ⟨t1, t2⟩ := w
          obtain ⟨pt, hpt, b, rfl, hb⟩ := h2.get hz
          have hpm := List.mem_of_getElem? hpt
          refine ⟨b, _, rfl, seT t1 hb, rfl, _, _, rfl, _, _, rfl, rfl, rfl, ?_⟩
          obtain ⟨acc, a1, a2, a3, a4⟩ := accI (F := (fun z => p * z.1 + q' * z.2)) nD t1 t2 hpt (by simp [ptsOf])
          exact ⟨_, rfl, a, _, 1, _, rfl, rfl, seT t1 hS6, atI_nat (j := 1) rfl, _, rfl, _, _, rfl, rfl, .inr ((cb_of bl 0 0 0 _ hpm).1), _, rfl, a, _, 2, _, rfl, rfl, seT t1 hS6, atI_nat (j := 2) rfl, _, rfl, _, _, rfl, rfl, .inr ((cb_of bl 0 0 0 _ hpm).2), _, _, rfl, rfl, acc, a1, a2, a3, a4⟩
        obtain ⟨z1, z2⟩ := z
        have z2 : H7 pD = some (.lst [.int (p * l.1.1 + q' * l.1.2), .int (p * l.2.1 + q' * l.2.2)]) := by
          rw [List.take_of_length_le (by rw [h2.length]; exact Nat.le_refl _)] at z2
          exact z2
        refine ⟨_, rfl, a2, rfl, ⟨_, seT z1 h3⟩, fun pE nE => ?_⟩
        refine lcT (K := K) (a := a2) (xs := vs2) (fun i H' => Same H7 H' ∧ H' pE = some (.lst ((((ptsOf r).take i).map (fun z => p * z.1 + q' * z.2)).map V.int))) nE (fun H' e1 e2 => ⟨e1, e2⟩) (fun i H' _ z => seT z.1 (seT z1 h3)) (fun i z H' hz w => ?_) (fun H8 z => ?_)
        · obtain ⟨t1, t2⟩ := w
          obtain ⟨pt, hpt, b, rfl, hb⟩ := (h4.map fun _ _ z => z.same z1).get hz
          have hpm := List.mem_of_getElem? hpt
          refine ⟨b, _, rfl, seT t1 hb, rfl, _, _, rfl, _, _, rfl, rfl, rfl, ?_⟩
          obtain ⟨acc, a1, a2, a3, a4⟩ := accI (F := (fun z => p * z.1 + q' * z.2)) nE t1 t2 hpt (by simp [ptsOf])
          exact ⟨_, rfl, a, _, 1, _, rfl, rfl, seT (z1.trans t1) hS6, atI_nat (j := 1) rfl, _, rfl, _, _, rfl, rfl, .inr ((cb_of br 0 0 0 _ hpm).1), _, rfl, a, _, 2, _, rfl, rfl, seT (z1.trans t1) hS6, atI_nat (j := 2) rfl, _, rfl, _, _, rfl, rfl, .inr ((cb_of br 0 0 0 _ hpm).2), _, _, rfl, rfl, acc, a1, a2, a3, a4⟩
        obtain ⟨y1, y2⟩ := z
        have y2 : H8 pE = some (.lst [.int (p * r.1.1 + q' * r.1.2), .int (p * r.2.1 + q' * r.2.2)]) := by
          rw [List.take_of_length_le (by rw [h4.length]; exact Nat.le_refl _)] at y2
          exact y2
        have ev : (isApart l r wd [p, q', t] || isMeet l r wd [p, q', t]) = ((decide (p * l.1.1 + q' * l.1.2 < t) && decide (p * l.2.1 + q' * l.2.2 < t)) && (decide (t < p * r.1.1 + q' * r.1.2) && decide (t < p * r.2.1 + q' * r.2.2))) := by
          show ((decide (wd = "apart") && ((ptsOf l).all (below p q' t) && (ptsOf r).all (above p q' t))) || false) = _
          rw [decide_eq_true hwd, Bool.or_false, Bool.true_and]
          simp [ptsOf, below, above]
        rw [ev] at q
        have S8 := S6.trans (z1.trans y1)
        refine ⟨_, rfl, pD, [_, _], rfl, .inl (.inl (y1 _ _ z2)), by simp, fun m hm1 hm2 => ?_⟩
        refine ⟨_, rfl, a, _, 3, _, rfl, rfl, seT (z1.trans y1) hS6, atI_nat (j := 3) rfl, _, _, rfl, rfl, _, rfl, ite2 (fun e3 => ?_) (fun e3 => ?_)⟩
        · have e3 : m < t := of_decide_eq_true e3
          have b1 := hm2 (p * l.1.1 + q' * l.1.2) (by simp)
          have b2 := hm2 (p * l.2.1 + q' * l.2.2) (by simp)
          rw [decide_eq_true (show p * l.1.1 + q' * l.1.2 < t by omega), decide_eq_true (show p * l.2.1 + q' * l.2.2 < t by omega)] at q
          refine ⟨_, rfl, pE, [_, _], rfl, .inl (.inl y2), by simp, fun m' hn1 hn2 => ⟨_, _, rfl, rfl, ?_⟩⟩
          have c1 := hn2 (p * r.1.1 + q' * r.1.2) (by simp)
          have c2 := hn2 (p * r.2.1 + q' * r.2.2) (by simp)
          have := q H8 S8
          have e4 : (decide (t < p * r.1.1 + q' * r.1.2) && decide (t < p * r.2.1 + q' * r.2.2)) = decide (t < m') := by
            rw [Bool.eq_iff_iff, Bool.and_eq_true]
            simp only [decide_eq_true_iff]
            simp only [List.mem_cons, List.not_mem_nil, or_false] at hn1
            constructor
            · rintro ⟨x1, x2⟩
              rcases hn1 with z | z <;> omega
            · intro x
              omega
          rw [e4] at this
          exact this
        · have e3 : ¬ m < t := fun z => e3 (decide_eq_true z)
          have e4 : (decide (p * l.1.1 + q' * l.1.2 < t) && decide (p * l.2.1 + q' * l.2.2 < t)) = false := by
            rw [Bool.eq_false_iff]
            intro z
            rw [Bool.and_eq_true] at z
            simp only [decide_eq_true_iff] at z
            simp only [List.mem_cons, List.not_mem_nil, or_false] at hm1
            rcases hm1 with y | y <;> omega
          rw [e4, Bool.false_and] at q
          exact q H8 S8
      · have hA : ¬ (wd = "apart" ∧ ns.length = 3) := fun z => e2 ((hlen 3).trans (decide_eq_true z.2))
        have i0 := isApart_not (l := l) (r := r) hA
        rw [i0, Bool.false_or] at q
        refine ⟨_, rfl, a, _, 0, _, rfl, rfl, hS6, atI_nat (j := 0) rfl, rfl, _, rfl, ite2 (fun e5 => ?_) (fun e5 => ?_)⟩
        · have hm : wd ≠ "meets" := fun z => by rw [z] at e5; simp at e5
          have := q H6 S6
          rw [isMeet_not (fun z => hm z.1)] at this
          exact this
        · have hwd : wd = "meets" := Classical.byContradiction fun z => e5 (by rw [decide_eq_false (fun y => z (V.str.inj y))]; rfl)
          refine ⟨_, rfl, a, _, rfl, .inr hS6, rfl, _, rfl, ite2 (fun e6 => ?_) (fun e6 => ?_)⟩
          · have hn : ns.length ≠ 4 := fun z => by rw [show decide (V.int (((V.str wd :: ns.map V.int).length : Nat) : Int) = V.int 5) = true from (hlen 4).trans (decide_eq_true z)] at e6; cases e6
            have := q H6 S6
            rw [isMeet_not (fun z => hn z.2)] at this
            exact this
          · have hn : ns.length = 4 := Classical.byContradiction fun z => e6 (by rw [show decide (V.int (((V.str wd :: ns.map V.int).length : Nat) : Int) = V.int 5) = false from (hlen 4).trans (decide_eq_false z)]; rfl)
            obtain ⟨k, m, k2, n, rfl⟩ : ∃ p q t n, ns = [p, q, t, n] := by
              match ns, hn with
              | [p, q, t, n], _ => exact ⟨p, q, t, n, rfl⟩
            refine ⟨.ref a, rfl, _, rfl, a, _, rfl, hS6, fun p7 H7 s7 e7 => ?_⟩
            rw [cut_rest] at e7
            refine ⟨p7, _, rfl, e7, rfl, _, _, rfl, _, _, rfl, _, _, rfl, _, _, rfl, rfl, ?_⟩
            have S7 := S6.trans s7
            have ev : isMeet l r wd [k, m, k2, n] = (shQ k m && (shQ k2 n && decide (at3 l k m = at3 r k2 n))) := by
              show (decide (wd = "meets") && _) = _
              rw [decide_eq_true hwd]
              exact Bool.true_and _
            rw [ev] at q
            have no : shQ k m = false ∨ shQ k2 n = false → Q (.bl false) H7 := fun z => by
              have := q H7 S7
              rcases z with z | z
              · rw [z, Bool.false_and] at this
                exact this
              · rw [z, Bool.false_and, Bool.and_false] at this
                exact this
            have nq : ∀ {k m : Int}, ¬ (1 ≤ m ∧ 0 ≤ k ∧ k ≤ m) → shQ k m = false := fun z => Bool.eq_false_iff.mpr fun y => z (shQ_iff.mp y)
            refine ⟨_, rfl, _, _, rfl, rfl, _, rfl, ite2 (fun e7 => ?_) (fun e7 => ?_)⟩
            · have : m < 1 := of_decide_eq_true e7
              exact iteT (no (.inl (nq (by omega))))
            have m1 : ¬ m < 1 := fun z => e7 (decide_eq_true z)
            refine ⟨_, rfl, _, _, rfl, rfl, _, rfl, ite2 (fun e8 => ?_) (fun e8 => ?_)⟩
            · have : n < 1 := of_decide_eq_true e8
              exact iteT (no (.inr (nq (by omega))))
            have n1 : ¬ n < 1 := fun z => e8 (decide_eq_true z)
            refine ⟨_, rfl, _, _, rfl, rfl, _, rfl, ite2 (fun e9 => ?_) (fun e9 => ?_)⟩
            · have k0 : 0 ≤ k := of_decide_eq_true e9
              refine ⟨_, rfl, _, _, rfl, rfl, _, rfl, ?_⟩
              generalize hb1 : decide (k ≤ m) = bb
              cases bb with
              | false =>
                have : ¬ k ≤ m := of_decide_eq_false hb1
                exact iteT (iteT (no (.inl (nq (by omega)))))
              | true =>
                have k1 : k ≤ m := of_decide_eq_true hb1
                refine iteF ⟨_, rfl, _, _, rfl, rfl, _, rfl, ite2 (fun e10 => ?_) (fun e10 => ?_)⟩
                · have l0 : 0 ≤ k2 := of_decide_eq_true e10
                  refine ⟨_, rfl, _, _, rfl, rfl, _, rfl, ?_⟩
                  generalize hb2 : decide (k2 ≤ n) = bb2
                  cases bb2 with
                  | false =>
                    have : ¬ k2 ≤ n := of_decide_eq_false hb2
                    exact iteT (no (.inr (nq (by omega))))
                  | true =>
                    have l1 : k2 ≤ n := of_decide_eq_true hb2
                    refine iteF ?_
                    rw [shQ_iff.mpr ⟨by omega, k0, k1⟩, shQ_iff.mpr ⟨by omega, l0, l1⟩, Bool.true_and, Bool.true_and] at q
                    have bk := hb k (by simp)
                    have bm := hb m (by simp)
                    have bk2 := hb k2 (by simp)
                    have bn := hb n (by simp)
                    have s7' : Same H6 H7 := s7
                    refine ⟨(by show 2 ≤ sizeLine; decide), fun p8 H8 n8 s8 e8 => ⟨p8, rfl, ⟨_, .inl (.inl e8)⟩, fun pF nF => ?_⟩⟩
                    have S8 := s7'.trans s8
                    refine lcT (K := K) (a := p8) (xs := [V.int 0, .int 1]) (fun i H' => Same H8 H' ∧ H' pF = some (.lst (((([0, 1] : List Int).take i).map (fun i => (cri l.1 i * m + k * (cri l.2 i - cri l.1 i)) * n - (cri r.1 i * n + k2 * (cri r.2 i - cri r.1 i)) * m)).map V.int))) nF (fun H' e1 e2 => ⟨e1, e2⟩) (fun i H' _ z => seT z.1 (.inl (.inl e8))) (fun i z H' hz w => ?_) (fun H9 z => ?_)
                    · obtain ⟨t1, t2⟩ := w
                      obtain ⟨ii, rfl, hii, hpt⟩ : ∃ ii : Int, z = .int ii ∧ (ii = 0 ∨ ii = 1) ∧ ([0, 1] : List Int)[i]? = some ii := by
                        match i, hz with
                        | 0, hz => exact ⟨0, (Option.some.inj hz).symm, .inl rfl, rfl⟩
                        | 1, hz => exact ⟨1, (Option.some.inj hz).symm, .inr rfl, rfl⟩
                        | i + 2, hz => cases hz
                      obtain ⟨acc, a1', a2', a3', a4'⟩ := accI (F := (fun i => (cri l.1 i * m + k * (cri l.2 i - cri l.1 i)) * n - (cri r.1 i * n + k2 * (cri r.2 i - cri r.1 i)) * m)) nF t1 t2 hpt (by simp)
                      obtain ⟨x1, x2⟩ := cri_lt bl ii
                      obtain ⟨x3, x4⟩ := cri_lt br ii
                      have w1 := numB (x := cri l.1 ii) (y := cri l.2 ii) (k := k) (m := m) x1 x2 bk bm
                      have w2 := numB (x := cri r.1 ii) (y := cri r.2 ii) (k := k2) (m := n) x3 x4 bk2 bn
                      refine ⟨rfl, _, rfl, _, rfl, _, rfl, _, rfl, _, l, k, m, ii, rfl, hL6.same (S8.trans t1), bl, hii, _, rfl, _, _, rfl, rfl, wide_mul w1 bn (by decide) (by decide) (by decide), ?_⟩
                      exact ⟨_, rfl, _, rfl, _, rfl, _, rfl, _, r, k2, n, ii, rfl, hR6.same (S8.trans t1), br, hii, _, rfl, _, _, rfl, rfl, wide_mul w2 bm (by decide) (by decide) (by decide), _, _, rfl, rfl, acc, a1', a2', a3', a4'⟩
                    · obtain ⟨z1, z2⟩ := z
                      refine ⟨(by show 2 ≤ sizeLine; decide), fun p10 H10 n10 s10 e10 => ?_⟩
                      refine ⟨.list [.int _, .int _], .list [.int 0, .int 0], .lst (.inl (.inl (s10 _ _ z2))) (.cons (.int _) (.cons (.int _) .nil)), .lst (.inl (.inl e10)) (.cons (.int _) (.cons (.int _) .nil)), rfl, rfl, ?_⟩
                      have := q H10 (S7.trans (s8.trans (z1.trans s10)))
                      rw [eqv_00]
                      rw [at3_eq (by omega) (by omega)] at this
                      exact this
                · have l0 : ¬ 0 ≤ k2 := fun z => e10 (decide_eq_true z)
                  exact ⟨_, rfl, iteT (no (.inr (nq (by omega))))⟩
            · have k0 : ¬ 0 ≤ k := fun z => e9 (decide_eq_true z)
              exact ⟨_, rfl, iteT (iteT (no (.inl (nq (by omega)))))⟩
    · have hA : ¬ (wd = "apart" ∧ ns.length = 3) := fun z => e (decide_eq_true (by rw [z.1]))
      have i0 := isApart_not (l := l) (r := r) hA
      rw [i0, Bool.false_or] at q
      refine ⟨_, rfl, a, _, 0, _, rfl, rfl, hS6, atI_nat (j := 0) rfl, rfl, _, rfl, ite2 (fun e5 => ?_) (fun e5 => ?_)⟩
      · have hm : wd ≠ "meets" := fun z => by rw [z] at e5; simp at e5
        have := q H6 S6
        rw [isMeet_not (fun z => hm z.1)] at this
        exact this
      · have hwd : wd = "meets" := Classical.byContradiction fun z => e5 (by rw [decide_eq_false (fun y => z (V.str.inj y))]; rfl)
        refine ⟨_, rfl, a, _, rfl, .inr hS6, rfl, _, rfl, ite2 (fun e6 => ?_) (fun e6 => ?_)⟩
        · have hn : ns.length ≠ 4 := fun z => by rw [show decide (V.int (((V.str wd :: ns.map V.int).length : Nat) : Int) = V.int 5) = true from (hlen 4).trans (decide_eq_true z)] at e6; cases e6
          have := q H6 S6
          rw [isMeet_not (fun z => hn z.2)] at this
          exact this
        · have hn : ns.length = 4 := Classical.byContradiction fun z => e6 (by rw [show decide (V.int (((V.str wd :: ns.map V.int).length : Nat) : Int) = V.int 5) = false from (hlen 4).trans (decide_eq_false z)]; rfl)
          obtain ⟨k, m, k2, n, rfl⟩ : ∃ p q t n, ns = [p, q, t, n] := by
            match ns, hn with
            | [p, q, t, n], _ => exact ⟨p, q, t, n, rfl⟩
          refine ⟨.ref a, rfl, _, rfl, a, _, rfl, hS6, fun p7 H7 s7 e7 => ?_⟩
          rw [cut_rest] at e7
          refine ⟨p7, _, rfl, e7, rfl, _, _, rfl, _, _, rfl, _, _, rfl, _, _, rfl, rfl, ?_⟩
          have S7 := S6.trans s7
          have ev : isMeet l r wd [k, m, k2, n] = (shQ k m && (shQ k2 n && decide (at3 l k m = at3 r k2 n))) := by
            show (decide (wd = "meets") && _) = _
            rw [decide_eq_true hwd]
            exact Bool.true_and _
          rw [ev] at q
          have no : shQ k m = false ∨ shQ k2 n = false → Q (.bl false) H7 := fun z => by
            have := q H7 S7
            rcases z with z | z
            · rw [z, Bool.false_and] at this
              exact this
            · rw [z, Bool.false_and, Bool.and_false] at this
              exact this
          have nq : ∀ {k m : Int}, ¬ (1 ≤ m ∧ 0 ≤ k ∧ k ≤ m) → shQ k m = false := fun z => Bool.eq_false_iff.mpr fun y => z (shQ_iff.mp y)
          refine ⟨_, rfl, _, _, rfl, rfl, _, rfl, ite2 (fun e7 => ?_) (fun e7 => ?_)⟩
          · have : m < 1 := of_decide_eq_true e7
            exact iteT (no (.inl (nq (by omega))))
          have m1 : ¬ m < 1 := fun z => e7 (decide_eq_true z)
          refine ⟨_, rfl, _, _, rfl, rfl, _, rfl, ite2 (fun e8 => ?_) (fun e8 => ?_)⟩
          · have : n < 1 := of_decide_eq_true e8
            exact iteT (no (.inr (nq (by omega))))
          have n1 : ¬ n < 1 := fun z => e8 (decide_eq_true z)
          refine ⟨_, rfl, _, _, rfl, rfl, _, rfl, ite2 (fun e9 => ?_) (fun e9 => ?_)⟩
          · have k0 : 0 ≤ k := of_decide_eq_true e9
            refine ⟨_, rfl, _, _, rfl, rfl, _, rfl, ?_⟩
            generalize hb1 : decide (k ≤ m) = bb
            cases bb with
            | false =>
              have : ¬ k ≤ m := of_decide_eq_false hb1
              exact iteT (iteT (no (.inl (nq (by omega)))))
            | true =>
              have k1 : k ≤ m := of_decide_eq_true hb1
              refine iteF ⟨_, rfl, _, _, rfl, rfl, _, rfl, ite2 (fun e10 => ?_) (fun e10 => ?_)⟩
              · have l0 : 0 ≤ k2 := of_decide_eq_true e10
                refine ⟨_, rfl, _, _, rfl, rfl, _, rfl, ?_⟩
                generalize hb2 : decide (k2 ≤ n) = bb2
                cases bb2 with
                | false =>
                  have : ¬ k2 ≤ n := of_decide_eq_false hb2
                  exact iteT (no (.inr (nq (by omega))))
                | true =>
                  have l1 : k2 ≤ n := of_decide_eq_true hb2
                  refine iteF ?_
                  rw [shQ_iff.mpr ⟨by omega, k0, k1⟩, shQ_iff.mpr ⟨by omega, l0, l1⟩, Bool.true_and, Bool.true_and] at q
                  have bk := hb k (by simp)
                  have bm := hb m (by simp)
                  have bk2 := hb k2 (by simp)
                  have bn := hb n (by simp)
                  have s7' : Same H6 H7 := s7
                  refine ⟨(by show 2 ≤ sizeLine; decide), fun p8 H8 n8 s8 e8 => ⟨p8, rfl, ⟨_, .inl (.inl e8)⟩, fun pF nF => ?_⟩⟩
                  have S8 := s7'.trans s8
                  refine lcT (K := K) (a := p8) (xs := [V.int 0, .int 1]) (fun i H' => Same H8 H' ∧ H' pF = some (.lst (((([0, 1] : List Int).take i).map (fun i => (cri l.1 i * m + k * (cri l.2 i - cri l.1 i)) * n - (cri r.1 i * n + k2 * (cri r.2 i - cri r.1 i)) * m)).map V.int))) nF (fun H' e1 e2 => ⟨e1, e2⟩) (fun i H' _ z => seT z.1 (.inl (.inl e8))) (fun i z H' hz w => ?_) (fun H9 z => ?_)
                  · obtain ⟨t1, t2⟩ := w
                    obtain ⟨ii, rfl, hii, hpt⟩ : ∃ ii : Int, z = .int ii ∧ (ii = 0 ∨ ii = 1) ∧ ([0, 1] : List Int)[i]? = some ii := by
                      match i, hz with
                      | 0, hz => exact ⟨0, (Option.some.inj hz).symm, .inl rfl, rfl⟩
                      | 1, hz => exact ⟨1, (Option.some.inj hz).symm, .inr rfl, rfl⟩
                      | i + 2, hz => cases hz
                    obtain ⟨acc, a1', a2', a3', a4'⟩ := accI (F := (fun i => (cri l.1 i * m + k * (cri l.2 i - cri l.1 i)) * n - (cri r.1 i * n + k2 * (cri r.2 i - cri r.1 i)) * m)) nF t1 t2 hpt (by simp)
                    obtain ⟨x1, x2⟩ := cri_lt bl ii
                    obtain ⟨x3, x4⟩ := cri_lt br ii
                    have w1 := numB (x := cri l.1 ii) (y := cri l.2 ii) (k := k) (m := m) x1 x2 bk bm
                    have w2 := numB (x := cri r.1 ii) (y := cri r.2 ii) (k := k2) (m := n) x3 x4 bk2 bn
                    refine ⟨rfl, _, rfl, _, rfl, _, rfl, _, rfl, _, l, k, m, ii, rfl, hL6.same (S8.trans t1), bl, hii, _, rfl, _, _, rfl, rfl, wide_mul w1 bn (by decide) (by decide) (by decide), ?_⟩
                    exact ⟨_, rfl, _, rfl, _, rfl, _, rfl, _, r, k2, n, ii, rfl, hR6.same (S8.trans t1), br, hii, _, rfl, _, _, rfl, rfl, wide_mul w2 bm (by decide) (by decide) (by decide), _, _, rfl, rfl, acc, a1', a2', a3', a4'⟩
                  · obtain ⟨z1, z2⟩ := z
                    refine ⟨(by show 2 ≤ sizeLine; decide), fun p10 H10 n10 s10 e10 => ?_⟩
                    refine ⟨.list [.int _, .int _], .list [.int 0, .int 0], .lst (.inl (.inl (s10 _ _ z2))) (.cons (.int _) (.cons (.int _) .nil)), .lst (.inl (.inl e10)) (.cons (.int _) (.cons (.int _) .nil)), rfl, rfl, ?_⟩
                    have := q H10 (S7.trans (s8.trans (z1.trans s10)))
                    rw [eqv_00]
                    rw [at3_eq (by omega) (by omega)] at this
                    exact this
              · have l0 : ¬ 0 ≤ k2 := fun z => e10 (decide_eq_true z)
                exact ⟨_, rfl, iteT (no (.inr (nq (by omega))))⟩
          · have k0 : ¬ 0 ≤ k := fun z => e9 (decide_eq_true z)
            exact ⟨_, rfl, iteT (iteT (no (.inl (nq (by omega)))))⟩

end
end Cl

set_option maxHeartbeats 0
namespace Cl
open PySem PySem.Spec PyProof.Rows L2
open GxR (TabB TabG)


def spPointX (K : PySem.W.Frag) : Sp := fun vs H Q _ => ∃ (d l : Addr) (g : Int), vs = [.ref d, .int g] ∧ 0 < g ∧ g ≤ 1000 ∧ Deck H d l ∧
  ∀ w H' p, Step d l H H' → At2 K H' w p → BdN 10000 p → Q w H'
def spBesideX (K : PySem.W.Frag) : Sp := fun vs H Q _ => ∃ (d l : Addr) (v u w : V) (r : Ln) (p q : Pt), vs = [.ref d, v, u, w] ∧ Deck H d l ∧ AtL K H v r ∧ GoodLn 20000 r ∧
  At2 K H u p ∧ BdN 10000 p ∧ At2 K H w q ∧ BdN 10000 q ∧ ∀ w H' r', Step d l H H' → AtL K H' w r' → GoodLn 300000 r' → Q w H'
def spLineX (K : PySem.W.Frag) : Sp := fun vs H Q _ => ∃ (d l : Addr) (g : Int) (L : Addr) (ws : List V) (ls : List Ln), vs = [.ref d, .int g, .ref L] ∧ 0 < g ∧ g ≤ 1000 ∧ Deck H d l ∧
  L ≠ d ∧ L ≠ l ∧ H L = some (.lst ws) ∧ AllAt (AtL K H) ws ls ∧ ls.length ≤ 12 ∧ (∀ r ∈ ls, GoodLn 300000 r) ∧
  ∀ w H' r', Step d l H H' → AtL K H' w r' → GoodLn 300000 r' → Q w H'
def spLinesX (K : PySem.W.Frag) : Sp := fun vs H Q _ => ∃ (d l : Addr) (g : Int) (n : Nat), vs = [.ref d, .int g, .int n] ∧ 0 < g ∧ g ≤ 1000 ∧ n ≤ 12 ∧ Deck H d l ∧
  ∀ w H' ls, Step d l H H' → AtT K H' w ls → ls.length = n → (∀ r ∈ ls, GoodLn 2000000 r) → Q w H'
def spMany : Sp := fun vs H Q _ => ∃ (d l : Addr) (m : Int), vs = [.ref d, .int m] ∧ 0 ≤ m ∧ m ≤ 11 ∧ Deck H d l ∧ ∀ (n : Nat) H', n ≤ 12 → Step d l H H' → Q (.int n) H'

section
variable {P : Program} {w : World} {K : PySem.W.Frag} {mg : Str → Option Value} {base : Heap}

theorem ok_law_point {f : Addr} {fd : FuncData} (F : Fun K "_law_point" "_law_point" s_law_point f fd) (T : Bt mg) (D_law_draw : Def P w K mg base 1 "_law_draw" ["_law_deck_here", "_law_most"] spDraw) :
    FnG P w K mg base CX0 2 f fd ["_law_deck_here", "_law_grain_here"] (spPointX K) := by
  refine okG (k := 1) F sc_law_point (fun vs H Q E h => ?_) (fun cdv A outer s H vs Q E hr h => ?_)
  · obtain ⟨d, l, g, rfl, _⟩ := h
    rfl
  · obtain ⟨d, l, g, rfl, h0, h1, D, q⟩ := h
    refine ⟨_, (pss_cons (ps_set (i := 2) sc_law_point.nd rfl (.inl rfl) (callD D_law_draw (hr.mono (by decide)) (pa_cons (pv 0) (pa_cons pe_int pa_nil))))
      (pss_cons (ps_par (i := 3) (j := 4) (by rfl) sc_law_point.nd rfl rfl (by decide) rfl rfl (pa_cons (callD D_law_draw (hr.mono (by decide)) (pa_cons (pv 0) (pa_cons (pe_op op_add (pe_op op_mul pe_int (pv 1)) pe_int) pa_nil))) (pa_cons (callD D_law_draw (hr.mono (by decide)) (pa_cons (pv 0) (pa_cons (pe_op op_add (pe_op op_mul pe_int (pv 1)) pe_int) pa_nil))) pa_nil)) (by rfl))
      (pss_cons (ps_if (pt_cmpR op_eq (pv 2) pe_int (nomark _)) (pss_one (ps_ret (tupN (pa_cons (pe_op op_fdiv (pe_op op_add (pe_op op_mul (pe_op op_fdivW (pe_op op_mul pe_int (pv 3)) (pv 1)) (pv 1)) pe_int) pe_int) (pa_cons (pe_op op_fdiv (pe_op op_add (pe_op op_mul (pe_op op_fdivW (pe_op op_mul pe_int (pv 4)) (pv 1)) (pv 1)) pe_int) pe_int) pa_nil))))) pss_nil)
      (pss_cons (ps_if (pt_cmpR op_eq (pv 2) pe_int (nomark _)) (pss_one (ps_ret (tupN (pa_cons (pe_op op_mul (pe_op op_fdivW (pv 3) (pv 1)) (pv 1)) (pa_cons (pe_op op_mul (pe_op op_fdivW (pv 4) (pv 1)) (pv 1)) pa_nil))))) pss_nil)
      (pss_cons (ps_if (pt_cmpR op_eq (pv 2) pe_int (nomark _)) (pss_one (ps_ret (tupN (pa_cons (pe_op op_add (pe_op op_mul (pe_op op_fdivW (pv 3) (pv 1)) (pv 1)) (pe_op op_fdiv (pv 1) pe_int)) (pa_cons (pv 4) pa_nil))))) pss_nil)
      (pss_one (ps_ret (tupN (pa_cons (pv 3) (pa_cons (pv 4) pa_nil)))))))))), ?_⟩
    refine ⟨.ref d, rfl, d, l, 5, rfl, by decide, by decide, D, fun way H1 w0 w1 S1 => ?_⟩
    refine ⟨.ref d, rfl, _, rfl, _, _, rfl, rfl, .inl (by decide), _, _, rfl, rfl, d, l, _, rfl, by omega, by omega, S1.deck, fun x H2 x0 x1 S2 => ⟨.ref d, rfl, _, rfl, _, _, rfl, rfl, .inl (by decide), _, _, rfl, rfl, d, l, _, rfl, by omega, by omega, S2.deck, fun y H3 y0 y1 S3 => ⟨_, _, rfl, ?_⟩⟩⟩
    have S := (S1.trans S2).trans S3
    have dv : ∀ n : Int, CDivW n g := fun n => wide_div (b := 64) h0 (by omega) (by decide) (by decide)
    have mg : ∀ n : Int, CMul n g := fun n => .inr (by omega)
    have fin : ∀ {p : Pt} {pp : Addr} {H4 : Hp}, Same H3 H4 → H4 pp = some (.tup [.int p.1, .int p.2]) → BdN 10000 p → Q (.ref pp) H4 := fun {p pp H4} s e b => q _ _ p (S.trans (Step.of S3.deck s)) ⟨pp, rfl, .inl (.inl e)⟩ b
    have fl : ∀ n : Int, 0 ≤ n → 0 ≤ n / g * g ∧ n / g * g ≤ n := fun n hn => ⟨Int.mul_nonneg (Int.ediv_nonneg hn (by omega)) (by omega), Int.ediv_mul_le n (by omega)⟩
    refine ⟨_, rfl, rfl, _, rfl, ite2 (fun e => ?_) (fun e => ?_)⟩
    · refine ⟨_, rfl, _, _, rfl, rfl, .inl (by decide), _, rfl, _, _, rfl, rfl, dv _, _, rfl, _, _, rfl, rfl, mg _, _, _, rfl, rfl, _, _, rfl, rfl, ⟨by decide, by decide⟩,
        _, rfl, _, _, rfl, rfl, .inl (by decide), _, rfl, _, _, rfl, rfl, dv _, _, rfl, _, _, rfl, rfl, mg _, _, _, rfl, rfl, _, _, rfl, rfl, ⟨by decide, by decide⟩, (by show 2 ≤ sizeLine; decide), fun p6 H6 n6 s6 g6 => ?_⟩
      have a1 := fl (2 * x) (by omega)
      have a2 := fl (2 * y) (by omega)
      exact fin (p := ((2 * x / g * g + 1) / 2, (2 * y / g * g + 1) / 2)) s6 g6 (by unfold BdN; simp only; omega)
    refine ⟨_, rfl, rfl, _, rfl, ite2 (fun e => ?_) (fun e => ?_)⟩
    · refine ⟨_, rfl, _, rfl, _, _, rfl, rfl, dv _, _, rfl, _, _, rfl, rfl, mg _, _, rfl, _, rfl, _, _, rfl, rfl, dv _, _, rfl, _, _, rfl, rfl, mg _, (by show 2 ≤ sizeLine; decide), fun p6 H6 n6 s6 g6 => ?_⟩
      have a1 := fl x (by omega)
      have a2 := fl y (by omega)
      exact fin (p := (x / g * g, y / g * g)) s6 g6 (by unfold BdN; simp only; omega)
    refine ⟨_, rfl, rfl, _, rfl, ite2 (fun e => ?_) (fun e => ?_)⟩
    · refine ⟨_, rfl, _, rfl, _, _, rfl, rfl, dv _, _, rfl, _, _, rfl, rfl, mg _, _, rfl, _, _, rfl, rfl, ⟨by decide, by decide⟩, _, _, rfl, rfl, _, rfl, (by show 2 ≤ sizeLine; decide), fun p6 H6 n6 s6 g6 => ?_⟩
      have a1 := fl x (by omega)
      exact fin (p := (x / g * g + g / 2, y)) s6 g6 (by unfold BdN; simp only; omega)
    · exact ⟨_, rfl, _, rfl, (by show 2 ≤ sizeLine; decide), fun p6 H6 n6 s6 g6 => fin (p := (x, y)) s6 g6 (by unfold BdN; simp only; omega)⟩

theorem ok_law_beside {f : Addr} {fd : FuncData} (F : Fun K "_law_beside" "_law_beside" s_law_beside f fd) (T : Bt mg) (D_law_draw : Def P w K mg base 1 "_law_draw" ["_law_deck_here", "_law_most"] spDraw) (D_law_unlike : Def P w K mg base 1 "_law_unlike" ["_law_one", "_law_other"] (spUnlike K)) :
    FnG P w K mg base CX0 2 f fd ["_law_deck_here", "_law_line_here", "_law_one", "_law_other"] (spBesideX K) := by
  refine okG (k := 1) F sc_law_beside (fun vs H Q E h => ?_) (fun cdv A outer s H vs Q E hr h => ?_)
  · obtain ⟨d, l, v, u, w, r, p, p2, rfl, _⟩ := h
    rfl
  · obtain ⟨d, l, v, u, w2, r, p, p2, rfl, D, hL, hg, hp, bp, hq, bq, q⟩ := h
    refine ⟨_, (pss_cons (ps_set (i := 4) sc_law_beside.nd rfl (.inl rfl) (callD D_law_draw (hr.mono (by decide)) (pa_cons (pv 0) (pa_cons pe_int pa_nil))))
      (pss_cons (ps_par (i := 5) (j := 6) (by rfl) sc_law_beside.nd rfl rfl (by decide) rfl rfl (pa_cons (pe_op op_sub (callD D_law_draw (hr.mono (by decide)) (pa_cons (pv 0) (pa_cons pe_int pa_nil))) pe_int) (pa_cons (pe_op op_add pe_int (callD D_law_draw (hr.mono (by decide)) (pa_cons (pv 0) (pa_cons pe_int pa_nil)))) pa_nil)) (by rfl))
      (pss_cons (ps_asg (pv 1) (pg_tup (by rfl) (pgs_cons (pg_tup (by rfl) (pgs_cons (pg_name (i := 7) sc_law_beside.nd rfl (.inr rfl)) (pgs_cons (pg_name (i := 8) sc_law_beside.nd rfl (.inr rfl)) pgs_nil))) (pgs_cons (pg_tup (by rfl) (pgs_cons (pg_name (i := 9) sc_law_beside.nd rfl (.inr rfl)) (pgs_cons (pg_name (i := 10) sc_law_beside.nd rfl (.inr rfl)) pgs_nil))) pgs_nil))))
      (pss_cons (ps_if (pt_cmpR op_eq (pv 4) pe_int (nomark _)) (pss_one (ps_ret (callD D_law_unlike (hr.mono (by decide)) (pa_cons (tupN (pa_cons (pv 9) (pa_cons (pv 10) pa_nil))) (pa_cons (pv 3) pa_nil))))) pss_nil)
      (pss_cons (ps_if (pt_cmpR op_eq (pv 4) pe_int (nomark _)) (pss_one (ps_ret (callD D_law_unlike (hr.mono (by decide)) (pa_cons (pv 2) (pa_cons (tupN (pa_cons (pe_op op_sub (pe_op op_add (pv 7) (pv 9)) (pe_ix ix_tup (pv 2) pe_int (fun _ _ => rfl))) (pa_cons (pe_op op_sub (pe_op op_add (pv 8) (pv 10)) (pe_ix ix_tup (pv 2) pe_int (fun _ _ => rfl))) pa_nil))) pa_nil))))) pss_nil)
      (pss_cons (ps_if (pt_cmpR op_eq (pv 4) pe_int (nomark _)) (pss_one (ps_ret (pe_callTy call_tuple_ofN (by rfl) T.tuple (by decide +kernel) (pa_cons (pe_lc (own := [("_law_k", 11)]) (g := gName 11) (tt := tYes) (by rfl) sc_law_beside.nd (pi_tup (tupN (pa_cons (pv 5) (pa_cons (pe_op op_add (pv 5) (pv 6)) pa_nil)))) (blkOk_by (own := [("_law_k", 11)]) (N := ["_law_deck_here", "_law_line_here", "_law_one", "_law_other", "_law_way", "_law_at", "_law_more", "_law_x", "_law_y", "_law_u", "_law_v", "_law_k"]) (sc := defScope s_law_beside) (by decide +kernel)) (fun _ _ _ _ _ => (pg_name (i := 11) sc_law_beside.nd rfl (.inl rfl))) (fun _ _ _ _ _ => pts_nil) (fun _ _ _ _ _ => (tupN (pa_cons (pe_op op_add (pv 7) (pe_op op_mul (pv 11) (pe_op op_sub (pv 9) (pv 7)))) (pa_cons (pe_op op_add (pv 8) (pe_op op_mul (pv 11) (pe_op op_sub (pv 10) (pv 8)))) pa_nil))))) pa_nil)))) pss_nil)
      (pss_cons (ps_if (pt_cmpR op_eq (pv 4) pe_int (nomark _)) (pss_one (ps_ret (tupN (pa_cons (tupN (pa_cons (pe_op op_add (pv 7) (pv 5)) (pa_cons (pe_op op_sub (pe_op op_add (pv 8) (pv 6)) pe_int) pa_nil))) (pa_cons (tupN (pa_cons (pe_op op_add (pv 9) (pv 5)) (pa_cons (pe_op op_sub (pe_op op_add (pv 10) (pv 6)) pe_int) pa_nil))) pa_nil))))) pss_nil)
      (pss_cons (ps_if (pt_cmpR op_eq (pv 4) pe_int (nomark _)) (pss_one (ps_ret (callD D_law_unlike (hr.mono (by decide)) (pa_cons (tupN (pa_cons (pe_op op_fdiv (pe_op op_add (pv 7) (pv 9)) pe_int) (pa_cons (pe_op op_fdiv (pe_op op_add (pv 8) (pv 10)) pe_int) pa_nil))) (pa_cons (pv 3) pa_nil))))) pss_nil)
      (pss_one (ps_ret (tupN (pa_cons (tupN (pa_cons (pv 9) (pa_cons (pv 10) pa_nil))) (pa_cons (tupN (pa_cons (pv 7) (pa_cons (pv 8) pa_nil))) pa_nil))))))))))))), ?_⟩
    refine ⟨.ref d, rfl, d, l, 6, rfl, by decide, by decide, D, fun way H1 w0 w1 S1 => ?_⟩
    refine ⟨.ref d, rfl, d, l, 4, rfl, by decide, by decide, S1.deck, fun at0 H2 a0 a1 S2 => ⟨_, _, rfl, rfl, .ref d, rfl, d, l, 2, rfl, by decide, by decide, S2.deck, fun mo H3 m0 m1 S3 => ⟨_, _, rfl, rfl, _, _, rfl, ?_⟩⟩⟩
    have S := (S1.trans S2).trans S3
    have D3 := S3.deck
    have hL3 := hL.step S D
    have hp3 := hp.step S D
    have hq3 := hq.step S D
    obtain ⟨a, _, _, rfl, hS, ⟨b, rfl, hb⟩, ⟨c, rfl, hc⟩⟩ := hL3
    obtain ⟨g1, g2, g3⟩ := hg
    unfold BdN at g1 g2 bp bq
    have un : ∀ {m n : V} {p p3 : Pt} {H4 : Hp}, Same H3 H4 → At2 K H4 m p → At2 K H4 n p3 → BdN 100000 p → BdN 100000 p3 → spUnlike K [m, n] H4 Q E0 := fun {m n p p3 H4} s h1 h2 b1 b2 =>
      ⟨m, n, p, p3, rfl, h1, h2, fun w H5 r' s5 e5 r1 r2 r3 => q _ _ _ (S.trans (Step.of D3 (s.trans s5))) e5 ⟨by rw [r1]; unfold BdN at *; omega, by rcases r3 with z | z <;> rw [z] <;> unfold BdN at * <;> (try simp only) <;> omega, r2⟩⟩
    have ln : ∀ {m n : V} {p p3 : Pt} {pp : Addr} {H4 : Hp}, Same H3 H4 → H4 pp = some (.tup [m, n]) → At2 K H4 m p → At2 K H4 n p3 → GoodLn 300000 (p, p3) → Q (.ref pp) H4 := fun {m n p p3 pp H4} s e h1 h2 gd =>
      q _ _ (p, p3) (S.trans (Step.of D3 s)) ⟨pp, m, n, rfl, .inl (.inl e), h1, h2⟩ gd
    refine ⟨_, rfl, a, _, rfl, hS, rfl, _, _, rfl, b, _, rfl, hb, rfl, _, _, rfl, _, _, rfl, rfl, _, _, rfl, c, _, rfl, hc, rfl, _, _, rfl, _, _, rfl, rfl, rfl, ?_⟩
    obtain ⟨e1, e2⟩ := hp3
    obtain ⟨rfl, hpT⟩ := e2
    refine ⟨_, rfl, rfl, _, rfl, ite2 (fun e => ?_) (fun e => ?_)⟩
    · exact ⟨_, rfl, _, rfl, (by show 2 ≤ sizeLine; decide), fun p6 H6 n6 s6 g6 => ⟨_, rfl, un (p := r.2) s6 ⟨p6, rfl, .inl (.inl g6)⟩ (hq3.same s6) (by unfold BdN; omega) (by unfold BdN; omega)⟩⟩
    refine ⟨_, rfl, rfl, _, rfl, ite2 (fun e => ?_) (fun e => ?_)⟩
    · refine ⟨_, rfl, _, rfl, _, rfl, _, _, rfl, rfl, _, rfl, e1, _, 0, _, rfl, rfl, hpT, rfl, _, _, rfl, rfl, _, rfl, _, rfl, _, _, rfl, rfl, _, rfl, e1, _, 1, _, rfl, rfl, hpT, rfl, _, _, rfl, rfl, (by show 2 ≤ sizeLine; decide), fun p6 H6 n6 s6 g6 => ?_⟩
      exact un (p3 := (r.1.1 + r.2.1 - p.1, r.1.2 + r.2.2 - p.2)) s6 ⟨e1, rfl, seT s6 hpT⟩ ⟨p6, rfl, .inl (.inl g6)⟩ (by unfold BdN; omega) (by unfold BdN; simp only; omega)
    refine ⟨_, rfl, rfl, _, rfl, ite2 (fun e => ?_) (fun e => ?_)⟩
    · refine ⟨_, rfl, _, rfl, _, rfl, _, _, rfl, rfl, (by show 2 ≤ sizeLine; decide), fun pt H4 n4 s4 g4 => ⟨pt, rfl, ⟨_, .inl (.inl g4)⟩, fun pD nD => ?_⟩⟩
      have pr_ : ∀ k : Int, -1 ≤ k → k ≤ 5 → BdN 300000 (r.1.1 + k * (r.2.1 - r.1.1), r.1.2 + k * (r.2.2 - r.1.2)) := fun k k0 k1 => by
        have bd : ∀ z : Int, -40000 ≤ z → z ≤ 40000 → -200000 ≤ k * z ∧ k * z ≤ 200000 := fun z z0 z1 => by
          obtain rfl | rfl | rfl | rfl | rfl | rfl | rfl : k = -1 ∨ k = 0 ∨ k = 1 ∨ k = 2 ∨ k = 3 ∨ k = 4 ∨ k = 5 := by omega
          all_goals omega
        have b1 := bd (r.2.1 - r.1.1) (by omega) (by omega)
        have b2 := bd (r.2.2 - r.1.2) (by omega) (by omega)
        unfold BdN
        simp only
        omega
      refine lcT (K := K) (a := pt) (xs := [.int (at0 - 1), .int (at0 - 1 + (1 + mo))]) (fun i H' => Same H4 H' ∧ ∃ ws, H' pD = some (.lst ws) ∧ AllAt (At2 K H') ws (([at0 - 1, at0 - 1 + (1 + mo)].take i).map fun k : Int => (r.1.1 + k * (r.2.1 - r.1.1), r.1.2 + k * (r.2.2 - r.1.2)))) nD (fun H' e1 e2 => ⟨e1, [], e2, .nil⟩) (fun i H' _ z => seT z.1 (.inl (.inl g4))) (fun i z H' hz w => ?_) (fun H5 z => ?_)
      · obtain ⟨t1, ws, t2, t3⟩ := w
        have hk : ∃ k : Int, z = .int k ∧ [at0 - 1, at0 - 1 + (1 + mo)][i]? = some k := by
          match i, hz with
          | 0, hz => exact ⟨_, (Option.some.inj hz).symm, rfl⟩
          | 1, hz => exact ⟨_, (Option.some.inj hz).symm, rfl⟩
          | i + 2, hz => cases hz
        obtain ⟨k, rfl, hk⟩ := hk
        refine ⟨rfl, _, rfl, _, rfl, _, rfl, _, rfl, _, _, rfl, rfl, _, _, rfl, rfl, .inr (by omega), _, _, rfl, rfl, _, rfl, _, rfl, _, rfl, _, rfl, _, _, rfl, rfl, _, _, rfl, rfl, .inr (by omega), _, _, rfl, rfl, (by show 2 ≤ sizeLine; decide), fun p7 H7 n7 s7 g7 => ?_⟩
        have k7 := s7 _ _ t2
        refine ⟨ws, k7, by rw [t3.length, List.length_map, List.length_take]; exact small1000 (by show min i 2 ≤ 1000; omega), fun b o z => ?_, ws ++ [.ref p7], upd_same, ?_⟩
        · rw [upd_ne (ne_of_none z nD)]; exact (t1.trans s7) _ _ z
        · rw [List.take_add_one, hk, List.map_append]
          exact AllAt.app (t3.map fun _ _ z => At2.upd (z.same s7) k7) (.cons (At2.upd ⟨p7, rfl, .inl (.inl g7)⟩ k7) .nil)
      · obtain ⟨t1, ws, t2, t3⟩ := z
        have t3 : AllAt (At2 K H5) ws [(r.1.1 + (at0 - 1) * (r.2.1 - r.1.1), r.1.2 + (at0 - 1) * (r.2.2 - r.1.2)), (r.1.1 + (at0 - 1 + (1 + mo)) * (r.2.1 - r.1.1), r.1.2 + (at0 - 1 + (1 + mo)) * (r.2.2 - r.1.2))] := t3
        match ws, t3 with
        | [m, n], .cons h1 (.cons h2 .nil) =>
          refine ⟨pD, _, rfl, .inl (.inl t2), fun p8 H8 n8 s8 g8 => ln ((s4.trans t1).trans s8) g8 (h1.same s8) (h2.same s8) ⟨pr_ _ (by omega) (by omega), pr_ _ (by omega) (by omega), fun z => ?_⟩⟩
          have z1 := congrArg Prod.fst z
          have z2 := congrArg Prod.snd z
          simp only at z1 z2
          have w1 : (1 + mo) * (r.2.1 - r.1.1) = 0 := by rw [Int.add_mul (at0 - 1)] at z1; omega
          have w2 : (1 + mo) * (r.2.2 - r.1.2) = 0 := by rw [Int.add_mul (at0 - 1)] at z2; omega
          rcases Int.mul_eq_zero.mp w1 with w | w
          · omega
          rcases Int.mul_eq_zero.mp w2 with w' | w'
          · omega
          exact g3 (Prod.ext (by omega) (by omega))
    refine ⟨_, rfl, rfl, _, rfl, ite2 (fun e => ?_) (fun e => ?_)⟩
    · refine ⟨_, rfl, _, rfl, _, _, rfl, rfl, _, rfl, _, rfl, _, _, rfl, rfl, _, _, rfl, rfl, (by show 2 ≤ sizeLine; decide), fun p6 H6 n6 s6 g6 => ?_⟩
      refine ⟨_, rfl, _, rfl, _, _, rfl, rfl, _, rfl, _, rfl, _, _, rfl, rfl, _, _, rfl, rfl, (by show 2 ≤ sizeLine; decide), fun p7 H7 n7 s7 g7 => ⟨(by show 2 ≤ sizeLine; decide), fun p8 H8 n8 s8 g8 => ?_⟩⟩
      refine ln (p := (r.1.1 + (at0 - 1), r.1.2 + (1 + mo) - 2)) (p3 := (r.2.1 + (at0 - 1), r.2.2 + (1 + mo) - 2)) ((s6.trans s7).trans s8) g8 ⟨p6, rfl, .inl (.inl ((s7.trans s8) _ _ g6))⟩ ⟨p7, rfl, .inl (.inl (s8 _ _ g7))⟩ ⟨by unfold BdN; simp only; omega, by unfold BdN; simp only; omega, fun z => g3 ?_⟩
      have z1 := congrArg Prod.fst z
      have z2 := congrArg Prod.snd z
      simp only at z1 z2
      exact Prod.ext (by omega) (by omega)
    refine ⟨_, rfl, rfl, _, rfl, ite2 (fun e => ?_) (fun e => ?_)⟩
    · refine ⟨_, rfl, _, rfl, _, _, rfl, rfl, _, _, rfl, rfl, ⟨by decide, by decide⟩, _, rfl, _, rfl, _, _, rfl, rfl, _, _, rfl, rfl, ⟨by decide, by decide⟩, (by show 2 ≤ sizeLine; decide), fun p6 H6 n6 s6 g6 => ⟨_, rfl, ?_⟩⟩
      exact un (p := ((r.1.1 + r.2.1) / 2, (r.1.2 + r.2.2) / 2)) s6 ⟨p6, rfl, .inl (.inl g6)⟩ (hq3.same s6) (by unfold BdN; simp only; omega) (by unfold BdN; omega)
    · refine ⟨_, rfl, _, rfl, (by show 2 ≤ sizeLine; decide), fun p6 H6 n6 s6 g6 => ⟨_, rfl, _, rfl, (by show 2 ≤ sizeLine; decide), fun p7 H7 n7 s7 g7 => ⟨(by show 2 ≤ sizeLine; decide), fun p8 H8 n8 s8 g8 => ?_⟩⟩⟩
      exact ln (p := r.2) (p3 := r.1) ((s6.trans s7).trans s8) g8 ⟨p6, rfl, .inl (.inl ((s7.trans s8) _ _ g6))⟩ ⟨p7, rfl, .inl (.inl (s8 _ _ g7))⟩ ⟨by unfold BdN; simp only; omega, by unfold BdN; simp only; omega, fun z => g3 z.symm⟩

theorem ok_law_grain {f : Addr} {fd : FuncData} (F : Fun K "_law_grain" "_law_grain" s_law_grain f fd) (T : Bt mg) (D_law_draw : Def P w K mg base 1 "_law_draw" ["_law_deck_here", "_law_most"] spDraw) :
    FnG P w K mg base CX0 2 f fd ["_law_deck_here"] spGrainW := by
  refine okG (k := 1) F sc_law_grain (fun vs H Q E h => ?_) (fun cdv A outer s H vs Q E hr h => ?_)
  · obtain ⟨d, l, rfl, _⟩ := h
    rfl
  · obtain ⟨d, l, rfl, D, q⟩ := h
    refine ⟨_, (pss_one (ps_ret (pe_ix ix_list (lstN (pa_cons pe_int (pa_cons pe_int (pa_cons pe_int (pa_cons pe_int (pa_cons pe_int (pa_cons pe_int (pa_cons pe_int (pa_cons pe_int pa_nil))))))))) (callD D_law_draw (hr.mono (by decide)) (pa_cons (pv 0) (pa_cons pe_int pa_nil))) (fun _ _ => rfl)))), ?_⟩
    refine ⟨(by show 8 ≤ sizeLine; decide), fun p1 H1 n1 s1 g1 => ⟨.ref d, rfl, d, l, 8, rfl, by decide, by decide, (Step.of D s1).deck, fun i H2 i0 i1 S2 => ?_⟩⟩
    have np := D.nd n1
    have e2 := S2.at np.1 np.2 g1
    have S := (Step.of D s1).trans S2
    obtain rfl | rfl | rfl | rfl | rfl | rfl | rfl | rfl : i = 0 ∨ i = 1 ∨ i = 2 ∨ i = 3 ∨ i = 4 ∨ i = 5 ∨ i = 6 ∨ i = 7 := by omega
    all_goals exact ⟨p1, _, _, _, rfl, rfl, .inl (.inl e2), rfl, q _ _ (by decide) (by decide) S⟩

theorem ok_law_many {f : Addr} {fd : FuncData} (F : Fun K "_law_many" "_law_many" s_law_many f fd) (T : Bt mg) (D_law_draw : Def P w K mg base 1 "_law_draw" ["_law_deck_here", "_law_most"] spDraw) :
    FnG P w K mg base CX0 2 f fd ["_law_deck_here", "_law_most"] spMany := by
  refine okG (k := 1) F sc_law_many (fun vs H Q E h => ?_) (fun cdv A outer s H vs Q E hr h => ?_)
  · obtain ⟨d, l, m, rfl, _⟩ := h
    rfl
  · obtain ⟨d, l, m, rfl, m0, m1, D, q⟩ := h
    refine ⟨_, (pss_one (ps_ret (pe_ix ix_list (lstN (pa_cons (callD D_law_draw (hr.mono (by decide)) (pa_cons (pv 0) (pa_cons (pe_op op_add (pv 1) pe_int) pa_nil))) (pa_cons pe_int pa_nil))) (pe_callTy call_int1 (by rfl) T.int (by decide +kernel) (pa_cons (pe_cmpR op_eq (callD D_law_draw (hr.mono (by decide)) (pa_cons (pv 0) (pa_cons pe_int pa_nil))) pe_int (nomark _)) pa_nil)) (fun _ _ => rfl)))), ?_⟩
    refine ⟨.ref d, rfl, _, rfl, _, _, rfl, rfl, d, l, _, rfl, by omega, by omega, D, fun a H1 a0 a1 S1 => ⟨(by show 2 ≤ sizeLine; decide), fun p1 H2 n2 s2 g2 => ?_⟩⟩
    refine ⟨.ref d, rfl, d, l, 16, rfl, by decide, by decide, (Step.of S1.deck s2).deck, fun b H3 b0 b1 S3 => ⟨rfl, ?_⟩⟩
    have np := S1.deck.nd n2
    have e3 := S3.at np.1 np.2 g2
    have S := (S1.trans (Step.of S1.deck s2)).trans S3
    generalize decide (V.int b = V.int 9) = c
    cases c
    · exact .inr ⟨_, rfl, p1, _, _, .int a.toNat, rfl, rfl, .inl (.inl e3), by show some (V.int a) = _; rw [Int.toNat_of_nonneg a0], q _ _ (by omega) S⟩
    · exact .inr ⟨_, rfl, p1, _, _, .int (12 : Nat), rfl, rfl, .inl (.inl e3), rfl, q _ _ (by decide) S⟩

end
end Cl

set_option maxHeartbeats 0
namespace Cl
open PySem PySem.Spec PyProof.Rows L2
open GxR (TabB TabG)


def crn (g : Int) (p : Pt) : Pt := (nr p.1 g, nr p.2 g)
def crnS (g : Int) (s : S3) : Pt := (nr s.1 (s.2.2 * g), nr s.2.1 (s.2.2 * g))
theorem crnS_one (g : Int) (p : Pt) : crnS g (one3 p) = crn g p := by
  unfold crnS crn one3
  simp
def endRow (g : Int) (ls : List Ln) (k : Nat) : List Rw := match ls[k]? with
  | some l => [(crn g l.1, ("end", (k : Int), 0)), (crn g l.2, ("end", (k : Int), 1))]
  | none => []
def rowS (g : Int) (k l : Nat) (ss : List S3) : List Rw := match ss with
  | [s] => [(crnS g s, ("cross", (k : Int), (l : Int)))]
  | _ => []
def crossRow (g : Int) (ls : List Ln) (k l : Nat) : List Rw := match ls[k]?, ls[l]? with
  | some a, some b => rowS g k l (cmn a b)
  | _, _ => []
def ends (g : Int) (ls : List Ln) (n : Nat) : List Rw := (List.range n).flatMap (endRow g ls)
def prs (n : Nat) : List (Nat × Nat) := (List.range n).flatMap fun k => (List.range (n - (k + 1))).map fun j => (k, k + 1 + j)
def crosses (g : Int) (ls : List Ln) (ps : List (Nat × Nat)) : List Rw := ps.flatMap fun p => crossRow g ls p.1 p.2
def AtKL (K : PySem.W.Frag) (H : Hp) (v : V) (p : Nat × Nat) : Prop := ∃ a, v = .ref a ∧ SqT K H a [.int p.1, .int p.2]
theorem AtKL.same {K : PySem.W.Frag} {H H' : Hp} {v : V} {p : Nat × Nat} (h : AtKL K H v p) (s : Same H H') : AtKL K H' v p := by
  obtain ⟨a, e, h⟩ := h
  exact ⟨a, e, seT s h⟩
theorem AtRw.upd {H : Hp} {M : Addr} {xs : List V} {o : HO} {v : V} {r : Rw} (h : AtRw H v r) (e : H M = some (.lst xs)) : AtRw (L2.upd H M o) v r := by
  obtain ⟨p, c, w, rfl, h1, h2, h3⟩ := h
  exact ⟨p, c, w, rfl, by rw [upd_ne (ne_of h1 e fun z => nomatch z)]; exact h1, by rw [upd_ne (ne_of h2 e fun z => nomatch z)]; exact h2, by rw [upd_ne (ne_of h3 e fun z => nomatch z)]; exact h3⟩
theorem AtKL.upd {K : PySem.W.Frag} {H : Hp} {M : Addr} {xs : List V} {o : HO} {v : V} {r : Nat × Nat} (h : AtKL K H v r) (e : H M = some (.lst xs)) : AtKL K (L2.upd H M o) v r := by
  obtain ⟨a, rfl, h⟩ := h
  exact ⟨a, rfl, updT e h⟩
def AtRws (H : Hp) (v : V) (R : List Rw) : Prop := ∃ a vs, v = .ref a ∧ H a = some (.lst vs) ∧ AllAt (AtRw H) vs R
theorem AtRws.same {H H' : Hp} {v : V} {R : List Rw} (h : AtRws H v R) (s : Same H H') : AtRws H' v R := by
  obtain ⟨a, vs, e, h1, h2⟩ := h
  exact ⟨a, vs, e, s _ _ h1, h2.map fun _ _ z => z.same s⟩
def spCornerAtN (K : PySem.W.Frag) : Sp := fun vs H Q _ => ∃ (g : Int) (v : V) (s : S3), vs = [.int g, v] ∧ At3 K H v s ∧ 0 < g ∧ g < 2 ^ 60 ∧ 0 < s.2.2 ∧ s.2.2 * g < 2 ^ 60 ∧
  New H (.tup [.int (nr s.1 (s.2.2 * g)), .int (nr s.2.1 (s.2.2 * g))]) Q
def spPairs (K : PySem.W.Frag) : Sp := fun vs H Q _ => ∃ n : Nat, vs = [.int n] ∧ n ≤ 12 ∧ ∀ a H' vs, H a = none → Same H H' → H' a = some (.lst vs) → AllAt (AtKL K H') vs (prs n) → Q (.ref a) H'
def Lns (K : PySem.W.Frag) (H : Hp) (g : Int) (v : V) (ls : List Ln) : Prop := (0 < g ∧ g ≤ 1000) ∧ AtT K H v ls ∧ ls.length ≤ 12 ∧ ∀ r ∈ ls, GoodLn 2000000 r
def spEnds (K : PySem.W.Frag) : Sp := fun vs H Q _ => ∃ g v ls, vs = [.int g, v] ∧ Lns K H g v ls ∧ ∀ u H', Same H H' → AtRws H' u (ends g ls ls.length) → Q u H'
def spCrosses (K : PySem.W.Frag) : Sp := fun vs H Q _ => ∃ g v ls, vs = [.int g, v] ∧ Lns K H g v ls ∧ ∀ u H', Same H H' → AtRws H' u (crosses g ls (prs ls.length)) → Q u H'
theorem AtT.same {K : PySem.W.Frag} {H H' : Hp} {v : V} {ls : List Ln} (h : AtT K H v ls) (s : Same H H') : AtT K H' v ls := by
  obtain ⟨a, vs, e, h1, h2⟩ := h
  exact ⟨a, vs, e, seT s h1, h2.map fun _ _ z => z.same s⟩
theorem Lns.same {K : PySem.W.Frag} {H H' : Hp} {g : Int} {v : V} {ls : List Ln} (h : Lns K H g v ls) (s : Same H H') : Lns K H' g v ls := ⟨h.1, h.2.1.same s, h.2.2.1, h.2.2.2⟩
theorem ends_len (g : Int) (ls : List Ln) : ∀ n, (ends g ls n).length ≤ 2 * n
  | 0 => Nat.le_refl _
  | n + 1 => by
    have := ends_len g ls n
    unfold ends at *
    rw [List.range_succ, List.flatMap_append, List.length_append]
    have h : ([n].flatMap (endRow g ls)).length ≤ 2 := by
      rw [List.flatMap_singleton]
      unfold endRow
      split <;> simp
    omega
theorem rowS_len (g : Int) (k l : Nat) (ss : List S3) : (rowS g k l ss).length ≤ 1 := by
  unfold rowS
  split <;> simp
theorem crossRow_len (g : Int) (ls : List Ln) (k l : Nat) : (crossRow g ls k l).length ≤ 1 := by
  unfold crossRow
  split
  · exact rowS_len ..
  · simp
theorem crosses_len (g : Int) (ls : List Ln) : ∀ ps : List (Nat × Nat), (crosses g ls ps).length ≤ ps.length
  | [] => Nat.le_refl _
  | p :: ps => by
    have := crosses_len g ls ps
    have h := crossRow_len g ls p.1 p.2
    unfold crosses at *
    rw [List.flatMap_cons, List.length_append, List.length_cons]
    omega
theorem prs_pre_len (n : Nat) : ∀ i : Nat, ((List.range i).flatMap fun k => (List.range (n - (k + 1))).map fun j => (k, k + 1 + j)).length ≤ i * n
  | 0 => by simp
  | i + 1 => by
    have := prs_pre_len n i
    rw [List.range_succ, List.flatMap_append, List.flatMap_singleton, List.length_append, List.length_map, List.length_range, Nat.add_mul]
    omega
theorem prs_len {n : Nat} (h : n ≤ 12) : (prs n).length ≤ 66 := by
  have : ∀ m : Fin 13, (prs m.1).length ≤ 66 := by decide +kernel
  exact this ⟨n, by omega⟩
theorem prs_mem {n : Nat} {p : Nat × Nat} (h : p ∈ prs n) : p.1 < p.2 ∧ p.2 < n := by
  unfold prs at h
  obtain ⟨k, hk, h⟩ := List.mem_flatMap.mp h
  obtain ⟨j, hj, rfl⟩ := List.mem_map.mp h
  have h1 := List.mem_range.mp hk
  have h2 := List.mem_range.mp hj
  exact ⟨by show k < k + 1 + j; omega, by show k + 1 + j < n; omega⟩
theorem AllAt.lone {α : Type} {R : V → α → Prop} {vs : List V} {xs : List α} (h : AllAt R vs xs) (l : vs.length = 1) : ∃ u t, vs = [u] ∧ xs = [t] ∧ R u t := by
  cases h with
  | nil => cases l
  | cons h1 h2 =>
    cases h2 with
    | nil => exact ⟨_, _, rfl, rfl, h1⟩
    | cons _ _ => simp at l
theorem rowS_not {g : Int} {k l : Nat} {ss : List S3} (h : ss.length ≠ 1) : rowS g k l ss = [] := by
  unfold rowS
  split
  · exact absurd rfl h
  · rfl
theorem genR {lo : Int} {n : Nat} {H0 : Hp} {Qd : Hp → Prop} {BODY : V → Hp → (Hp → Prop) → Prop} (Pv : Nat → Hp → Prop) (h0 : Pv 0 H0)
    (hs : ∀ i H, i < n → Pv i H → BODY (.int (lo + i)) H (Pv (i + 1))) (hd : ∀ H, Pv n H → Qd H) :
    ∃ W : Nat → Nat → Hp → Prop, (∃ m, W 0 m H0) ∧ ∀ i m H, W i m H → ((Itr lo n).stop i H ∧ Qd H) ∨ ((Itr lo n).go i H ∧ ∃ Nx : Hp → Prop, (∀ H', Nx H' → ∃ m', m' < m ∧ W (i + 1) m' H') ∧ ∀ x H', (Itr lo n).yld i H x H' → BODY x H' Nx) := by
  refine ⟨fun i m H => m = n - i ∧ i ≤ n ∧ Pv i H, ⟨n, by simp, Nat.zero_le _, h0⟩, ?_⟩
  rintro i m H ⟨rfl, hi, p⟩
  by_cases hlt : i < n
  · refine .inr ⟨hlt, Pv (i + 1), fun H' p' => ⟨n - (i + 1), by omega, rfl, hlt, p'⟩, fun x H' y => ?_⟩
    obtain ⟨e, y⟩ := y
    subst e y
    exact hs i _ hlt p
  · have e : i = n := by omega
    subst e
    exact .inl ⟨Nat.le_refl _, hd H p⟩
/-- bounds of what two such lines have in common -/
theorem good_L {r : Ln} (h : GoodLn 2000000 r) : BdL r := by
  obtain ⟨h1, h2, _⟩ := h
  unfold BdN at h1 h2
  exact ⟨by unfold BdC; omega, by unfold BdC; omega⟩
theorem mul_b {a b : Int} (h1 : -4000000 ≤ a) (h2 : a ≤ 4000000) (h3 : -4000000 ≤ b) (h4 : b ≤ 4000000) : -16000000000000 ≤ a * b ∧ a * b ≤ 16000000000000 := by
  have e : (a * b).natAbs ≤ 4000000 * 4000000 := by
    rw [Int.natAbs_mul]
    exact Nat.mul_le_mul (by omega) (by omega)
  omega
theorem cmn_den {l r : Ln} (hl : GoodLn 2000000 l) (hr : GoodLn 2000000 r) : ∀ s ∈ cmn l r, 0 < s.2.2 ∧ s.2.2 ≤ 2 ^ 46 := by
  intro s hs
  unfold cmn at hs
  split at hs
  · rename_i h0
    unfold acr at hs
    simp only at hs
    split at hs
    · have hp := klm_pos l r h0
      rw [List.mem_singleton.mp hs]
      obtain ⟨k, _, _, _, _, h2, h3⟩ := spot_pos (n := (klm l r).2.2 * l.1.1 + (klm l r).1 * (l.2.1 - l.1.1)) (m := (klm l r).2.2 * l.1.2 + (klm l r).1 * (l.2.2 - l.1.2)) hp
      refine ⟨h2, Int.le_trans h3 ?_⟩
      obtain ⟨a1, a2, _⟩ := hl
      obtain ⟨b1, b2, _⟩ := hr
      unfold BdN at a1 a2 b1 b2
      have m1 := mul_b (a := l.2.1 - l.1.1) (b := r.2.2 - r.1.2) (by omega) (by omega) (by omega) (by omega)
      have m2 := mul_b (a := l.2.2 - l.1.2) (b := r.2.1 - r.1.1) (by omega) (by omega) (by omega) (by omega)
      show trn (less l.2 l.1) (less r.2 r.1) * kfs l r ≤ _
      have e : trn (less l.2 l.1) (less r.2 r.1) = (l.2.1 - l.1.1) * (r.2.2 - r.1.2) - (l.2.2 - l.1.2) * (r.2.1 - r.1.1) := rfl
      unfold kfs
      split <;> omega
    · cases hs
  · split at hs
    · cases hs
    · have one : ∀ p : Pt, 0 < (one3 p).2.2 ∧ (one3 p).2.2 ≤ 2 ^ 46 := fun p => by show (0 : Int) < 1 ∧ (1 : Int) ≤ 2 ^ 46; decide
      unfold alo at hs
      split at hs
      · cases hs
      · split at hs
        · rw [List.mem_singleton.mp hs]
          exact one _
        · rcases List.mem_cons.mp hs with rfl | hs
          · exact one _
          · rw [List.mem_singleton.mp hs]
            exact one _

section
variable {P : Program} {w : World} {K : PySem.W.Frag} {mg : Str → Option Value} {base : Heap}

theorem oknearest {f : Addr} {fd : FuncData} (F : Fun K "nearest" "nearest" snearest f fd) (T : Bt mg) :
    FnG P w K mg base CX0 1 f fd ["n", "d"] spNear := by
  refine okG (k := 0) F scnearest (fun vs H Q E h => ?_) (fun cdv A outer s H vs Q E hr h => ?_)
  · obtain ⟨n, d, rfl, _⟩ := h
    rfl
  · obtain ⟨n, d, rfl, h0, h1, q⟩ := h
    refine ⟨_, (pss_one (ps_ret (pe_op op_fdivW (pe_op op_add (pe_op op_mul pe_int (pv 0)) (pv 1)) (pe_op op_mul pe_int (pv 1))))), ?_⟩
    exact ⟨_, rfl, _, _, rfl, rfl, .inl (by decide), _, rfl, _, _, rfl, rfl, _, rfl, _, _, rfl, rfl, .inl (by decide), _, _, rfl, rfl, wide_div (b := 64) (by omega) (by omega) (by decide) (by decide), q⟩

theorem okcorner_of {f : Addr} {fd : FuncData} (F : Fun K "corner_of" "corner_of" scorner_of f fd) (T : Bt mg) (Dnearest : Def P w K mg base 1 "nearest" ["n", "d"] spNear) :
    FnG P w K mg base CX0 2 f fd ["grain", "point"] (spCorner K) := by
  refine okG (k := 1) F sccorner_of (fun vs H Q E h => ?_) (fun cdv A outer s H vs Q E hr h => ?_)
  · obtain ⟨g, a, x, y, rfl, _⟩ := h
    rfl
  · obtain ⟨g, a, x, y, rfl, hS, h0, h1, q⟩ := h
    refine ⟨_, (pss_cons (ps_asg (pv 1) (pg_tup (by rfl) (pgs_cons (pg_name (i := 2) sccorner_of.nd rfl (.inl rfl)) (pgs_cons (pg_name (i := 3) sccorner_of.nd rfl (.inl rfl)) pgs_nil))))
      (pss_one (ps_ret (tupN (pa_cons (callD Dnearest (hr.mono (by decide)) (pa_cons (pv 2) (pa_cons (pv 0) pa_nil))) (pa_cons (callD Dnearest (hr.mono (by decide)) (pa_cons (pv 3) (pa_cons (pv 0) pa_nil))) pa_nil)))))), ?_⟩
    refine ⟨.ref a, rfl, a, _, rfl, hS, rfl, _, _, rfl, _, _, rfl, rfl, ?_⟩
    exact ⟨_, rfl, _, rfl, x, g, rfl, h0, h1, _, rfl, _, rfl, y, g, rfl, h0, h1, (by show 2 ≤ sizeLine; decide), q⟩

theorem okcorner_at {f : Addr} {fd : FuncData} (F : Fun K "corner_at" "corner_at" scorner_at f fd) (T : Bt mg) (Dnearest : Def P w K mg base 1 "nearest" ["n", "d"] spNear) :
    FnG P w K mg base CX0 2 f fd ["grain", "spot"] (spCornerAtN K) := by
  refine okG (k := 1) F sccorner_at (fun vs H Q E h => ?_) (fun cdv A outer s H vs Q E hr h => ?_)
  · obtain ⟨g, v, s, rfl, _⟩ := h
    rfl
  · obtain ⟨g, _, s, rfl, ⟨a, rfl, hS⟩, h0, h1, h2, h3, q⟩ := h
    refine ⟨_, (pss_cons (ps_asg (pv 1) (pg_tup (by rfl) (pgs_cons (pg_name (i := 2) sccorner_at.nd rfl (.inl rfl)) (pgs_cons (pg_name (i := 3) sccorner_at.nd rfl (.inl rfl)) (pgs_cons (pg_name (i := 4) sccorner_at.nd rfl (.inl rfl)) pgs_nil)))))
      (pss_one (ps_ret (tupN (pa_cons (callD Dnearest (hr.mono (by decide)) (pa_cons (pv 2) (pa_cons (pe_op op_mul (pv 4) (pv 0)) pa_nil))) (pa_cons (callD Dnearest (hr.mono (by decide)) (pa_cons (pv 3) (pa_cons (pe_op op_mul (pv 4) (pv 0)) pa_nil))) pa_nil)))))), ?_⟩
    have h4 : 0 < s.2.2 * g := Int.mul_pos h2 h0
    refine ⟨.ref a, rfl, a, _, rfl, hS, rfl, _, _, rfl, _, _, rfl, _, _, rfl, rfl, ?_⟩
    exact ⟨_, rfl, _, rfl, _, rfl, _, _, rfl, rfl, .inr (by omega), _, _, rfl, h4, h3, _, rfl, _, rfl, _, rfl, _, _, rfl, rfl, .inr (by omega), _, _, rfl, h4, h3, (by show 2 ≤ sizeLine; decide), q⟩

end
end Cl

set_option maxHeartbeats 0
namespace Cl
open PySem PySem.Spec PyProof.Rows L2
open GxR (TabB TabG)


def rowsP (g : Int) (ls : List Ln) : List Rw := ends g ls ls.length ++ crosses g ls (prs ls.length)
def spWants (K : PySem.W.Frag) : Sp := fun vs H Q _ => ∃ g v ls, vs = [.int g, v] ∧ Lns K H g v ls ∧ ∀ u H' L, Same H H' → AtDue K H' u L → IsDue (rowsP g ls) L → Q u H'
/-- the corners, rising -/
def IsCs (R : List Rw) (cs : List Pt) : Prop := cs.Pairwise leP ∧ cs.Nodup ∧ ∀ p, p ∈ cs ↔ ∃ r ∈ R, r.1 = p
def spCorners (K : PySem.W.Frag) : Sp := fun vs H Q _ => ∃ g v ls, vs = [.int g, v] ∧ Lns K H g v ls ∧ ∀ u H' cs, Same H H' → AtP K H' u cs → IsCs (rowsP g ls) cs → Q u H'
theorem rowsP_len {g : Int} {ls : List Ln} (h : ls.length ≤ 12) : (rowsP g ls).length ≤ 90 := by
  unfold rowsP
  have h1 := ends_len g ls ls.length
  have h2 := crosses_len g ls (prs ls.length)
  have h3 := prs_len h
  rw [List.length_append]
  omega
theorem AtRw.upd2 {H : Hp} {M : Addr} {o : HO} {v : V} {r : Rw} (h : AtRw H v r) (n : ∀ xs, H M ≠ some (.tup xs)) : AtRw (L2.upd H M o) v r := by
  obtain ⟨p, c, w, rfl, h1, h2, h3⟩ := h
  have k : ∀ {a : Addr} {xs : List V}, H a = some (.tup xs) → (L2.upd H M o) a = some (.tup xs) := fun {a xs} e => by
    rw [upd_ne (fun z => n xs (by rw [← z]; exact e))]
    exact e
  exact ⟨p, c, w, rfl, k h1, k h2, k h3⟩
theorem AtD.upd {K : PySem.W.Frag} {H : Hp} {M : Addr} {xs : List V} {o : HO} {v : V} {d : Pt × List Wt} (h : AtD K H v d) (e : H M = some (.lst xs)) : AtD K (L2.upd H M o) v d := by
  obtain ⟨a, u, b, ws, rfl, h1, h2, h3, h4⟩ := h
  exact ⟨a, u, b, ws, rfl, updT e h1, At2.upd h2 e, updT e h3, h4.map fun _ _ ⟨c, z, hc⟩ => ⟨c, z, updT e hc⟩⟩
theorem IsDue.cs {R : List Rw} {L : List (Pt × List Wt)} (h : IsDue R L) : IsCs R (L.map (·.1)) := ⟨h.srt, h.nd, h.mem⟩

section
variable {P : Program} {w : World} {K : PySem.W.Frag} {mg : Str → Option Value} {base : Heap}

theorem okwants_of {f : Addr} {fd : FuncData} (F : Fun K "wants_of" "wants_of" swants_of f fd) (T : Bt mg) (Dend_wants : Def P w K mg base 3 "end_wants" ["grain", "lines"] (spEnds K)) (Dcross_wants : Def P w K mg base 6 "cross_wants" ["grain", "lines"] (spCrosses K)) :
    FnG P w K mg base CX0 7 f fd ["grain", "lines"] (spWants K) := by
  refine okG (k := 6) F scwants_of (fun vs H Q E h => ?_) (fun cdv A outer s H vs Q E hr h => ?_)
  · obtain ⟨g, v, ls, rfl, _⟩ := h
    rfl
  · obtain ⟨g, v, ls, rfl, hL, q⟩ := h
    refine ⟨_, (pss_cons (ps_set (i := 2) scwants_of.nd rfl (.inr rfl) pe_dnewT)
      (pss_cons (ps_for PassesOwn.never rfl (pi_tup (tupN (StX.pa_star (callD Dend_wants (hr.mono (by decide)) (pa_cons (pv 0) (pa_cons (pv 1) pa_nil))) (StX.pa_star (callD Dcross_wants (hr.mono (by decide)) (pa_cons (pv 0) (pa_cons (pv 1) pa_nil))) pa_nil)))) (pg_tup (by rfl) (pgs_cons (pg_name (i := 3) scwants_of.nd rfl (.inl rfl)) (pgs_cons (pg_name (i := 4) scwants_of.nd rfl (.inl rfl)) pgs_nil))) (pss_one (ps_expr (pe_bm PySem.F.plainAttrs_list PySem.F.slot_list_append PySem.F.type_list_append mt_append (pe_setdT hr.room.units (pv 2) (pv 3) (lstN pa_nil) ⟨rfl, rfl, rfl, rfl⟩) (pa_cons (pv 4) pa_nil)))))
      (pss_one (ps_ret (pe_callTy call_tuple_ofN (by rfl) T.tuple (by decide +kernel) (pa_cons (pe_lc (own := [("corner", 3)]) (g := gName 3) (tt := tYes) (by rfl) scwants_of.nd (pi_list (pe_callB (cr_sortPt rfl) (by rfl) T.sorted (by decide +kernel) (pa_cons (pv 2) pa_nil))) (blkOk_by (own := [("corner", 3)]) (N := ["grain", "lines", "found", "corner", "want"]) (sc := defScope swants_of) (by decide +kernel)) (fun _ _ _ _ _ => (pg_name (i := 3) scwants_of.nd rfl (.inl rfl))) (fun _ _ _ _ _ => pts_nil) (fun _ _ _ _ _ => (tupN (pa_cons (pv 3) (pa_cons (pe_callTy (call_tuple_ofNk (K := K) rfl) (by rfl) T.tuple (by decide +kernel) (pa_cons (pe_callB (cr_sortTupk (K := K) rfl shW) (by rfl) T.sorted (by decide +kernel) (pa_cons (pe_dget (units1 hr.room.units) (pv 2) (pv 3) (fun _ _ => rfl)) pa_nil)) pa_nil)) pa_nil))))) pa_nil)))))), ?_⟩
    intro pd nd
    have s0 : Same H (upd H pd (.dT [])) := same_new nd
    have gd : (upd H pd (.dT [])) pd = some (.dT []) := upd_same
    generalize upd H pd (.dT []) = H0 at s0 gd ⊢
    refine ⟨_, rfl, _, rfl, g, v, ls, rfl, hL.same s0, fun u1 H1 s1 e1 => ?_⟩
    obtain ⟨a1, vs1, rfl, f1, all1⟩ := e1
    refine ⟨a1, vs1, rfl, .inr (.inl (.inl f1)), ?_⟩
    refine ⟨_, rfl, _, rfl, g, v, ls, rfl, hL.same (s0.trans s1), fun u2 H2 s2 e2 => ?_⟩
    obtain ⟨a2, vs2, rfl, f2, all2⟩ := e2
    refine ⟨a2, vs2, rfl, .inr (.inl (.inl f2)), ?_⟩
    have l1 := all1.length
    have l2 := all2.length
    have lR : (rowsP g ls).length ≤ 90 := rowsP_len hL.2.2.1
    have lR2 : (rowsP g ls).length = (ends g ls ls.length).length + (crosses g ls (prs ls.length)).length := List.length_append
    refine ⟨Nat.le_of_lt (small1000 (by rw [List.length_append, List.append_nil]; omega)), fun P H3 n3 s3 g3 => ?_⟩
    have S3 := s0.trans (s1.trans (s2.trans s3))
    have all : AllAt (AtRw H3) (vs1 ++ (vs2 ++ [])) (rowsP g ls) := by
      rw [List.append_nil]
      exact (all1.map fun _ _ z => z.same (s2.trans s3)).app (all2.map fun _ _ z => z.same s3)
    generalize vs1 ++ (vs2 ++ []) = xs at g3 all ⊢
    have lx := all.length
    refine ⟨P, rfl, ⟨_, .inl (.inl g3)⟩, for_tup (K := K) (a := P) (xs := xs) (fun i σ H' => ∃ y3 y4, σ = [some (.int g), some v, some (.ref pd), y3, y4] ∧ Same H H' ∧ H' P = some (.tup xs) ∧ AllAt (AtRw H') xs (rowsP g ls) ∧ ∃ E, GrpAt H pd ((rowsP g ls).take i) E H') ?_ (fun i σ H' _ z => ?_) ?_ ?_⟩
    · exact ⟨_, _, rfl, S3, g3, all, [], .nil ((s1.trans (s2.trans s3)) _ _ gd)⟩
    · obtain ⟨_, _, _, _, z, _⟩ := z
      exact .inl (.inl z)
    · rintro i x σ H4 hx ⟨y3, y4, rfl, t1, gP, al, E, G⟩
      obtain ⟨r, hr_, p, c, w, rfl, k1, k2, k3⟩ := al.get hx
      have eT : (rowsP g ls).take (i + 1) = (rowsP g ls).take i ++ [r] := by rw [List.take_add_one, hr_]; rfl
      have lt : ((rowsP g ls).take i).length ≤ 90 := by rw [List.length_take]; omega
      have lE := G.len
      refine ⟨p, _, rfl, .inl (.inl k1), rfl, _, _, rfl, _, _, rfl, rfl, ?_⟩
      refine ⟨_, rfl, pd, rfl, ⟨_, G.dict⟩, _, rfl, Nat.zero_le _, fun P2 H5 n5 s5 g5 => ?_⟩
      have G5 := G.same s5
      have no2 : NotOld H P2 := notOld t1 n5
      refine ⟨kvO E, pkey r.1, c, G5.dict, rfl, s5 _ _ k2, by unfold kvO; rw [List.length_map]; exact small1000 (by omega), fun v' hv => ?_, fun hn => ?_⟩
      · obtain ⟨L, vs, rfl, m1, m2, m3, G6⟩ := G5.there (r := r) (w := .ref w) hv ⟨w, rfl, s5 _ _ k3⟩
        have lw := wsOf_len ((rowsP g ls).take i) r.1
        refine ⟨.inl ⟨rfl, _, .inl (.inl m2)⟩, _, rfl, L, vs, .ref w, rfl, rfl, m2, by rw [m3]; exact small1000 (by omega), ?_⟩
        refine ⟨_, _, rfl, (t1.trans s5).upNo m1, ?_, al.map fun _ _ z => AtRw.upd (z.same s5) m2, E, by rw [eT]; exact G6⟩
        rw [upd_ne (ne_of (s5 _ _ gP) m2 fun z => nomatch z)]
        exact s5 _ _ gP
      · have nE : ∀ e ∈ E, e.2 ≠ P2 := fun e he => by obtain ⟨_, vs, b1, _⟩ := G.lst e he; exact ne_of_none b1 n5
        obtain ⟨hP2, G6⟩ := G5.fresh (r := r) (w := .ref w) hn no2 nE g5 (.refl _) ⟨w, rfl, by rw [upd_ne (ne_of (s5 _ _ k3) G5.dict fun z => nomatch z)]; exact s5 _ _ k3⟩
        refine ⟨.inl ⟨rfl, _, .inl (.inl hP2)⟩, _, rfl, P2, [], .ref w, rfl, rfl, hP2, small1000 (by simp), ?_⟩
        have gP5 := s5 _ _ gP
        have nT1 : ∀ xs, H5 pd ≠ some (.tup xs) := fun xs e => by rw [G5.dict] at e; cases e
        have nT2 : ∀ xs, (upd H5 pd (.dT (putK (kvO E) (pkey r.1) (.ref P2)))) P2 ≠ some (.tup xs) := fun xs e => by rw [hP2] at e; cases e
        refine ⟨_, _, rfl, ((t1.trans s5).upN nd).upNo no2, ?_, al.map fun _ _ z => AtRw.upd2 (AtRw.upd2 (z.same s5) nT1) nT2, E ++ [(r.1, P2)], by rw [eT]; exact G6⟩
        rw [upd_ne (ne_of gP5 g5 fun z => nomatch z), upd_ne (ne_of gP5 G5.dict fun z => nomatch z)]
        exact gP5
    · rintro σ H4 ⟨y3, y4, rfl, t1, gP, al, E, G⟩
      rw [lx, List.take_length] at G
      have lE := G.len
      refine ⟨_, rfl, pd, kvO E, E.map (·.1), rfl, G.dict, kv_keys E, fun ys pm pw yt p5 H5 n5 s5 g5 => ?_⟩
      have ly := pm.length_eq
      rw [List.length_map, List.length_map] at ly
      refine ⟨p5, rfl, ⟨_, .inl (.inl g5)⟩, fun pD nD => ?_⟩
      refine lcL (K := K) (a := p5) (xs := ys.map fun y => V.ref y.1) (fun i H' => Same H5 H' ∧ ∃ ws Ls, H' pD = some (.lst ws) ∧ AllAt (AtD K H') ws Ls ∧ Ls.map (·.1) = (ys.take i).map (·.2) ∧ ∀ e ∈ Ls, e.2.Perm (wsOf (rowsP g ls) e.1) ∧ e.2.Pairwise wLe) nD (fun H' e1 e2 => ⟨e1, [], [], e2, .nil, rfl, fun _ h => nomatch h⟩) (fun i H' _ z => .inl (.inl (by exact z.1 _ _ g5))) (fun i z H' hz w => ?_) (fun H6 z => ?_)
      · obtain ⟨t2, ws, Ls, b1, b2, b3, b4⟩ := w
        rw [List.getElem?_map] at hz
        cases hy : ys[i]? with
        | none => rw [hy] at hz; cases hz
        | some y =>
        rw [hy] at hz
        cases hz
        have hm := List.mem_of_getElem? hy
        have hi := (List.getElem?_eq_some_iff.mp hy).1
        have hy1 := (s5.trans t2) _ _ (yt y hm)
        obtain ⟨e, he, ee⟩ := List.mem_map.mp (pm.mem_iff.mp (List.mem_map.mpr ⟨y, hm, rfl⟩))
        have G' := G.same (s5.trans t2)
        obtain ⟨_, vs, m1, m2⟩ := G'.lst e he
        have dg : DGet H' pd (.ref y.1) (some (.ref e.2)) := by
          rw [← kv_val G'.nk he, ee]
          exact DGet.t G'.dict hy1
        refine ⟨rfl, _, rfl, _, rfl, _, rfl, pd, .ref e.2, rfl, dg, e.2, vs, ctOf H', rfl, .inl (.inl m1), fun x hx => ?_, fun zs pmz pwz p6 H6 n6 s6 g6 => ⟨p6, zs, rfl, .inl (.inl g6), fun p7 H7 n7 s7 g7 => ⟨(by show 2 ≤ sizeLine; decide), fun p8 H8 n8 s8 g8 => ?_⟩⟩⟩
        · have aw := allw_at m2 x hx
          rw [aw.ct]
          obtain ⟨t, rfl, ht⟩ := aw
          exact ⟨t, rfl, .inl (.inl ht), fits_wV _, fun z => nomatch z⟩
        · obtain ⟨wl, c1, c2, c3⟩ := sorted_wants m2 pmz pwz
          have s68 := s6.trans (s7.trans s8)
          have k8 := s68 _ _ b1
          have ll : Ls.length = i := by
            have := congrArg List.length b3
            rw [List.length_map, List.length_map, List.length_take] at this
            omega
          refine ⟨ws, k8, by rw [b2.length, ll]; exact small1000 (by omega), fun b o z => ?_, ws ++ [.ref p8], Ls ++ [(y.2, wl)], upd_same, ?_, ?_, ?_⟩
          · rw [upd_ne (ne_of_none z nD)]; exact (t2.trans s68) _ _ z
          · refine (b2.map fun _ _ z => AtD.upd (z.same s68) k8).app (.cons (AtD.upd ⟨p8, .ref y.1, p7, zs, rfl, .inl (.inl g8), ⟨y.1, rfl, .inl (.inl (s68 _ _ hy1))⟩, .inl (.inl (s8 _ _ g7)), c1.map fun _ _ z => (z.same s68).wk⟩ k8) .nil)
          · rw [List.take_add_one, hy, List.map_append, List.map_append, b3]
            rfl
          · intro e' he'
            rcases List.mem_append.mp he' with he' | he'
            · exact b4 e' he'
            · rw [List.mem_singleton.mp he']
              refine ⟨?_, c3⟩
              rw [ee] at c2
              exact c2
      · obtain ⟨t2, ws, Ls, b1, b2, b3, b4⟩ := z
        rw [List.length_map, List.take_length] at b3
        refine ⟨pD, ws, rfl, .inl (.inl b1), fun p9 H9 n9 s9 g9 => q _ _ Ls (t1.trans (s5.trans (t2.trans s9))) ⟨p9, ws, rfl, .inl (.inl g9), b2.map fun _ _ z => z.same s9⟩ ⟨by rw [b3]; exact pw, by rw [b3]; exact pm.nodup_iff.mpr G.nk, b4, fun p => ?_⟩⟩
        rw [b3, pm.mem_iff, List.mem_map]
        exact G.mem p

end
end Cl

set_option maxHeartbeats 0
namespace Cl
open PySem PySem.Spec PyProof.Rows L2
open GxR (TabB TabG)


theorem IsDue.len {R : List Rw} {L : List (Pt × List Wt)} (h : IsDue R L) : L.length ≤ R.length := by
  have h1 : (L.map (·.1)).length ≤ (R.map (·.1)).length := List.Nodup.length_le_of_subset h.nd fun p hp => by
    obtain ⟨r, hr, z⟩ := (h.mem p).mp hp
    exact List.mem_map.mpr ⟨r, hr, z⟩
  simpa using h1
/-- the list L, which is newer than H, takes what is handed in there -/
def Grows (H Hx : Hp) (pd : Addr) (R : List Rw) (r : Rw) (L : Addr) (vs : List V) (Hz : Hp) : Prop := vs.length ≤ R.length ∧ Hz L = some (.lst vs) ∧ Same H Hz ∧ (∀ b xs, Hx b = some (.tup xs) → Hz b = some (.tup xs)) ∧
  ∀ Hw w, Same Hz Hw → AtW Hw w r.2 → Hw L = some (.lst vs) ∧ Same H (upd Hw L (.lst (vs ++ [w]))) ∧ ∃ E', GrpAt H pd (R ++ [r]) E' (upd Hw L (.lst (vs ++ [w])))
theorem grp_step {H Hx Hy : Hp} {pd P2 c : Addr} {R : List Rw} {E : List (Pt × Addr)} {r : Rw} (nd : H pd = none) (t : Same H Hx) (G : GrpAt H pd R E Hx) (n5 : Hx P2 = none) (s5 : Same Hx Hy) (g5 : Hy P2 = some (.lst []))
    (hc : Hx c = some (.tup [.int r.1.1, .int r.1.2])) (len : R.length ≤ 200) :
    Hy pd = some (.dT (kvO E)) ∧ Hy c = some (.tup ((pkey r.1).map kV)) ∧ (kvO E).length < sizeLine ∧ (∀ v, valV (kvO E) (pkey r.1) = some v → ∃ L us, v = .ref L ∧ Grows H Hx pd R r L us Hy) ∧
      (valV (kvO E) (pkey r.1) = none → Grows H Hx pd R r P2 [] (upd Hy pd (.dT (putK (kvO E) (pkey r.1) (.ref P2))))) := by
  have G5 := G.same s5
  have lE := G.len
  refine ⟨G5.dict, s5 _ _ hc, by unfold kvO; rw [List.length_map]; exact small1000 (by omega), fun v hv => ?_, fun hn => ?_⟩
  · obtain ⟨e, he, e1, rfl⟩ := val_kv hv
    obtain ⟨m1, vs, m2, m3⟩ := G5.lst e he
    have lw := wsOf_len R e.1
    refine ⟨_, vs, rfl, by rw [m3.length]; exact lw, m2, t.trans s5, fun b xs e => s5 _ _ e, fun Hw w sw hw => ?_⟩
    obtain ⟨L, vs', e3, b1, b2, b3, b4⟩ := (G5.same sw).there (r := r) (w := w) hv hw
    cases e3
    have e4 : vs' = vs := by
      have h1 := sw _ _ m2
      have h2 : Hw e.2 = some (.lst vs) := h1
      rw [h2] at b2
      exact (HO.lst.inj (Option.some.inj b2)).symm
    subst e4
    exact ⟨b2, (t.trans (s5.trans sw)).upNo b1, E, b4⟩
  · have nE : ∀ e ∈ E, e.2 ≠ P2 := fun e he => by obtain ⟨_, vs, b1, _⟩ := G.lst e he; exact ne_of_none b1 n5
    have no2 : NotOld H P2 := notOld t n5
    have sz : Same H (upd Hy pd (.dT (putK (kvO E) (pkey r.1) (.ref P2)))) := (t.trans s5).upN nd
    refine ⟨Nat.zero_le _, ?_, sz, fun b xs e => by rw [upd_ne (ne_of (s5 _ _ e) G5.dict fun z => nomatch z)]; exact s5 _ _ e, fun Hw w sw hw => ?_⟩
    · rw [upd_ne (ne_of g5 G5.dict fun z => nomatch z)]
      exact g5
    · obtain ⟨hP, G6⟩ := G5.fresh (r := r) (w := w) hn no2 nE g5 sw hw
      exact ⟨hP, (sz.trans sw).upNo no2, _, G6⟩
def rowsL (g : Int) (ls : List Ln) (n : Nat) : List Rw := (List.range n).flatMap fun k => endRow g ls k ++ (List.range k).flatMap fun l => crossRow g ls l k
theorem rowsL_len (g : Int) (ls : List Ln) : ∀ n : Nat, (rowsL g ls n).length ≤ n * (2 + n)
  | 0 => by simp [rowsL]
  | n + 1 => by
    have ih := rowsL_len g ls n
    have h1 : (endRow g ls n).length ≤ 2 := by
      unfold endRow
      split <;> simp
    have h2 : ∀ m : Nat, ((List.range m).flatMap fun l => crossRow g ls l n).length ≤ m := fun m => by
      induction m with
      | zero => simp
      | succ m ih =>
        have := crossRow_len g ls m n
        rw [List.range_succ, List.flatMap_append, List.flatMap_singleton, List.length_append]
        omega
    have h3 := h2 n
    have e : rowsL g ls (n + 1) = rowsL g ls n ++ (endRow g ls n ++ (List.range n).flatMap fun l => crossRow g ls l n) := by
      unfold rowsL
      rw [List.range_succ, List.flatMap_append, List.flatMap_singleton]
    rw [e, List.length_append, List.length_append]
    have e2 : (n + 1) * (2 + (n + 1)) = n * (2 + n) + (2 * n + 3) := by
      simp only [Nat.add_mul, Nat.mul_add]
      omega
    rw [e2]
    omega
theorem rowsL_succ (g : Int) (ls : List Ln) (n : Nat) : rowsL g ls (n + 1) = rowsL g ls n ++ (endRow g ls n ++ (List.range n).flatMap fun l => crossRow g ls l n) := by
  unfold rowsL
  rw [List.range_succ, List.flatMap_append, List.flatMap_singleton]
theorem crossCol_len (g : Int) (ls : List Ln) (n : Nat) : ∀ m : Nat, ((List.range m).flatMap fun l => crossRow g ls l n).length ≤ m
  | 0 => by simp
  | m + 1 => by
    have ih := crossCol_len g ls n m
    have := crossRow_len g ls m n
    rw [List.range_succ, List.flatMap_append, List.flatMap_singleton, List.length_append]
    omega
def spNearN (K : PySem.W.Frag) : Sp := fun vs H Q _ => ∃ (g : Int) (v : V) (s : S3), vs = [.int g, v] ∧ At3 K H v s ∧ 0 < g ∧ g ≤ 1000 ∧ 0 < s.2.2 ∧ s.2.2 ≤ 2 ^ 46 ∧
  New H (.tup [.int (nr s.1 (s.2.2 * g)), .int (nr s.2.1 (s.2.2 * g))]) Q
def spWantsL (K : PySem.W.Frag) : Sp := fun vs H Q _ => ∃ g v ls, vs = [.int g, v] ∧ Lns K H g v ls ∧ ∀ u H' L, Same H H' → AtDue K H' u L → IsDue (rowsL g ls ls.length) L → Q u H'

section
variable {P : Program} {w : World} {K : PySem.W.Frag} {mg : Str → Option Value} {base : Heap}

theorem okcorners_of {f : Addr} {fd : FuncData} (F : Fun K "corners_of" "corners_of" scorners_of f fd) (T : Bt mg) (Dwants_of : Def P w K mg base 7 "wants_of" ["grain", "lines"] (spWants K)) :
    FnG P w K mg base CX0 8 f fd ["grain", "lines"] (spCorners K) := by
  refine okG (k := 7) F sccorners_of (fun vs H Q E h => ?_) (fun cdv A outer s H vs Q E hr h => ?_)
  · obtain ⟨g, v, ls, rfl, _⟩ := h
    rfl
  · obtain ⟨g, v, ls, rfl, hL, q⟩ := h
    refine ⟨_, (pss_one (ps_ret (pe_callTy call_tuple_ofN (by rfl) T.tuple (by decide +kernel) (pa_cons (pe_lc (own := [("corner", 2), ("wants", 3)]) (g := gTup K 2 (gCons (gName 2) (gCons (gName 3) gNil))) (tt := tYes) (by rfl) sccorners_of.nd (pi_tup (callD Dwants_of (hr.mono (by decide)) (pa_cons (pv 0) (pa_cons (pv 1) pa_nil)))) (blkOk_by (own := [("corner", 2), ("wants", 3)]) (N := ["grain", "lines", "corner", "wants"]) (sc := defScope scorners_of) (by decide +kernel)) (fun _ _ _ _ _ => (pg_tup (by rfl) (pgs_cons (pg_name (i := 2) sccorners_of.nd rfl (.inl rfl)) (pgs_cons (pg_name (i := 3) sccorners_of.nd rfl (.inl rfl)) pgs_nil)))) (fun _ _ _ _ _ => pts_nil) (fun _ _ _ _ _ => (pv 2))) pa_nil)))), ?_⟩
    refine ⟨_, rfl, _, rfl, g, v, ls, rfl, hL, fun u H1 L s1 e1 d1 => ?_⟩
    obtain ⟨a, vs, rfl, hS, all⟩ := e1
    have lL := d1.len
    have lR := rowsP_len (g := g) hL.2.2.1
    refine ⟨a, rfl, ⟨_, hS⟩, fun pD nD => ?_⟩
    refine lcT (K := K) (a := a) (xs := vs) (fun i H' => Same H1 H' ∧ ∃ ws, H' pD = some (.lst ws) ∧ AllAt (At2 K H') ws ((L.take i).map (·.1))) nD (fun H' e1 e2 => ⟨e1, [], e2, .nil⟩) (fun i H' _ z => seT z.1 hS) (fun i z H' hz w => ?_) (fun H6 z => ?_)
    · obtain ⟨t1, ws, t2, t3⟩ := w
      obtain ⟨e, he, b, u, c, us, rfl, h1, h2, h3, h4⟩ := all.get hz
      refine ⟨b, _, rfl, seT t1 h1, rfl, _, _, rfl, _, _, rfl, rfl, ?_⟩
      refine ⟨rfl, _, rfl, ws, t2, by rw [t3.length, List.length_map, List.length_take]; exact small1000 (by omega), fun b' o z => ?_, ws ++ [u], upd_same, ?_⟩
      · rw [upd_ne (ne_of_none z nD)]; exact t1 _ _ z
      · rw [List.take_add_one, he, List.map_append]
        exact (t3.map fun _ _ z => At2.upd z t2).app (.cons (At2.upd (h2.same t1) t2) .nil)
    · obtain ⟨t1, ws, t2, t3⟩ := z
      rw [all.length, List.take_length] at t3
      exact ⟨pD, ws, rfl, .inl (.inl t2), fun p9 H9 n9 s9 g9 => q _ _ _ (s1.trans (t1.trans s9)) ⟨p9, ws, rfl, .inl (.inl g9), t3.map fun _ _ z => z.same s9⟩ d1.cs⟩

theorem ok_law_nearest {f : Addr} {fd : FuncData} (F : Fun K "_law_nearest" "_law_nearest" s_law_nearest f fd) (T : Bt mg) :
    FnG P w K mg base CX0 1 f fd ["_law_grain_here", "_law_spot"] (spNearN K) := by
  refine okG (k := 0) F sc_law_nearest (fun vs H Q E h => ?_) (fun cdv A outer s H vs Q E hr h => ?_)
  · obtain ⟨g, v, s, rfl, _⟩ := h
    rfl
  · obtain ⟨g, _, ⟨n, m, dd⟩, rfl, ⟨a, rfl, hS⟩, h0, h1, h2, h3, q⟩ := h
    refine ⟨_, (pss_cons (ps_asg (pv 1) (pg_tup (by rfl) (pgs_cons (pg_name (i := 2) sc_law_nearest.nd rfl (.inl rfl)) (pgs_cons (pg_name (i := 3) sc_law_nearest.nd rfl (.inl rfl)) (pgs_cons (pg_name (i := 4) sc_law_nearest.nd rfl (.inl rfl)) pgs_nil)))))
      (pss_one (ps_ret (tupN (pa_cons (pe_op op_fdivW (pe_op op_add (pe_op op_mul pe_int (pv 2)) (pe_op op_mul (pv 0) (pv 4))) (pe_op op_mul (pe_op op_mul pe_int (pv 0)) (pv 4))) (pa_cons (pe_op op_fdivW (pe_op op_add (pe_op op_mul pe_int (pv 3)) (pe_op op_mul (pv 0) (pv 4))) (pe_op op_mul (pe_op op_mul pe_int (pv 0)) (pv 4))) pa_nil)))))), ?_⟩
    have h2 : 0 < dd := h2
    have h3 : dd ≤ 2 ^ 46 := h3
    have mg : g * dd ≤ 1000 * 2 ^ 46 := Int.mul_le_mul h1 h3 (by omega) (by decide)
    have mp : 0 < g * dd := Int.mul_pos h0 h2
    have ea : 2 * g * dd = 2 * (g * dd) := Int.mul_assoc ..
    have dv : ∀ n : Int, CDivW n (2 * g * dd) := fun n => wide_div (b := 64) (by omega) (by omega) (by decide) (by decide)
    refine ⟨.ref a, rfl, a, _, rfl, hS, rfl, _, _, rfl, _, _, rfl, _, _, rfl, rfl, ?_⟩
    refine ⟨_, rfl, _, _, rfl, rfl, .inl (by decide), _, rfl, _, rfl, _, _, rfl, rfl, .inl (by omega), _, _, rfl, rfl, _, rfl, _, _, rfl, rfl, .inl (by decide), _, rfl, _, _, rfl, rfl, .inl (by omega), _, _, rfl, rfl, dv _, ?_⟩
    refine ⟨_, rfl, _, _, rfl, rfl, .inl (by decide), _, rfl, _, rfl, _, _, rfl, rfl, .inl (by omega), _, _, rfl, rfl, _, rfl, _, _, rfl, rfl, .inl (by decide), _, rfl, _, _, rfl, rfl, .inl (by omega), _, _, rfl, rfl, dv _, (by show 2 ≤ sizeLine; decide), ?_⟩
    have en : ∀ z : Int, nr z (dd * g) = (2 * z + g * dd) / (2 * g * dd) := fun z => by
      unfold nr
      rw [Int.mul_comm dd g, Int.mul_assoc 2 g dd]
    simp only [en] at q
    exact q

end
end Cl

set_option maxHeartbeats 0
namespace Cl
open PySem PySem.Spec PyProof.Rows L2
open GxR (TabB TabG)


def spPairL (K : PySem.W.Frag) : Sp := fun vs H Q _ => ∃ g u v x w l r c wd ns, vs = [.int g, u, v, x, w] ∧ AtL K H u l ∧ AtL K H v r ∧ At2 K H x c ∧ BdL l ∧ BdL r ∧ 0 < g ∧ g ≤ 1000 ∧ Pap K H w wd ns ∧ ns.length ≤ 9 ∧ B190 ns ∧ SeqAt.shaped (.tuple [.str wd]) = true ∧
  (isMeet l r wd ns = true → ns.getD 1 0 ≤ 2 ^ 46) ∧ ∀ H', Same H H' → Q (.bl (phB g l r c wd ns)) H'
theorem meet_shape {l r : Ln} {wd : Str} {ns : List Int} (h : isMeet l r wd ns = true) : wd = "meets" ∧ ∃ k m k2 n, ns = [k, m, k2, n] ∧ 1 ≤ m := by
  unfold isMeet at h
  split at h
  · simp only [Bool.and_eq_true, decide_eq_true_eq] at h
    exact ⟨h.1, _, _, _, _, rfl, (shQ_iff.mp h.2.1).1⟩
  · cases h
theorem near_raw (l : Ln) (k m g : Int) (h : 0 < m) : (nr (at3 l k m).1 ((at3 l k m).2.2 * g), nr (at3 l k m).2.1 ((at3 l k m).2.2 * g)) = (nr (cri l.1 0 * m + k * (cri l.2 0 - cri l.1 0)) (m * g), nr (cri l.1 1 * m + k * (cri l.2 1 - cri l.1 1)) (m * g)) := by
  have e0 : cri l.1 0 * m + k * (cri l.2 0 - cri l.1 0) = m * l.1.1 + k * (l.2.1 - l.1.1) := by
    show l.1.1 * m + k * (l.2.1 - l.1.1) = _
    rw [Int.mul_comm]
  have e1 : cri l.1 1 * m + k * (cri l.2 1 - cri l.1 1) = m * l.1.2 + k * (l.2.2 - l.1.2) := by
    show l.1.2 * m + k * (l.2.2 - l.1.2) = _
    rw [Int.mul_comm]
  rw [e0, e1]
  have := nr_spot (n := m * l.1.1 + k * (l.2.1 - l.1.1)) (m := m * l.1.2 + k * (l.2.2 - l.1.2)) (d := m) (g := g) h
  exact Prod.ext this.1 this.2
theorem apart_word {l r : Ln} {wd : Str} {ns : List Int} (h : isApart l r wd ns = true) : wd = "apart" := by
  unfold isApart at h
  split at h
  · simp only [Bool.and_eq_true, decide_eq_true_eq] at h
    first | exact h.1 | exact h.1.1
  · cases h

section
variable {P : Program} {w : World} {K : PySem.W.Frag} {mg : Str → Option Value} {base : Heap}

theorem ok_law_pair_so {f : Addr} {fd : FuncData} (F : Fun K "_law_pair_so" "_law_pair_so" s_law_pair_so f fd) (T : Bt mg) (D_law_is_along : Def P w K mg base 2 "_law_is_along" ["_law_one", "_law_other"] (spAlongL K)) (D_law_is_paper : Def P w K mg base 2 "_law_is_paper" ["_law_one", "_law_other", "_law_thing"] (spLPap K)) (D_law_nearest : Def P w K mg base 1 "_law_nearest" ["_law_grain_here", "_law_spot"] (spNearN K)) (D_law_number_at : Def P w K mg base 1 "_law_number_at" ["_law_line_here", "_law_k", "_law_m", "_law_at"] (spNumAt K)) :
    FnG P w K mg base CX0 3 f fd ["_law_grain_here", "_law_one", "_law_other", "_law_corner", "_law_thing"] (spPairL K) := by
  refine okG (k := 2) F sc_law_pair_so (fun vs H Q E h => ?_) (fun cdv A outer s H vs Q E hr h => ?_)
  · obtain ⟨g, u, v, x, w, l, r, c, wd, ns, rfl, _⟩ := h
    rfl
  · obtain ⟨g, u, v, x, w, l, r, c, wd, ns, rfl, hL, hR, hc, bl, br, g0, g1, hp, hl, hb, sh, hm, q⟩ := h
    refine ⟨_, (cutS (ps_if (PW.pt (pw_and (pt_val (pe_callB call_isi (by rfl) T.isinstance (by decide +kernel) (pa_cons (pv 4) (pa_cons (pe_bltn (v := .ty "tuple") (by rfl) T.tuple (by decide +kernel) rfl) pa_nil)))) (pw_and1 (pt_cmpR (op_eqD hr.room.units) (pv 4) (tupN (pa_cons pe_str pa_nil)) (nomark _))))) (pss_one (ps_ret (callD D_law_is_along (hr.mono (by decide)) (pa_cons (pv 1) (pa_cons (pv 2) pa_nil))))) pss_nil)
      (pss_cons (ps_if (pt_not (pt_val (callD D_law_is_paper (hr.mono (by decide)) (pa_cons (pv 1) (pa_cons (pv 2) (pa_cons (pv 4) pa_nil)))))) (pss_one (ps_ret pe_bl)) pss_nil)
      (pss_cons (ps_if (pt_cmpR op_eq (pe_ix ix_tup (pv 4) pe_int (fun _ _ => rfl)) pe_str (nomark _)) (pss_one (ps_ret pe_bl)) pss_nil)
      (pss_cons (ps_asg (pe_slice sl_tupB (pv 4) (po_some pe_int) (po_some pe_int)) (pg_tup (by rfl) (pgs_cons (pg_name (i := 5) sc_law_pair_so.nd rfl (.inl rfl)) (pgs_cons (pg_name (i := 6) sc_law_pair_so.nd rfl (.inl rfl)) pgs_nil))))
      (pss_one (ps_ret (pe_cmpR (op_neD hr.room.units) (callD D_law_nearest (hr.mono (by decide)) (pa_cons (pv 0) (pa_cons (tupN (pa_cons (callD D_law_number_at (hr.mono (by decide)) (pa_cons (pv 1) (pa_cons (pv 5) (pa_cons (pv 6) (pa_cons pe_int pa_nil))))) (pa_cons (callD D_law_number_at (hr.mono (by decide)) (pa_cons (pv 1) (pa_cons (pv 5) (pa_cons (pv 6) (pa_cons pe_int pa_nil))))) (pa_cons (pv 6) pa_nil)))) pa_nil))) (pv 3) (nomark _)))))))), ?_⟩
    obtain ⟨a, rfl, hS⟩ := id hp
    refine ⟨fun σ' H' => σ' = [some (.int g), some u, some v, some x, some (.ref a), none, none] ∧ Same H H' ∧ decide (wd = "along" ∧ ns = []) = false, ?_, ?_⟩
    · refine ⟨_, rfl, _, _, _, _, _, rfl, .ty _, (Kd.tup hS).ty, kit_ty (Kd.tup hS).tuple?, _, rfl, iteT ?_⟩
      refine ⟨_, rfl, (by show 1 ≤ sizeLine; decide), fun p1 H1 n1 s1 e1 => ?_⟩
      refine ⟨.tuple (.str wd :: ns.map PyData.int), .tuple [.str "along"], .tup (seT s1 hS) (.cons (.str _) (dps_ints ns)), .tup (.inl (.inl e1)) (.cons (.str _) .nil), shapedPap wd ns sh, by decide +kernel, _, rfl, ?_⟩
      rw [eqv_along]
      refine ite2 (fun e => ?_) (fun e => ⟨rfl, s1, Bool.eq_false_iff.mpr e⟩)
      refine ⟨_, rfl, _, rfl, u, v, l, r, rfl, hL.same s1, hR.same s1, bl, fun H2 s2 => ?_⟩
      have := q H2 (s1.trans s2)
      rw [show phB g l r c wd ns = alB l r from by unfold phB; rw [if_pos e]] at this
      exact this
    · rintro σ' H1 ⟨rfl, s1, na⟩
      have na : ¬ decide (wd = "along" ∧ ns = []) = true := Bool.eq_false_iff.mp na
      refine ⟨_, rfl, _, rfl, _, rfl, u, v, .ref a, l, r, wd, ns, rfl, hL.same s1, hR.same s1, bl, br, ⟨a, rfl, seT s1 hS⟩, hl, hb, sh, fun H2 s2 => ⟨_, rfl, ?_⟩⟩
      have s12 := s1.trans s2
      cases hM : isMeet l r wd ns with
      | false =>
        rw [Bool.or_false]
        have e1 : phB g l r c wd ns = isApart l r wd ns := by unfold phB; rw [if_neg na, if_neg (by rw [hM]; decide)]
        cases hA : isApart l r wd ns with
        | false =>
          have := q H2 s12
          rw [e1, hA] at this
          exact iteT this
        | true =>
          have ew := apart_word hA
          have := q H2 s12
          rw [e1, hA] at this
          subst ew
          exact iteF ⟨_, rfl, a, _, 0, _, rfl, rfl, seT s12 hS, atI_nat (j := 0) rfl, rfl, _, rfl, ite2 (fun _ => this) (fun z => absurd (decide_eq_true rfl) z)⟩
      | true =>
        rw [Bool.or_true]
        obtain ⟨ew, k, m, k2, n, rfl, m1⟩ := meet_shape hM
        subst ew
        have m2 : m ≤ 2 ^ 46 := hm hM
        refine iteF ⟨_, rfl, a, _, 0, _, rfl, rfl, seT s12 hS, rfl, rfl, _, rfl, ite2 (fun z => absurd (V.str.inj (of_decide_eq_true z)) (by decide)) (fun _ => ?_)⟩
        refine ⟨.ref a, rfl, _, rfl, _, rfl, a, _, rfl, seT s12 hS, fun p3 H3 s3 e3 => ?_⟩
        have e3 : SqT K H3 p3 [.int k, .int m] := e3
        have s13 := s12.trans s3
        refine ⟨p3, _, rfl, e3, rfl, _, _, rfl, _, _, rfl, rfl, ?_⟩
        refine ⟨_, rfl, _, rfl, _, rfl, _, rfl, u, l, k, m, 0, rfl, hL.same s13, bl, .inl rfl, _, rfl, _, rfl, _, rfl, u, l, k, m, 1, rfl, hL.same s13, bl, .inr rfl, _, rfl, (by show 3 ≤ sizeLine; decide), fun p4 H4 n4 s4 e4 => ?_⟩
        refine ⟨g, .ref p4, (cri l.1 0 * m + k * (cri l.2 0 - cri l.1 0), cri l.1 1 * m + k * (cri l.2 1 - cri l.1 1), m), rfl, ⟨p4, rfl, .inl (.inl e4)⟩, g0, g1, by show 0 < m; omega, m2, fun p5 H5 n5 s5 e5 => ?_⟩
        refine ⟨_, rfl, _, _, At2.dp (p := (_, _)) ⟨p5, rfl, .inl (.inl e5)⟩, (hc.same (s13.trans (s4.trans s5))).dp, rfl, rfl, ?_⟩
        rw [eqv_ptH]
        have := q H5 (s13.trans (s4.trans s5))
        rw [show phB g l r c "meets" [k, m, k2, n] = !decide ((nr (at3 l k m).1 ((at3 l k m).2.2 * g), nr (at3 l k m).2.1 ((at3 l k m).2.2 * g)) = c) from by unfold phB; rw [if_neg na, if_pos hM]; rfl] at this
        rw [near_raw l k m g (by omega)] at this
        exact this

end
end Cl

set_option maxHeartbeats 0
namespace Cl
open PySem PySem.Spec PyProof.Rows L2
open GxR (TabB TabG)

section
variable {P : Program} {w : World} {K : PySem.W.Frag} {mg : Str → Option Value} {base : Heap}

theorem ok_law_wants {f : Addr} {fd : FuncData} (F : Fun K "_law_wants" "_law_wants" s_law_wants f fd) (T : Bt mg) (D_law_nearest : Def P w K mg base 1 "_law_nearest" ["_law_grain_here", "_law_spot"] (spNearN K)) (D_law_due : Def P w K mg base 3 "_law_due" ["_law_one", "_law_other"] (spTwo K cmn fun _ _ => True)) :
    FnG P w K mg base CX0 4 f fd ["_law_grain_here", "_law_lines_here"] (spWantsL K) := by
  refine okG (k := 3) F sc_law_wants (fun vs H Q E h => ?_) (fun cdv A outer s H vs Q E hr h => ?_)
  · obtain ⟨g, v, ls, rfl, _⟩ := h
    rfl
  · obtain ⟨g, _, ls, rfl, ⟨⟨h0, h1⟩, ⟨a, vs, rfl, hS, hall⟩, hlen, hgood⟩, q⟩ := h
    refine ⟨_, (pss_cons (ps_set (i := 2) sc_law_wants.nd rfl (.inr rfl) pe_dnewT)
      (pss_cons (ps_for PassesOwn.never rfl (pi_enumT (by rfl) T.enumerate (pa_cons (pv 1) pa_nil)) (pg_tup (by rfl) (pgs_cons (pg_name (i := 3) sc_law_wants.nd rfl (.inl rfl)) (pgs_cons (pg_name (i := 4) sc_law_wants.nd rfl (.inl rfl)) pgs_nil))) (pss_cons (ps_for PassesOwn.never rfl (pi_tup (tupN (pa_cons pe_int (pa_cons pe_int pa_nil)))) (pg_name (i := 5) sc_law_wants.nd rfl (.inl rfl)) (pss_one (ps_expr (pe_bm PySem.F.plainAttrs_list PySem.F.slot_list_append PySem.F.type_list_append mt_append (pe_setdT hr.room.units (pv 2) (callD D_law_nearest (hr.mono (by decide)) (pa_cons (pv 0) (pa_cons (pe_op op_catTN (pe_ix ix_tup (pv 4) (pv 5) (fun _ _ => rfl)) (tupN (pa_cons pe_int pa_nil))) pa_nil))) (lstN pa_nil) ⟨rfl, rfl, rfl, rfl⟩) (pa_cons (tupN (pa_cons pe_str (pa_cons (pv 3) (pa_cons (pv 5) pa_nil)))) pa_nil)))))
      (pss_one (ps_for PassesOwn.never rfl (pi_range1 (by rfl) T.range (pa_cons (pv 3) pa_nil)) (pg_name (i := 6) sc_law_wants.nd rfl (.inl rfl)) (pss_cons (ps_set (i := 7) sc_law_wants.nd rfl (.inl rfl) (callD D_law_due (hr.mono (by decide)) (pa_cons (pe_ix ix_tup (pv 1) (pv 6) (fun _ _ => rfl)) (pa_cons (pv 4) pa_nil))))
      (pss_one (ps_if (pt_cmpR op_eq (pe_callB call_len_seq (by rfl) T.len (by decide +kernel) (pa_cons (pv 7) pa_nil)) pe_int (nomark _)) (pss_one (ps_expr (pe_bm PySem.F.plainAttrs_list PySem.F.slot_list_append PySem.F.type_list_append mt_append (pe_setdT hr.room.units (pv 2) (callD D_law_nearest (hr.mono (by decide)) (pa_cons (pv 0) (pa_cons (pe_ix ix_tup (pv 7) pe_int (fun _ _ => rfl)) pa_nil))) (lstN pa_nil) ⟨rfl, rfl, rfl, rfl⟩) (pa_cons (tupN (pa_cons pe_str (pa_cons (pv 6) (pa_cons (pv 3) pa_nil)))) pa_nil)))) pss_nil)))))))
      (pss_one (ps_ret (pe_callTy call_tuple_ofN (by rfl) T.tuple (by decide +kernel) (pa_cons (pe_lc (own := [("_law_corner", 8)]) (g := gName 8) (tt := tYes) (by rfl) sc_law_wants.nd (pi_list (pe_callB (cr_sortPt rfl) (by rfl) T.sorted (by decide +kernel) (pa_cons (pv 2) pa_nil))) (blkOk_by (own := [("_law_corner", 8)]) (N := ["_law_grain_here", "_law_lines_here", "_law_found", "_law_k", "_law_line_here", "_law_e", "_law_l", "_law_some", "_law_corner"]) (sc := defScope s_law_wants) (by decide +kernel)) (fun _ _ _ _ _ => (pg_name (i := 8) sc_law_wants.nd rfl (.inl rfl))) (fun _ _ _ _ _ => pts_nil) (fun _ _ _ _ _ => (tupN (pa_cons (pv 8) (pa_cons (pe_callTy (call_tuple_ofNk (K := K) rfl) (by rfl) T.tuple (by decide +kernel) (pa_cons (pe_callB (cr_sortTupk (K := K) rfl shW) (by rfl) T.sorted (by decide +kernel) (pa_cons (pe_dget (units1 hr.room.units) (pv 2) (pv 8) (fun _ _ => rfl)) pa_nil)) pa_nil)) pa_nil))))) pa_nil)))))), ?_⟩
    intro pd nd
    have lv := hall.length
    have s0 : Same H (upd H pd (.dT [])) := same_new nd
    have gd : (upd H pd (.dT [])) pd = some (.dT []) := upd_same
    generalize upd H pd (.dT []) = H0 at s0 gd ⊢
    refine ⟨_, rfl, a, vs, rfl, seT s0 hS, for_enumT (xs := vs) (fun i σ H' => ∃ y3 y4 y5 y6 y7 y8, σ = [some (.int g), some (.ref a), some (.ref pd), y3, y4, y5, y6, y7, y8] ∧ Same H H' ∧ ∃ E, GrpAt H pd (rowsL g ls i) E H') ?_ (fun i σ H' z => ?_) ?_ ?_⟩
    · exact ⟨_, _, _, _, _, _, rfl, s0, [], .nil gd⟩
    · obtain ⟨_, _, _, _, _, _, _, z, _⟩ := z
      exact seT z hS
    · rintro i x T1 σ H2 hx ⟨y3, y4, y5, y6, y7, y8, rfl, t1, E, G⟩ nT
      obtain ⟨r, hr_, hL⟩ := hall.get hx
      obtain ⟨al, _, _, rfl, hSl, ⟨b, rfl, hb⟩, ⟨c, rfl, hc⟩⟩ := id hL
      have hil := (List.getElem?_eq_some_iff.mp hr_).1
      have hi : i < 12 := by omega
      have gr := hgood r (List.mem_of_getElem? hr_)
      have lRi := rowsL_len g ls i
      have lRi2 : i * (2 + i) ≤ 11 * 13 := Nat.mul_le_mul (by omega) (by omega)
      have eR : endRow g ls i = [(crn g r.1, (("end" : Str), (i : Int), 0)), (crn g r.2, (("end" : Str), (i : Int), 1))] := by
        unfold endRow
        rw [hr_]
      have lE2 : (endRow g ls i).length = 2 := by rw [eR]; rfl
      have sT : Same H2 (upd H2 T1 (.tup [.int (i : Nat), .ref al])) := same_new nT
      refine ⟨T1, _, rfl, .inl (.inl upd_same), rfl, _, _, rfl, _, _, rfl, rfl, ?_⟩
      have G' := G.same sT
      have t1' := t1.trans sT
      generalize upd H2 T1 (.tup [.int (i : Nat), .ref al]) = H3 at G' t1' ⊢
      clear G t1 sT
      refine ⟨(by show 2 ≤ sizeLine; decide), fun pe He ne se ge => ⟨pe, rfl, ⟨_, .inl (.inl ge)⟩, for_tup (K := K) (a := pe) (xs := [.int 0, .int 1]) (fun j σ H' => ∃ y5 y6 y7 y8, σ = [some (.int g), some (.ref a), some (.ref pd), some (.int (i : Nat)), some (.ref al), y5, y6, y7, y8] ∧ Same H H' ∧ H' pe = some (.tup [.int 0, .int 1]) ∧ ∃ E, GrpAt H pd (rowsL g ls i ++ (endRow g ls i).take j) E H') ?_ (fun j σ H' _ z => ?_) ?_ ?_⟩⟩
      · exact ⟨_, _, _, _, rfl, t1'.trans se, ge, E, by rw [List.take_zero, List.append_nil]; exact G'.same se⟩
      · obtain ⟨_, _, _, _, _, _, z, _⟩ := z
        exact .inl (.inl z)
      · rintro j x σ H4 hx ⟨y5, y6, y7, y8, rfl, u1, gE, E2, G2⟩
        obtain ⟨bp, p, rfl, hp, hat, hj⟩ : ∃ (bp : Addr) (p : Pt), x = .int (j : Int) ∧ SqT K H bp [.int p.1, .int p.2] ∧ atI [V.ref b, V.ref c] (j : Int) = some (V.ref bp) ∧ (endRow g ls i)[j]? = some (crn g p, (("end" : Str), (i : Int), (j : Int))) := by
          rw [eR]
          match j, hx with
          | 0, hx => exact ⟨b, r.1, (Option.some.inj hx).symm, hb, rfl, rfl⟩
          | 1, hx => exact ⟨c, r.2, (Option.some.inj hx).symm, hc, rfl, rfl⟩
          | j + 2, hx => cases hx
        refine ⟨_, rfl, pd, rfl, ⟨_, G2.dict⟩, _, rfl, _, rfl, _, rfl, al, _, _, .ref bp, rfl, rfl, seT u1 hSl, hat, (by show 1 ≤ sizeLine; decide), fun p1 H5 n5 s5 g5 => ?_⟩
        refine ⟨bp, p1, _, _, rfl, rfl, seT (u1.trans s5) hp, .inl (.inl g5), by simp, by simp, (by show 3 ≤ sizeLine; decide), fun p2 H6 n6 s6 g6 => ?_⟩
        refine ⟨g, .ref p2, one3 p, rfl, ⟨p2, rfl, .inl (.inl g6)⟩, h0, h1, (by show (0 : Int) < 1; decide), (by show (1 : Int) ≤ 2 ^ 46; decide), fun pc Hc nc sc gc => ⟨Nat.zero_le _, fun P2 H7 n7 s7 g7 => ?_⟩⟩
        have sC := s5.trans (s6.trans sc)
        have gEc := sC _ _ gE
        have lt2 : (rowsL g ls i ++ (endRow g ls i).take j).length ≤ 200 := by rw [List.length_append, List.length_take]; omega
        obtain ⟨b1, b2, b0, b3, b4⟩ := grp_step (r := (crn g p, (("end" : Str), (i : Int), (j : Int)))) nd (u1.trans sC) (G2.same sC) n7 s7 g7 (by rw [← crnS_one]; exact gc) lt2
        refine ⟨_, _, pc, b1, rfl, b2, b0, fun v hv => ?_, fun hn => ?_⟩
        · obtain ⟨L, us, rfl, z1, z2, z3, z5, z4⟩ := b3 v hv
          refine ⟨.inl ⟨rfl, _, .inl (.inl z2)⟩, _, rfl, _, rfl, (by show 3 ≤ sizeLine; decide), fun pw Hw nw sw gw => ?_⟩
          obtain ⟨w1, w2, E3, w3⟩ := z4 Hw (.ref pw) sw ⟨pw, rfl, gw⟩
          refine ⟨L, us, .ref pw, rfl, rfl, w1, small1000 (by omega), ?_⟩
          refine ⟨_, _, _, _, rfl, w2, ?_, E3, ?_⟩
          · have ge2 := sw _ _ (z5 _ _ gEc)
            rw [upd_ne (ne_of ge2 w1 fun z => nomatch z)]
            exact ge2
          · rw [List.take_add_one, hj, ← List.append_assoc]
            exact w3
        · obtain ⟨z1, z2, z3, z5, z4⟩ := b4 hn
          refine ⟨.inl ⟨rfl, _, .inl (.inl z2)⟩, _, rfl, _, rfl, (by show 3 ≤ sizeLine; decide), fun pw Hw nw sw gw => ?_⟩
          obtain ⟨w1, w2, E3, w3⟩ := z4 Hw (.ref pw) sw ⟨pw, rfl, gw⟩
          refine ⟨P2, [], .ref pw, rfl, rfl, w1, small1000 (by omega), ?_⟩
          refine ⟨_, _, _, _, rfl, w2, ?_, E3, ?_⟩
          · have ge2 := sw _ _ (z5 _ _ gEc)
            rw [upd_ne (ne_of ge2 w1 fun z => nomatch z)]
            exact ge2
          · rw [List.take_add_one, hj, ← List.append_assoc]
            exact w3
      · rintro σ H4 ⟨y5, y6, y7, y8, rfl, u1, gE, E2, G2⟩
        rw [show (endRow g ls i).take ([V.int 0, V.int 1].length) = endRow g ls i from by rw [eR]; rfl] at G2
        refine ⟨_, rfl, _, rfl, by omega, by omega, for_range (n := i) (fun j σ H' => ∃ y5 y6 y7 y8, σ = [some (.int g), some (.ref a), some (.ref pd), some (.int (i : Nat)), some (.ref al), y5, y6, y7, y8] ∧ Same H H' ∧ ∃ E, GrpAt H pd (rowsL g ls i ++ (endRow g ls i ++ (List.range j).flatMap fun l => crossRow g ls l i)) E H') ?_ ?_ ?_⟩
        · exact ⟨_, _, _, _, rfl, u1, E2, by rw [List.range_zero, List.flatMap_nil, List.append_nil]; exact G2⟩
        · rintro j σ H5 hj ⟨y5, y6, y7, y8, rfl, v1, E3, G3⟩
          obtain ⟨vl, hvl⟩ : ∃ y, vs[j]? = some y := ⟨_, List.getElem?_eq_getElem (by omega)⟩
          obtain ⟨rl, hrl, aL⟩ := hall.get hvl
          have gl := hgood rl (List.mem_of_getElem? hrl)
          have hvl' : atI vs (0 + (j : Int)) = some vl := by rw [Int.zero_add]; exact atI_nat hvl
          have lC := crossCol_len g ls i j
          have eT : (rowsL g ls i ++ (endRow g ls i ++ (List.range (j + 1)).flatMap fun l => crossRow g ls l i)) = (rowsL g ls i ++ (endRow g ls i ++ (List.range j).flatMap fun l => crossRow g ls l i)) ++ rowS g j i (cmn rl r) := by
            rw [List.range_succ, List.flatMap_append, List.flatMap_singleton, ← List.append_assoc (endRow g ls i), ← List.append_assoc (rowsL g ls i)]
            congr 1
            unfold crossRow
            rw [hr_, hrl]
          refine ⟨_, rfl, _, rfl, a, _, _, vl, rfl, rfl, seT v1 hS, hvl', _, rfl, vl, .ref al, rl, r, rfl, aL.same v1, hL.same v1, good_L gl, good_L gr, trivial, fun wS H6 s6 e6 => ?_⟩
          obtain ⟨sp, ss, rfl, hss, all⟩ := e6
          have lss := all.length
          refine ⟨_, rfl, sp, ss, rfl, .inr hss, rfl, _, rfl, ite2 (fun e => ?_) (fun e => ?_)⟩
          · have e1 : ss.length = 1 := by have := V.int.inj (of_decide_eq_true e); omega
            obtain ⟨u, t, rfl, et, hu⟩ := all.lone e1
            have hden := cmn_den gl gr t (by rw [et]; exact List.mem_singleton.mpr rfl)
            rw [et] at eT
            clear all lss e1 e
            have G4 := G3.same s6
            refine ⟨_, rfl, pd, rfl, ⟨_, G4.dict⟩, _, rfl, _, rfl, sp, _, 0, u, rfl, rfl, hss, rfl, g, u, t, rfl, hu, h0, h1, hden.1, hden.2, fun pc Hc nc sc gc => ⟨Nat.zero_le _, fun P2 H7 n7 s7 g7 => ?_⟩⟩
            have lt2 : (rowsL g ls i ++ (endRow g ls i ++ (List.range j).flatMap fun l => crossRow g ls l i)).length ≤ 200 := by rw [List.length_append, List.length_append]; omega
            obtain ⟨b1, b2, b0, b3, b4⟩ := grp_step (r := (crnS g t, (("cross" : Str), (j : Int), (i : Int)))) nd (v1.trans (s6.trans sc)) (G4.same sc) n7 s7 g7 gc lt2
            refine ⟨_, _, pc, b1, rfl, b2, b0, fun v hv => ?_, fun hn => ?_⟩
            · obtain ⟨L, us, rfl, z1, z2, z3, z5, z4⟩ := b3 v hv
              refine ⟨.inl ⟨rfl, _, .inl (.inl z2)⟩, _, rfl, _, rfl, (by show 3 ≤ sizeLine; decide), fun pw Hw nw sw gw => ?_⟩
              obtain ⟨w1, w2, E4, w3⟩ := z4 Hw (.ref pw) sw ⟨pw, rfl, by rw [gw, Int.zero_add]; rfl⟩
              refine ⟨L, us, .ref pw, rfl, rfl, w1, small1000 (by omega), ?_⟩
              refine ⟨_, _, _, _, rfl, w2, E4, ?_⟩
              rw [eT]
              exact w3
            · obtain ⟨z1, z2, z3, z5, z4⟩ := b4 hn
              refine ⟨.inl ⟨rfl, _, .inl (.inl z2)⟩, _, rfl, _, rfl, (by show 3 ≤ sizeLine; decide), fun pw Hw nw sw gw => ?_⟩
              obtain ⟨w1, w2, E4, w3⟩ := z4 Hw (.ref pw) sw ⟨pw, rfl, by rw [gw, Int.zero_add]; rfl⟩
              refine ⟨P2, [], .ref pw, rfl, rfl, w1, small1000 (by omega), ?_⟩
              refine ⟨_, _, _, _, rfl, w2, E4, ?_⟩
              rw [eT]
              exact w3
          · have e0 : rowS g j i (cmn rl r) = [] := rowS_not fun z => e (decide_eq_true (congrArg (fun n : Nat => V.int (n : Int)) (lss.trans z)))
            rw [e0, List.append_nil] at eT
            refine ⟨_, _, _, _, rfl, v1.trans s6, E3, ?_⟩
            rw [eT]
            exact G3.same s6
        · rintro σ H5 ⟨y5, y6, y7, y8, rfl, v1, E3, G3⟩
          exact ⟨_, _, _, _, _, _, rfl, v1, E3, by rw [rowsL_succ]; exact G3⟩
    · rintro σ H4 ⟨y3, y4, y5, y6, y7, y8, rfl, t1, E, G⟩
      rw [lv] at G
      have lR : (rowsL g ls ls.length).length ≤ 168 := Nat.le_trans (rowsL_len g ls ls.length) (by have := Nat.mul_le_mul hlen (show 2 + ls.length ≤ 14 by omega); omega)
      have lE := G.len
      refine ⟨_, rfl, pd, kvO E, E.map (·.1), rfl, G.dict, kv_keys E, fun ys pm pw yt p5 H5 n5 s5 g5 => ?_⟩
      have ly := pm.length_eq
      rw [List.length_map, List.length_map] at ly
      refine ⟨p5, rfl, ⟨_, .inl (.inl g5)⟩, fun pD nD => ?_⟩
      refine lcL (K := K) (a := p5) (xs := ys.map fun y => V.ref y.1) (fun i H' => Same H5 H' ∧ ∃ ws Ls, H' pD = some (.lst ws) ∧ AllAt (AtD K H') ws Ls ∧ Ls.map (·.1) = (ys.take i).map (·.2) ∧ ∀ e ∈ Ls, e.2.Perm (wsOf (rowsL g ls ls.length) e.1) ∧ e.2.Pairwise wLe) nD (fun H' e1 e2 => ⟨e1, [], [], e2, .nil, rfl, fun _ h => nomatch h⟩) (fun i H' _ z => .inl (.inl (by exact z.1 _ _ g5))) (fun i z H' hz w => ?_) (fun H6 z => ?_)
      · obtain ⟨t2, ws, Ls, b1, b2, b3, b4⟩ := w
        rw [List.getElem?_map] at hz
        cases hy : ys[i]? with
        | none => rw [hy] at hz; cases hz
        | some y =>
        rw [hy] at hz
        cases hz
        have hm := List.mem_of_getElem? hy
        have hi := (List.getElem?_eq_some_iff.mp hy).1
        have hy1 := (s5.trans t2) _ _ (yt y hm)
        obtain ⟨e, he, ee⟩ := List.mem_map.mp (pm.mem_iff.mp (List.mem_map.mpr ⟨y, hm, rfl⟩))
        have G' := G.same (s5.trans t2)
        obtain ⟨_, vs, m1, m2⟩ := G'.lst e he
        have dg : DGet H' pd (.ref y.1) (some (.ref e.2)) := by
          rw [← kv_val G'.nk he, ee]
          exact DGet.t G'.dict hy1
        refine ⟨rfl, _, rfl, _, rfl, _, rfl, pd, .ref e.2, rfl, dg, e.2, vs, ctOf H', rfl, .inl (.inl m1), fun x hx => ?_, fun zs pmz pwz p6 H6 n6 s6 g6 => ⟨p6, zs, rfl, .inl (.inl g6), fun p7 H7 n7 s7 g7 => ⟨(by show 2 ≤ sizeLine; decide), fun p8 H8 n8 s8 g8 => ?_⟩⟩⟩
        · have aw := allw_at m2 x hx
          rw [aw.ct]
          obtain ⟨t, rfl, ht⟩ := aw
          exact ⟨t, rfl, .inl (.inl ht), fits_wV _, fun z => nomatch z⟩
        · obtain ⟨wl, c1, c2, c3⟩ := sorted_wants m2 pmz pwz
          have s68 := s6.trans (s7.trans s8)
          have k8 := s68 _ _ b1
          have ll : Ls.length = i := by
            have := congrArg List.length b3
            rw [List.length_map, List.length_map, List.length_take] at this
            omega
          refine ⟨ws, k8, by rw [b2.length, ll]; exact small1000 (by omega), fun b o z => ?_, ws ++ [.ref p8], Ls ++ [(y.2, wl)], upd_same, ?_, ?_, ?_⟩
          · rw [upd_ne (ne_of_none z nD)]; exact (t2.trans s68) _ _ z
          · refine (b2.map fun _ _ z => AtD.upd (z.same s68) k8).app (.cons (AtD.upd ⟨p8, .ref y.1, p7, zs, rfl, .inl (.inl g8), ⟨y.1, rfl, .inl (.inl (s68 _ _ hy1))⟩, .inl (.inl (s8 _ _ g7)), c1.map fun _ _ z => (z.same s68).wk⟩ k8) .nil)
          · rw [List.take_add_one, hy, List.map_append, List.map_append, b3]
            rfl
          · intro e' he'
            rcases List.mem_append.mp he' with he' | he'
            · exact b4 e' he'
            · rw [List.mem_singleton.mp he']
              refine ⟨?_, c3⟩
              rw [ee] at c2
              exact c2
      · obtain ⟨t2, ws, Ls, b1, b2, b3, b4⟩ := z
        rw [List.length_map, List.take_length] at b3
        refine ⟨pD, ws, rfl, .inl (.inl b1), fun p9 H9 n9 s9 g9 => q _ _ Ls (t1.trans (s5.trans (t2.trans s9))) ⟨p9, ws, rfl, .inl (.inl g9), b2.map fun _ _ z => z.same s9⟩ ⟨by rw [b3]; exact pw, by rw [b3]; exact pm.nodup_iff.mpr G.nk, b4, fun p => ?_⟩⟩
        rw [b3, pm.mem_iff, List.mem_map]
        exact G.mem p

end
end Cl

set_option maxHeartbeats 0
namespace Cl
open PySem PySem.Spec PyProof.Rows L2
open GxR (TabB TabG)


def spAskedL (K : PySem.W.Frag) : Sp := fun vs H Q _ => ∃ d l g v ls, vs = [.ref d, .int g, v] ∧ Deck H d l ∧ Lns K H g v ls ∧
  ∀ L H' us cs, Step d l H H' → L ≠ d → L ≠ l → H' L = some (.lst us) → AllAt (At2 K H') us cs → cs.length ≤ 7 → Q (.ref L) H'

section
variable {P : Program} {w : World} {K : PySem.W.Frag} {mg : Str → Option Value} {base : Heap}

theorem ok_law_corners_asked {f : Addr} {fd : FuncData} (F : Fun K "_law_corners_asked" "_law_corners_asked" s_law_corners_asked f fd) (T : Bt mg) (D_law_draw : Def P w K mg base 1 "_law_draw" ["_law_deck_here", "_law_most"] spDraw) (D_law_wants : Def P w K mg base 4 "_law_wants" ["_law_grain_here", "_law_lines_here"] (spWantsL K)) :
    FnG P w K mg base CX0 5 f fd ["_law_deck_here", "_law_grain_here", "_law_lines_here"] (spAskedL K) := by
  refine okG (k := 4) F sc_law_corners_asked (fun vs H Q E h => ?_) (fun cdv A outer s H vs Q E hr h => ?_)
  · obtain ⟨d, l, gg, v, ls, rfl, _⟩ := h
    rfl
  · obtain ⟨d, l, gg, v, ls, rfl, D, hv, q⟩ := h
    refine ⟨_, (pss_cons (ps_setLc (i := 3) (own := [("_law_corner", 4), ("_law_wants_here", 5)]) (g := gTup K 2 (gCons (gName 4) (gCons (gName 5) gNil))) (tt := tYes) (by rfl) sc_law_corners_asked.nd rfl rfl (sw_true rfl rfl rfl (by decide +kernel)) (pi_tup (callD D_law_wants (hr.mono (by decide)) (pa_cons (pv 1) (pa_cons (pv 2) pa_nil)))) (blkOk_by (own := [("_law_corner", 4), ("_law_wants_here", 5)]) (N := ["_law_deck_here", "_law_grain_here", "_law_lines_here", "_law_some", "_law_corner", "_law_wants_here", "_law_found", "_law_k", "_law_i", "_law_j"]) (sc := defScope s_law_corners_asked) (by decide +kernel)) (fun _ _ _ _ _ => (pg_tup (by rfl) (pgs_cons (pg_name (i := 4) sc_law_corners_asked.nd rfl (.inl rfl)) (pgs_cons (pg_name (i := 5) sc_law_corners_asked.nd rfl (.inl rfl)) pgs_nil)))) (fun _ _ _ _ _ => pts_nil) (fun _ _ _ _ _ => (pv 4)))
      (pss_cons (ps_set (i := 6) sc_law_corners_asked.nd rfl (.inl rfl) (lstN (pa_cons (tupN (pa_cons (pe_op op_sub (callD D_law_draw (hr.mono (by decide)) (pa_cons (pv 0) (pa_cons pe_int pa_nil))) pe_int) (pa_cons (pe_op op_sub (callD D_law_draw (hr.mono (by decide)) (pa_cons (pv 0) (pa_cons pe_int pa_nil))) pe_int) pa_nil))) pa_nil)))
      (pss_cons (ps_for PassesOwn.never rfl (pi_range1 (by rfl) T.range (pa_cons (pe_callB (call_min2 rfl) (by rfl) T.min (by decide +kernel) (pa_cons pe_int (pa_cons (pe_callB call_len_seq (by rfl) T.len (by decide +kernel) (pa_cons (pv 3) pa_nil)) pa_nil))) pa_nil)) (pg_name (i := 7) sc_law_corners_asked.nd rfl (.inl rfl)) (pss_cons (ps_asg (pe_ix ix_list (pv 3) (callD D_law_draw (hr.mono (by decide)) (pa_cons (pv 0) (pa_cons (pe_callB call_len_seq (by rfl) T.len (by decide +kernel) (pa_cons (pv 3) pa_nil)) pa_nil))) (fun _ _ => rfl)) (pg_tup (by rfl) (pgs_cons (pg_name (i := 8) sc_law_corners_asked.nd rfl (.inl rfl)) (pgs_cons (pg_name (i := 9) sc_law_corners_asked.nd rfl (.inl rfl)) pgs_nil))))
      (pss_one (ps_expr (pe_bm PySem.F.plainAttrs_list PySem.F.slot_list_extend PySem.F.type_list_extend mt_extend (pv 6) (pa_cons (lstN (pa_cons (tupN (pa_cons (pv 8) (pa_cons (pv 9) pa_nil))) (pa_cons (tupN (pa_cons (pe_op op_sub (pe_op op_add (pv 8) (callD D_law_draw (hr.mono (by decide)) (pa_cons (pv 0) (pa_cons pe_int pa_nil)))) pe_int) (pa_cons (pe_op op_sub (pe_op op_add (pv 9) (callD D_law_draw (hr.mono (by decide)) (pa_cons (pv 0) (pa_cons pe_int pa_nil)))) pe_int) pa_nil))) pa_nil))) pa_nil))))))
      (pss_one (ps_ret (pv 6)))))), ?_⟩
    refine ⟨_, rfl, _, rfl, gg, v, ls, rfl, hv, fun u H1 LL s1 hu hdue => ?_⟩
    obtain ⟨a, vs, rfl, hS, all⟩ := hu
    have lL := hdue.len
    have lR := rowsL_len gg ls ls.length
    have l12 := hv.2.2.1
    have lR2 : ls.length * (2 + ls.length) ≤ 12 * 14 := Nat.mul_le_mul l12 (by omega)
    refine ⟨a, rfl, ⟨_, hS⟩, fun pD nD => ?_⟩
    refine lcT (K := K) (a := a) (xs := vs) (fun i H' => Same H1 H' ∧ ∃ ws, H' pD = some (.lst ws) ∧ AllAt (At2 K H') ws ((LL.take i).map (·.1))) nD (fun H' e1 e2 => ⟨e1, [], e2, .nil⟩) (fun i H' _ z => seT z.1 hS) (fun i z H' hz w => ?_) (fun H6 z => ?_)
    · obtain ⟨t1, ws, t2, t3⟩ := w
      obtain ⟨e, he, b, u, c, us, rfl, h1, h2, h3, h4⟩ := all.get hz
      refine ⟨b, _, rfl, seT t1 h1, rfl, _, _, rfl, _, _, rfl, rfl, ?_⟩
      refine ⟨rfl, _, rfl, ws, t2, by rw [t3.length, List.length_map, List.length_take]; exact small1000 (by omega), fun b' o z => ?_, ws ++ [u], upd_same, ?_⟩
      · rw [upd_ne (ne_of_none z nD)]; exact t1 _ _ z
      · rw [List.take_add_one, he, List.map_append]
        exact (t3.map fun _ _ z => At2.upd z t2).app (.cons (At2.upd (h2.same t1) t2) .nil)
    · obtain ⟨t1, ws, t2, t3⟩ := z
      rw [all.length, List.take_length] at t3
      have S6 := Step.of D (s1.trans t1)
      have nd6 := (Step.of D s1).deck.nd nD
      refine ⟨.ref d, rfl, d, l, 7, rfl, by decide, by decide, S6.deck, fun x1 H7 a0 a1 S7 => ⟨_, _, rfl, rfl, .ref d, rfl, d, l, 7, rfl, by decide, by decide, S7.deck, fun x2 H8 b0 b1 S8 => ⟨_, _, rfl, rfl, (by show 2 ≤ sizeLine; decide), fun p9 H9 n9 s9 e9 => ⟨(by show 1 ≤ sizeLine; decide), fun L H10 n10 s10 e10 => ?_⟩⟩⟩⟩
      have S9 : Step d l H H9 := ((S6.trans S7).trans S8).trans (Step.of S8.deck s9)
      have ndL : L ≠ d ∧ L ≠ l := S9.deck.nd n10
      have S69 : Step d l H6 H9 := (S7.trans S8).trans (Step.of S8.deck s9)
      have e3 : H9 pD = some (.lst ws) := S69.at nd6.1 nd6.2 t2
      have t9 : AllAt (At2 K H9) ws (LL.map (·.1)) := t3.map fun _ _ y => At2.step y S69 S6.deck
      have lw := t3.length
      rw [List.length_map] at lw
      refine ⟨_, rfl, pD, ws, rfl, .inl (.inl (.inl (s10 _ _ e3))), _, _, rfl, ((min 3 ws.length : Nat) : Int), ?_, by omega, by omega, for_range (n := min 3 ws.length) (fun i σ H' => ∃ y4 y5 y7 y8 y9, σ = [some (.ref d), some (.int gg), some v, some (.ref pD), y4, y5, some (.ref L), y7, y8, y9] ∧ Step d l H9 H' ∧ ∃ us cs, H' L = some (.lst us) ∧ AllAt (At2 K H') us cs ∧ cs.length = 1 + 2 * i) ?_ ?_ ?_⟩
      · have : (if (ws.length : Int) < 3 then (ws.length : Int) else 3) = ((min 3 ws.length : Nat) : Int) := by
          split <;> omega
        rw [this]
      · exact ⟨_, _, _, _, _, rfl, Step.of S9.deck s10, [.ref p9], [(x1 - 1, x2 - 1)], e10, .cons ⟨p9, rfl, .inl (.inl (s10 _ _ e9))⟩ .nil, rfl⟩
      · rintro i σ H11 hi ⟨y4, y5, y7, y8, y9, rfl, S11, us, cs, f1, f2, f3⟩
        have l2 := f2.length
        refine ⟨_, rfl, .ref d, rfl, _, rfl, pD, ws, rfl, .inl (.inl (.inl (S11.at nd6.1 nd6.2 e3))), d, l, ws.length, rfl, by omega, by omega, S11.deck, fun x H12 c0 c1 S12 => ?_⟩
        obtain ⟨k, rfl⟩ := Int.eq_ofNat_of_zero_le c0
        have hk : k < ws.length := by omega
        have S112 := S11.trans S12
        obtain ⟨pt, hpt, b, eb, hb⟩ := t9.get (List.getElem?_eq_getElem hk)
        have hb2 := (At2.step ⟨b, rfl, hb⟩ S112 S9.deck : At2 K H12 (.ref b) pt)
        obtain ⟨b', eb', hb'⟩ := hb2
        cases eb'
        refine ⟨pD, ws, k, _, rfl, rfl, .inl (.inl (S112.at nd6.1 nd6.2 e3)), atI_nat (List.getElem?_eq_getElem hk), ?_⟩
        rw [eb]
        refine ⟨b, _, rfl, hb', rfl, _, _, rfl, _, _, rfl, rfl, ?_⟩
        have f12 := S12.at ndL.1 ndL.2 f1
        refine ⟨.ref L, rfl, .inl ⟨rfl, _, .inl (.inl f12)⟩, _, rfl, _, rfl, (by show 2 ≤ sizeLine; decide), fun p13 H13 n13 s13 e13 => ?_⟩
        have S13 := Step.of S12.deck s13
        refine ⟨_, rfl, .ref d, rfl, d, l, 3, rfl, by decide, by decide, S13.deck, fun z1 H14 d0 d1 S14 => ⟨_, _, rfl, rfl, _, _, rfl, rfl, _, rfl, .ref d, rfl, d, l, 3, rfl, by decide, by decide, S14.deck, fun z2 H15 g0 g1 S15 => ⟨_, _, rfl, rfl, _, _, rfl, rfl, (by show 2 ≤ sizeLine; decide), fun p16 H16 n16 s16 e16 => ⟨(by show 2 ≤ sizeLine; decide), fun p17 H17 n17 s17 e17 => ?_⟩⟩⟩⟩
        have S17 : Step d l H13 H17 := (S14.trans S15).trans (Step.of S15.deck (s16.trans s17))
        have S1217 := S13.trans S17
        have f17 := S1217.at ndL.1 ndL.2 f12
        have e13' := S17.tupH S13.deck e13
        refine ⟨L, p17, us, _, rfl, rfl, f17, e17, Nat.le_of_lt (small1000 (by show us.length + 2 ≤ _; omega)), _, _, _, _, _, rfl, (S11.trans (S12.trans S1217)).updN ndL.1 ndL.2 n10, us ++ [.ref p13, .ref p16], cs ++ [pt, (pt.1 + z1 - 1, pt.2 + z2 - 1)], upd_same, ?_, by rw [List.length_append, f3]; show 1 + 2 * i + 2 = _; omega⟩
        refine ((f2.map fun _ _ y => At2.upd (At2.step (At2.step y S12 S11.deck) S1217 S12.deck) f17).app (.cons ?_ (.cons ?_ .nil)))
        · exact At2.upd (p := pt) ⟨p13, rfl, .inl (.inl e13')⟩ f17
        · exact At2.upd (p := (pt.1 + z1 - 1, pt.2 + z2 - 1)) ⟨p16, rfl, .inl (.inl (s17 _ _ e16))⟩ f17
      · rintro σ H11 ⟨y4, y5, y7, y8, y9, rfl, S11, us, cs, f1, f2, f3⟩
        exact ⟨_, rfl, q L H11 us cs (S9.trans S11) ndL.1 ndL.2 f1 f2 (by omega)⟩

end
end Cl

set_option maxHeartbeats 0
namespace Cl
open PySem PySem.Spec PyProof.Rows L2
open GxR (TabB TabG)


def enB (g : Int) (l : Ln) (c : Pt) : Bool := decide ((nr l.1.1 g, nr l.1.2 g) = c) || decide ((nr l.2.1 g, nr l.2.2 g) = c)
def enP (g : Int) (p c : Pt) : Bool := decide ((nr p.1 g, nr p.2 g) = c)
def spEndsIn (K : PySem.W.Frag) (P : Addr) : Sp := fun vs H Q _ => ∃ g u v l c, vs = [.int g, u, v] ∧ TabG H P ∧ 0 < g ∧ g < 2 ^ 60 ∧ AtL K H u l ∧ At2 K H v c ∧ BdL l ∧ ∀ H', Same H H' → Q (.bl (enB g l c)) H'
theorem enB_eq (g : Int) (l : Ln) (c : Pt) : enB g l c = (enP g l.1 c || enP g l.2 c) := rfl
theorem eqv_pt (x y : Pt) : PyData.eqv (pd x) (pd y) = decide (x = y) := by
  show PyData.eqv (.tuple [.int x.1, .int x.2]) (.tuple [.int y.1, .int y.2]) = _
  rw [eqv_pair]
  exact decide_eq_decide.mpr ⟨fun z => Prod.ext z.1 z.2, fun z => by rw [z]; exact ⟨rfl, rfl⟩⟩

section
variable {P : Program} {w : World} {K : PySem.W.Frag} {mg : Str → Option Value} {base : Heap}

theorem okends_in {f c Pt : Addr} {fd : FuncData} (F : Fun K "ends_in" "ends_in" sends_in f fd) (hc : fd.code = .ref c) (TB : GxR.TabB base mg c Pt) (T : Bt mg) (Dcorner_of : Def P w K mg base 2 "corner_of" ["grain", "point"] (spCorner K)) :
    FnG P w K mg base CX0 5 f fd ["grain", "line", "corner"] (spEndsIn K Pt) := by
  refine okGT (k := 4) F hc scends_in (fun vs H Q E h => ?_) (fun A outer s H vs Q E hr h => ?_)
  · obtain ⟨g, u, v, l, c9, rfl, _⟩ := h
    rfl
  · obtain ⟨g, u, v, l, c9, rfl, hT, g0, g1, ⟨b, x, y, rfl, hS, hx, hy⟩, hv, bl, q⟩ := h
    refine ⟨_, (pss_one (ps_ret (pe_anyN (k := 2) (c := c) (P := Pt) hr (by rfl) T.any TB rfl (genK_by (sc := defScope sends_in) (by decide +kernel)) (show ¬ ("point" : Str) ∈ (["grain", "line", "corner"] : List Str) from by decide) (show ¬ (".0" : Str) ∈ (["grain", "line", "corner"] : List Str) from by decide) scends_in.nd (pv 1) (fun s1 H1 C code hr2 => pe_cmpR (op_eqDk (K := K) rfl hr2.room.units) (callD Dcorner_of (hr2.mono (by decide)) (pa_cons (pv 1) (pa_cons (pv 0) pa_nil))) (pv 3) (nomark _))))), ?_⟩
    have el : ∀ {H2 H3 : Hp} {p : Int × Int} {pp : Addr}, Same H H2 → TabG H2 Pt → Same H2 H3 → H3 pp = some (.tup [.int (nr p.1 g), .int (nr p.2 g)]) → rEqD K (.ref pp) v H3 fun y H4 => y = .bl (enP g p c9) ∧ Same H H4 ∧ TabG H4 Pt := fun {H2 H3 p pp} s2 t2 s3 e3 => by
      refine ⟨_, _, At2.dp (p := (nr p.1 g, nr p.2 g)) ⟨pp, rfl, .inl (.inl e3)⟩, (hv.same (s2.trans s3)).dp, rfl, rfl, ?_⟩
      rw [eqv_pt]
      exact ⟨rfl, s2.trans s3, s3.tab t2⟩
    refine ⟨_, rfl, b, [x, y], fun i => if i = 0 then enP g l.1 c9 else enP g l.2 c9, fun i H' => Same H H' ∧ TabG H' Pt, rfl, hS, hT, fun i H' z => seT z.1 hS, fun H2 s2 t2 => ⟨s2, t2⟩, fun i x' H2 hx' z => ?_, fun i H2 hi hb z => ?_, fun H2 hb z => ?_⟩
    · rcases i with _ | _ | i
      · cases hx'
        obtain ⟨b2, rfl, hb2⟩ := hx.same z.1
        exact ⟨_, rfl, _, rfl, g, b2, _, _, rfl, hb2, g0, g1, fun pp H3 n3 s3 e3 => ⟨_, rfl, el z.1 z.2 s3 e3⟩⟩
      · cases hx'
        obtain ⟨b2, rfl, hb2⟩ := hy.same z.1
        exact ⟨_, rfl, _, rfl, g, b2, _, _, rfl, hb2, g0, g1, fun pp H3 n3 s3 e3 => ⟨_, rfl, el z.1 z.2 s3 e3⟩⟩
      · simp at hx'
    · have := q H2 z.1
      rw [enB_eq, show (enP g l.1 c9 || enP g l.2 c9) = true from by
        rcases i with _ | _ | i
        · rw [show enP g l.1 c9 = true from hb, Bool.true_or]
        · rw [show enP g l.2 c9 = true from hb, Bool.or_true]
        · exact absurd hi (by simp)] at this
      exact this
    · have := q H2 z.1
      rw [enB_eq, show (enP g l.1 c9 || enP g l.2 c9) = false from by
        rw [show enP g l.1 c9 = false from hb 0 (by simp), show enP g l.2 c9 = false from hb 1 (by simp)]
        rfl] at this
      exact this

end
end Cl

set_option maxHeartbeats 0
namespace Cl
open PySem PySem.Spec PyProof.Rows L2
/-! ### of two lines: where nothing is in common one of six ways parts them -/
def lst (r : Ln) (p q : Int) : Int := if p * r.1.1 + q * r.1.2 ≤ p * r.2.1 + q * r.2.2 then p * r.1.1 + q * r.1.2 else p * r.2.1 + q * r.2.2
def grt (r : Ln) (p q : Int) : Int := if p * r.1.1 + q * r.1.2 ≤ p * r.2.1 + q * r.2.2 then p * r.2.1 + q * r.2.2 else p * r.1.1 + q * r.1.2
def dir (l : Ln) : Pt := less l.2 l.1
def waysL (l r : Ln) : List (Int × Int) := [(-(dir l).2, (dir l).1), ((dir l).2, -(dir l).1), (-(dir r).2, (dir r).1), ((dir r).2, -(dir r).1), ((dir l).1, (dir l).2), (-(dir l).1, -(dir l).2)]
def gapL (l r : Ln) (w : Int × Int) : Int := lst r w.1 w.2 - grt l w.1 w.2
theorem grt_ge (r : Ln) (p q : Int) : p * r.1.1 + q * r.1.2 ≤ grt r p q ∧ p * r.2.1 + q * r.2.2 ≤ grt r p q := by
  unfold grt; split <;> omega
theorem lst_le (r : Ln) (p q : Int) : lst r p q ≤ p * r.1.1 + q * r.1.2 ∧ lst r p q ≤ p * r.2.1 + q * r.2.2 := by
  unfold lst; split <;> omega
theorem grt_or (r : Ln) (p q : Int) : grt r p q = p * r.1.1 + q * r.1.2 ∨ grt r p q = p * r.2.1 + q * r.2.2 := by
  unfold grt; split <;> simp
theorem lst_or (r : Ln) (p q : Int) : lst r p q = p * r.1.1 + q * r.1.2 ∨ lst r p q = p * r.2.1 + q * r.2.2 := by
  unfold lst; split <;> simp
/-- no gap: a point of r lies no farther than one of l -/
theorem nogap {l r : Ln} {w : Int × Int} (h : gapL l r w ≤ 0) : ∃ A B, (A = l.1 ∨ A = l.2) ∧ (B = r.1 ∨ B = r.2) ∧ w.1 * B.1 + w.2 * B.2 ≤ w.1 * A.1 + w.2 * A.2 := by
  unfold gapL at h
  rcases grt_or l w.1 w.2 with e | e <;> rcases lst_or r w.1 w.2 with f | f <;> rw [e, f] at h
  · exact ⟨_, _, .inl rfl, .inl rfl, by omega⟩
  · exact ⟨_, _, .inl rfl, .inr rfl, by omega⟩
  · exact ⟨_, _, .inr rfl, .inl rfl, by omega⟩
  · exact ⟨_, _, .inr rfl, .inr rfl, by omega⟩
theorem across_in {l r : Ln} (hm : trn (dir l) (dir r) ≠ 0) (h : ∀ w ∈ waysL l r, gapL l r w ≤ 0) : acr l r ≠ [] := by
  obtain ⟨⟨ax, ay⟩, bx, by_⟩ := l
  obtain ⟨⟨cx, cy⟩, ex, ey⟩ := r
  have h1 := nogap (h _ (by simp [waysL] : (-(dir ((ax, ay), bx, by_)).2, (dir ((ax, ay), bx, by_)).1) ∈ _))
  have h2 := nogap (h _ (by simp [waysL] : ((dir ((ax, ay), bx, by_)).2, -(dir ((ax, ay), bx, by_)).1) ∈ _))
  have h3 := nogap (h _ (by simp [waysL] : (-(dir ((cx, cy), ex, ey)).2, (dir ((cx, cy), ex, ey)).1) ∈ _))
  have h4 := nogap (h _ (by simp [waysL] : ((dir ((cx, cy), ex, ey)).2, -(dir ((cx, cy), ex, ey)).1) ∈ _))
  clear h
  -- the numbers
  generalize hM : trn (dir ((ax, ay), bx, by_)) (dir ((cx, cy), ex, ey)) = M at hm
  have k1 : ∃ K, K = trn (less (cx, cy) (ax, ay)) (dir ((cx, cy), ex, ey)) := ⟨_, rfl⟩
  have k2 : ∃ L, L = trn (less (cx, cy) (ax, ay)) (dir ((ax, ay), bx, by_)) := ⟨_, rfl⟩
  obtain ⟨K, hK⟩ := k1
  obtain ⟨L, hL⟩ := k2
  have e1 : 0 ≤ M - L ∨ 0 ≤ -L := by
    obtain ⟨A, B, hA, hB, k⟩ := h2
    rcases hA with rfl | rfl <;> rcases hB with rfl | rfl <;> simp only [dir, less, trn] at k hM hL
    · exact .inr (by grind)
    · exact .inl (by grind)
    · exact .inr (by grind)
    · exact .inl (by grind)
  have e2 : M - L ≤ 0 ∨ -L ≤ 0 := by
    obtain ⟨A, B, hA, hB, k⟩ := h1
    rcases hA with rfl | rfl <;> rcases hB with rfl | rfl <;> simp only [dir, less, trn] at k hM hL
    · exact .inr (by grind)
    · exact .inl (by grind)
    · exact .inr (by grind)
    · exact .inl (by grind)
  have e3 : 0 ≤ K ∨ 0 ≤ K - M := by
    obtain ⟨A, B, hA, hB, k⟩ := h3
    rcases hA with rfl | rfl <;> rcases hB with rfl | rfl <;> simp only [dir, less, trn] at k hM hK
    · exact .inl (by grind)
    · exact .inl (by grind)
    · exact .inr (by grind)
    · exact .inr (by grind)
  have e4 : K ≤ 0 ∨ K - M ≤ 0 := by
    obtain ⟨A, B, hA, hB, k⟩ := h4
    rcases hA with rfl | rfl <;> rcases hB with rfl | rfl <;> simp only [dir, less, trn] at k hM hK
    · exact .inl (by grind)
    · exact .inl (by grind)
    · exact .inr (by grind)
    · exact .inr (by grind)
  unfold acr
  simp only
  have t1 : (klm ((ax, ay), bx, by_) ((cx, cy), ex, ey)).1 = K * kfs ((ax, ay), bx, by_) ((cx, cy), ex, ey) := by rw [hK]; rfl
  have t2 : (klm ((ax, ay), bx, by_) ((cx, cy), ex, ey)).2.1 = L * kfs ((ax, ay), bx, by_) ((cx, cy), ex, ey) := by rw [hL]; rfl
  have t3 : (klm ((ax, ay), bx, by_) ((cx, cy), ex, ey)).2.2 = M * kfs ((ax, ay), bx, by_) ((cx, cy), ex, ey) := by rw [← hM]; rfl
  have t4 : kfs ((ax, ay), bx, by_) ((cx, cy), ex, ey) = if M < 0 then -1 else 1 := by rw [← hM]; rfl
  rw [if_pos]
  · simp
  · rw [t1, t2, t3, t4]
    split <;> omega
/-- along one straight line: the order of the points -/
theorem ple_dot {d P Q : Pt} (hd : 0 < d.1 ∨ (d.1 = 0 ∧ 0 < d.2)) (hc : trn d (less Q P) = 0) (h : d.1 * P.1 + d.2 * P.2 ≤ d.1 * Q.1 + d.2 * Q.2) : ple P Q := by
  obtain ⟨dx, dy⟩ := d
  obtain ⟨px, py⟩ := P
  obtain ⟨qx, qy⟩ := Q
  rw [ple_iff]
  simp only [trn, less] at *
  obtain ⟨u, hu⟩ : ∃ u, u = qx - px := ⟨_, rfl⟩
  obtain ⟨v, hv⟩ : ∃ v, v = qy - py := ⟨_, rfl⟩
  rw [← hu, ← hv] at hc
  have h' : 0 ≤ dx * u + dy * v := by rw [hu, hv]; grind
  rcases hd with hd | ⟨rfl, hd⟩
  · have e : dx * (dx * u + dy * v) = (dx * dx + dy * dy) * u := by grind
    have f : 0 ≤ (dx * dx + dy * dy) * u := by rw [← e]; exact Int.mul_nonneg (by omega) h'
    have g : 0 < dx * dx + dy * dy := by
      have := Int.mul_pos hd hd
      have : 0 ≤ dy * dy := by
        rcases Int.le_total 0 dy with z | z
        · exact Int.mul_nonneg z z
        · exact Int.mul_nonneg_of_nonpos_of_nonpos z z
      omega
    have u0 : 0 ≤ u := Int.not_lt.mp fun z => by
      have := Int.mul_neg_of_pos_of_neg g z
      omega
    rintro (z | ⟨z1, z2⟩)
    · omega
    · have u1 : u = 0 := by omega
      rw [u1, Int.mul_zero, Int.sub_zero] at hc
      rcases Int.mul_eq_zero.mp hc with y | y <;> omega
  · rw [Int.zero_mul, Int.zero_sub] at hc
    have hc : dy * u = 0 := by omega
    have u1 : u = 0 := by
      rcases Int.mul_eq_zero.mp hc with y | y <;> omega
    have v0 : 0 ≤ v := Int.not_lt.mp fun z => by
      have := Int.mul_neg_of_pos_of_neg hd z
      rw [Int.zero_mul] at h'
      omega
    omega
theorem along_in {l r : Ln} (hl : l.1 ≠ l.2) (hm : trn (dir l) (dir r) = 0) (hs : trn (dir l) (less r.1 l.1) = 0) (h : ∀ w ∈ waysL l r, gapL l r w ≤ 0) : alo l r ≠ [] := by
  have h5 := nogap (h _ (by simp [waysL] : ((dir l).1, (dir l).2) ∈ waysL l r))
  have h6 := nogap (h _ (by simp [waysL] : (-(dir l).1, -(dir l).2) ∈ waysL l r))
  have key : ∀ d : Pt, (0 < d.1 ∨ (d.1 = 0 ∧ 0 < d.2)) → (∀ P Q, (P = l.1 ∨ P = l.2) → (Q = r.1 ∨ Q = r.2) → trn d (less Q P) = 0 ∧ trn d (less P Q) = 0) →
      (∃ A B, (A = l.1 ∨ A = l.2) ∧ (B = r.1 ∨ B = r.2) ∧ d.1 * B.1 + d.2 * B.2 ≤ d.1 * A.1 + d.2 * A.2) →
      (∃ A B, (A = l.1 ∨ A = l.2) ∧ (B = r.1 ∨ B = r.2) ∧ d.1 * A.1 + d.2 * A.2 ≤ d.1 * B.1 + d.2 * B.2) → ple (lo l r) (hi l r) := by
    intro d hd hc ⟨A, B, hA, hB, k1⟩ ⟨A', B', hA', hB', k2⟩
    have p1 : ple B A := ple_dot hd (hc _ _ hA hB).2 k1
    have p2 : ple A' B' := ple_dot hd (hc _ _ hA' hB').1 k2
    have lA := self_in hA
    have lA' := self_in hA'
    have rB := self_in hB
    have rB' := self_in hB'
    have q1 : ple (mn r.1 r.2) (mx l.1 l.2) := ple_trans rB.1 (ple_trans p1 lA.2)
    have q2 : ple (mn l.1 l.2) (mx r.1 r.2) := ple_trans lA'.1 (ple_trans p2 rB'.2)
    have q3 : ple (mn l.1 l.2) (mx l.1 l.2) := ple_trans lA.1 lA.2
    have q4 : ple (mn r.1 r.2) (mx r.1 r.2) := ple_trans rB.1 rB.2
    unfold lo hi
    rcases (mx_or (mn l.1 l.2) (mn r.1 r.2)).1 with y | y <;> rcases (mn_or (mx l.1 l.2) (mx r.1 r.2)).1 with z | z <;> rw [y, z] <;> assumption
  have col : ∀ P Q, (P = l.1 ∨ P = l.2) → (Q = r.1 ∨ Q = r.2) → trn (dir l) (less Q P) = 0 ∧ trn (dir l) (less P Q) = 0 := by
    intro P Q hP hQ
    obtain ⟨⟨ax, ay⟩, bx, by_⟩ := l
    obtain ⟨⟨cx, cy⟩, ex, ey⟩ := r
    simp only [dir, less, trn] at hm hs ⊢
    rcases hP with rfl | rfl <;> rcases hQ with rfl | rfl <;> constructor <;> simp only <;> grind
  have fin : ple (lo l r) (hi l r) → alo l r ≠ [] := fun z => by
    unfold alo
    rw [show llt (hi l r) (lo l r) = false from z]
    simp only [Bool.false_eq_true, if_false]
    split <;> simp
  apply fin
  have hd := less_ne (p := l.2) (q := l.1) hl
  have hd : ¬ ((dir l).1 = 0 ∧ (dir l).2 = 0) := fun z => hd (Prod.ext z.1 z.2)
  by_cases c : 0 < (dir l).1 ∨ ((dir l).1 = 0 ∧ 0 < (dir l).2)
  · refine key (dir l) c col h5 ?_
    obtain ⟨A, B, hA, hB, k⟩ := h6
    exact ⟨A, B, hA, hB, by simp only [Int.neg_mul] at k; omega⟩
  · refine key (-(dir l).1, -(dir l).2) (by simp only; omega) (fun P Q hP hQ => ?_) h6 ?_
    · obtain ⟨z1, z2⟩ := col P Q hP hQ
      unfold trn at *
      simp only [Int.neg_mul]
      omega
    · obtain ⟨A, B, hA, hB, k⟩ := h5
      have k : (dir l).1 * B.1 + (dir l).2 * B.2 ≤ (dir l).1 * A.1 + (dir l).2 * A.2 := k
      exact ⟨A, B, hA, hB, by simp only [Int.neg_mul]; omega⟩
/-- where nothing is in common one of the ways has a gap -/
theorem parted {l r : Ln} (hl : l.1 ≠ l.2) (h : cmn l r = []) : ∃ w ∈ waysL l r, 0 < gapL l r w := by
  refine Classical.byContradiction fun z => ?_
  have z : ∀ w ∈ waysL l r, gapL l r w ≤ 0 := fun w hw => Int.not_lt.mp fun y => z ⟨w, hw, y⟩
  unfold cmn at h
  split at h
  · rename_i hm
    exact across_in hm z h
  · rename_i hm
    have hm : trn (dir l) (dir r) = 0 := Classical.not_not.mp hm
    split at h
    · rename_i hs
      have h1 := nogap (z _ (by simp [waysL] : (-(dir l).2, (dir l).1) ∈ waysL l r))
      have h2 := nogap (z _ (by simp [waysL] : ((dir l).2, -(dir l).1) ∈ waysL l r))
      refine hs ?_
      clear z h hs
      obtain ⟨⟨ax, ay⟩, bx, by_⟩ := l
      obtain ⟨⟨cx, cy⟩, ex, ey⟩ := r
      have f1 : trn (less (bx, by_) (ax, ay)) (less (cx, cy) (ax, ay)) ≤ 0 := by
        obtain ⟨A, B, hA, hB, k⟩ := h1
        rcases hA with rfl | rfl <;> rcases hB with rfl | rfl <;> simp only [dir, less, trn] at k hm ⊢ <;> grind
      have f2 : 0 ≤ trn (less (bx, by_) (ax, ay)) (less (cx, cy) (ax, ay)) := by
        obtain ⟨A, B, hA, hB, k⟩ := h2
        rcases hA with rfl | rfl <;> rcases hB with rfl | rfl <;> simp only [dir, less, trn] at k hm ⊢ <;> grind
      exact Int.le_antisymm f1 f2
    · rename_i hs
      exact along_in hl hm (Classical.not_not.mp hs) z h
end Cl

set_option maxHeartbeats 0
namespace Cl
open PySem PySem.Spec PyProof.Rows L2
def lowN (n d : Int) : Int × Int := (n / ((Int.gcd n d : Nat) : Int), d / ((Int.gcd n d : Nat) : Int))
theorem low_scale {n d t : Int} (ht : 0 < t) : lowN (n * t) (d * t) = lowN n d := by
  unfold lowN
  rw [Int.gcd_mul_right]
  have c : (((Int.gcd n d * t.natAbs : Nat)) : Int) = (Int.gcd n d : Nat) * t := by
    rw [Int.natCast_mul, Int.natAbs_of_nonneg (by omega)]
  rw [c, Int.mul_ediv_mul_of_pos_left _ _ ht, Int.mul_ediv_mul_of_pos_left _ _ ht]
def dd (l : Ln) : Int := (dir l).1 * (dir l).1 + (dir l).2 * (dir l).2
theorem dd_pos {l : Ln} (h : l.1 ≠ l.2) : 0 < dd l := by
  have hd := less_ne (p := l.2) (q := l.1) h
  have hd : ¬ ((dir l).1 = 0 ∧ (dir l).2 = 0) := fun z => hd (Prod.ext z.1 z.2)
  unfold dd
  generalize (dir l).1 = x at *
  generalize (dir l).2 = y at *
  have sq : ∀ z : Int, 0 ≤ z * z ∧ (z ≠ 0 → 0 < z * z) := fun z => by
    rcases Int.lt_trichotomy z 0 with h | h | h
    · exact ⟨Int.mul_nonneg_of_nonpos_of_nonpos (by omega) (by omega), fun _ => Int.mul_pos_of_neg_of_neg h h⟩
    · rw [h]; exact ⟨by omega, fun h => absurd rfl h⟩
    · exact ⟨Int.mul_nonneg (by omega) (by omega), fun _ => Int.mul_pos h h⟩
  have a := sq x
  have b := sq y
  by_cases hx : x = 0
  · have := b.2 (fun hy => hd ⟨hx, hy⟩)
    omega
  · have := a.2 hx
    omega
/-- the spot lies at the share k / m of the line -/
structure OnSeg (l : Ln) (s : S3) (k m : Int) : Prop where
  m0 : 0 < m
  k0 : 0 ≤ k
  km : k ≤ m
  d0 : 0 < s.2.2
  ex : s.1 * m = s.2.2 * (m * l.1.1 + k * (dir l).1)
  ey : s.2.1 * m = s.2.2 * (m * l.1.2 + k * (dir l).2)
def shN (l : Ln) (s : S3) : Int × Int := lowN ((s.1 - s.2.2 * l.1.1) * (dir l).1 + (s.2.1 - s.2.2 * l.1.2) * (dir l).2) (s.2.2 * dd l)
theorem onSeg_share {l : Ln} {s : S3} {k m : Int} (hl : l.1 ≠ l.2) (h : OnSeg l s k m) : shQ (shN l s).1 (shN l s).2 = true ∧ (shN l s).2 ≤ m ∧ at3 l (shN l s).1 (shN l s).2 = sp3 s.1 s.2.1 s.2.2 := by
  obtain ⟨m0, k0, km, d0, e1, e2⟩ := h
  have hD := dd_pos hl
  have hB : 0 < s.2.2 * dd l := Int.mul_pos d0 hD
  have e : shN l s = lowN k m := by
    unfold shN
    rw [← low_scale (n := (s.1 - s.2.2 * l.1.1) * (dir l).1 + (s.2.1 - s.2.2 * l.1.2) * (dir l).2) (d := s.2.2 * dd l) m0, ← low_scale (n := k) (d := m) hB]
    have f : ((s.1 - s.2.2 * l.1.1) * (dir l).1 + (s.2.1 - s.2.2 * l.1.2) * (dir l).2) * m = k * (s.2.2 * dd l) := by
      unfold dd
      have g1 : (s.1 - s.2.2 * l.1.1) * m = s.2.2 * (k * (dir l).1) := by grind
      have g2 : (s.2.1 - s.2.2 * l.1.2) * m = s.2.2 * (k * (dir l).2) := by grind
      grind
    rw [f, Int.mul_comm (s.2.2 * dd l) m]
  obtain ⟨g, eg, g0, _, p1, p2, p3⟩ := low_parts (n := k) (d := m) m0
  rw [e]
  unfold lowN
  rw [← eg]
  generalize hk : k / g = k1 at *
  generalize hm : m / g = m1 at *
  have kk : 0 ≤ k1 := Int.not_lt.mp fun z => by
    have := Int.mul_neg_of_neg_of_pos z g0
    omega
  have km1 : k1 ≤ m1 := Int.not_lt.mp fun z => by
    have := Int.mul_lt_mul_of_pos_right z g0
    omega
  refine ⟨shQ_iff.mpr ⟨by omega, kk, km1⟩, ?_, ?_⟩
  · rw [p2]
    have := Int.mul_le_mul_of_nonneg_left (show (1 : Int) ≤ g by omega) (Int.le_of_lt p3)
    omega
  · unfold at3
    rw [← sp3_scale (t := g) g0 p3]
    refine (sp3_eq (by rw [← p2]; exact m0) d0).mpr ⟨?_, ?_⟩
    · have x1 : (m1 * l.1.1 + k1 * (l.2.1 - l.1.1)) * g = m * l.1.1 + k * (dir l).1 := by
        rw [p1, p2]
        show _ = m1 * g * l.1.1 + k1 * g * (l.2.1 - l.1.1)
        grind
      rw [x1, ← p2, e1]
      grind
    · have x1 : (m1 * l.1.2 + k1 * (l.2.2 - l.1.2)) * g = m * l.1.2 + k * (dir l).2 := by
        rw [p1, p2]
        show _ = m1 * g * l.1.2 + k1 * g * (l.2.2 - l.1.2)
        grind
      rw [x1, ← p2, e2]
      grind
theorem acr_seg {l r : Ln} {s : S3} (hm : trn (dir l) (dir r) ≠ 0) (bl : BdL l) (br : BdL r) (hs : s ∈ acr l r) : ∃ k m, OnSeg l s k m ∧ m < 2 ^ 123 := by
  have hp := klm_pos l r hm
  have kM : (klm l r).2.2.natAbs < 2 ^ 122 := by
    have t1 := trn_lt (bd_less bl.2 bl.1) (bd_less br.2 br.1)
    show (trn (less l.2 l.1) (less r.2 r.1) * kfs l r).natAbs < 2 ^ 122
    unfold kfs
    split <;> omega
  unfold acr at hs
  simp only at hs
  split at hs
  · rename_i h
    rw [List.mem_singleton.mp hs]
    obtain ⟨p, hp0, f1, f2, f3, f4, _⟩ := spot_pos (n := (klm l r).2.2 * l.1.1 + (klm l r).1 * (l.2.1 - l.1.1)) (m := (klm l r).2.2 * l.1.2 + (klm l r).1 * (l.2.2 - l.1.2)) hp
    refine ⟨(klm l r).1, (klm l r).2.2, ⟨hp, h.1.1, h.1.2, f4, ?_, ?_⟩, by omega⟩
    · show _ = _ * ((klm l r).2.2 * l.1.1 + (klm l r).1 * (l.2.1 - l.1.1))
      unfold sp3
      simp only
      generalize (klm l r).2.2 * l.1.1 + (klm l r).1 * (l.2.1 - l.1.1) = n at *
      generalize (klm l r).2.2 * l.1.2 + (klm l r).1 * (l.2.2 - l.1.2) = n' at *
      generalize (klm l r).2.2 = M at *
      generalize n / spP n n' M = a at *
      generalize M / spP n n' M = c at *
      rw [f1, f3]
      grind
    · show _ = _ * ((klm l r).2.2 * l.1.2 + (klm l r).1 * (l.2.2 - l.1.2))
      unfold sp3
      simp only
      generalize (klm l r).2.2 * l.1.1 + (klm l r).1 * (l.2.1 - l.1.1) = n at *
      generalize (klm l r).2.2 * l.1.2 + (klm l r).1 * (l.2.2 - l.1.2) = n' at *
      generalize (klm l r).2.2 = M at *
      generalize n' / spP n n' M = a at *
      generalize M / spP n n' M = c at *
      rw [f2, f3]
      grind
  · exact nomatch hs
theorem dot_ple {d P Q : Pt} (hd : 0 < d.1 ∨ (d.1 = 0 ∧ 0 < d.2)) (hc : trn d (less P Q) = 0) (h : ple P Q) : d.1 * P.1 + d.2 * P.2 ≤ d.1 * Q.1 + d.2 * Q.2 := by
  refine Int.not_lt.mp fun z => ?_
  have := ple_dot hd hc (Int.le_of_lt z)
  rw [ple_antisymm h this] at z
  omega
theorem within_seg {l : Ln} {p : Pt} (hl : l.1 ≠ l.2) (bl : BdL l) (hc : trn (dir l) (less p l.1) = 0) (h : within p l) : ∃ k m, OnSeg l (one3 p) k m ∧ m < 2 ^ 123 := by
  have hD := dd_pos hl
  have hb : dd l < 2 ^ 123 := by
    obtain ⟨⟨x1, x2⟩, x3, x4⟩ := bd_less bl.2 bl.1
    have w1 := wide_lt (i := (dir l).1) (j := (dir l).1) (a := 60) (b := 60) (by show (less l.2 l.1).1.natAbs < _; omega) (by show (less l.2 l.1).1.natAbs < _; omega)
    have w2 := wide_lt (i := (dir l).2) (j := (dir l).2) (a := 60) (b := 60) (by show (less l.2 l.1).2.natAbs < _; omega) (by show (less l.2 l.1).2.natAbs < _; omega)
    unfold dd
    omega
  have key : (dir l).1 * l.1.1 + (dir l).2 * l.1.2 ≤ (dir l).1 * p.1 + (dir l).2 * p.2 ∧ (dir l).1 * p.1 + (dir l).2 * p.2 ≤ (dir l).1 * l.2.1 + (dir l).2 * l.2.2 := by
    have hd := less_ne (p := l.2) (q := l.1) hl
    have hd : ¬ ((dir l).1 = 0 ∧ (dir l).2 = 0) := fun z => hd (Prod.ext z.1 z.2)
    have c1 : trn (dir l) (less l.1 p) = 0 := by
      unfold trn less at *
      simp only at *
      grind
    have c2 : trn (dir l) (less p l.2) = 0 ∧ trn (dir l) (less l.2 p) = 0 := by
      unfold dir trn less at *
      simp only at *
      constructor <;> grind
    have c3 : trn (dir l) (less l.1 l.2) = 0 ∧ trn (dir l) (less l.2 l.1) = 0 := by
      unfold dir trn less at *
      simp only at *
      constructor <;> grind
    obtain ⟨h1, h2⟩ := h
    by_cases c : 0 < (dir l).1 ∨ ((dir l).1 = 0 ∧ 0 < (dir l).2)
    · have o : ple l.1 l.2 := ple_dot c c3.2 (by
        have : (dir l).1 * l.2.1 + (dir l).2 * l.2.2 = (dir l).1 * l.1.1 + (dir l).2 * l.1.2 + dd l := by
          unfold dd
          show _ = (dir l).1 * l.1.1 + (dir l).2 * l.1.2 + ((dir l).1 * (l.2.1 - l.1.1) + (dir l).2 * (l.2.2 - l.1.2))
          grind
        omega)
      have e1 : mn l.1 l.2 = l.1 := by unfold mn; rw [show llt l.2 l.1 = false from o]; rfl
      have e2 : mx l.1 l.2 = l.2 := by
        unfold mx
        split
        · rfl
        · rename_i z
          exact ple_antisymm o (by unfold ple; simpa using z)
      rw [e1] at h1
      rw [e2] at h2
      exact ⟨dot_ple c c1 h1, dot_ple c c2.1 h2⟩
    · have c' : 0 < (-(dir l).1, -(dir l).2).1 ∨ ((-(dir l).1, -(dir l).2).1 = 0 ∧ 0 < (-(dir l).1, -(dir l).2).2) := by simp only; omega
      have ng : ∀ q : Pt, trn (dir l) q = 0 → trn (-(dir l).1, -(dir l).2) q = 0 := fun q z => by
        unfold trn at *
        simp only [Int.neg_mul]
        omega
      have o : ple l.2 l.1 := ple_dot c' (ng _ c3.1) (by
        have : (dir l).1 * l.2.1 + (dir l).2 * l.2.2 = (dir l).1 * l.1.1 + (dir l).2 * l.1.2 + dd l := by
          unfold dd
          show _ = (dir l).1 * l.1.1 + (dir l).2 * l.1.2 + ((dir l).1 * (l.2.1 - l.1.1) + (dir l).2 * (l.2.2 - l.1.2))
          grind
        simp only [Int.neg_mul]
        omega)
      have e1 : mn l.1 l.2 = l.2 := by
        rw [mn_comm]
        unfold mn; rw [show llt l.1 l.2 = false from o]; rfl
      have e2 : mx l.1 l.2 = l.1 := by
        rw [mx_comm]
        unfold mx
        split
        · rfl
        · rename_i z
          exact ple_antisymm o (by unfold ple; simpa using z)
      rw [e1] at h1
      rw [e2] at h2
      have a := dot_ple c' (ng _ c2.2) h1
      have b := dot_ple c' (ng _ hc) h2
      simp only [Int.neg_mul] at a b
      omega
  have cc : (dir l).1 * (p.2 - l.1.2) = (dir l).2 * (p.1 - l.1.1) := by
    unfold trn less at hc
    simp only at hc
    omega
  have e0 : (dir l).1 * l.2.1 + (dir l).2 * l.2.2 = (dir l).1 * l.1.1 + (dir l).2 * l.1.2 + dd l := by
    unfold dd
    show _ = (dir l).1 * l.1.1 + (dir l).2 * l.1.2 + ((dir l).1 * (l.2.1 - l.1.1) + (dir l).2 * (l.2.2 - l.1.2))
    grind
  refine ⟨(dir l).1 * (p.1 - l.1.1) + (dir l).2 * (p.2 - l.1.2), dd l, ⟨hD, by rw [Int.mul_sub, Int.mul_sub]; omega, by rw [Int.mul_sub, Int.mul_sub]; omega, by show (0 : Int) < 1; decide, ?_, ?_⟩, hb⟩
  · show p.1 * dd l = 1 * _
    unfold dd
    generalize (dir l).1 = x at *
    generalize (dir l).2 = y at *
    grind
  · show p.2 * dd l = 1 * _
    unfold dd
    generalize (dir l).1 = x at *
    generalize (dir l).2 = y at *
    grind
theorem cmn_seg {l r : Ln} {s : S3} (hl : l.1 ≠ l.2) (bl : BdL l) (br : BdL r) (hs : s ∈ cmn l r) : ∃ k m, OnSeg l s k m ∧ m < 2 ^ 123 := by
  unfold cmn at hs
  split at hs
  · rename_i hm
    exact acr_seg hm bl br hs
  · rename_i hm
    have hm : trn (dir l) (dir r) = 0 := Classical.not_not.mp hm
    split at hs
    · exact nomatch hs
    · rename_i hc
      have hc : trn (dir l) (less r.1 l.1) = 0 := Classical.not_not.mp hc
      have hc2 : trn (dir l) (less r.2 l.1) = 0 := by
        unfold dir trn less at *
        simp only at *
        grind
      have fin : ∀ p, inBoth l r p → ∃ k m, OnSeg l (one3 p) k m ∧ m < 2 ^ 123 := fun p hp => by
        refine within_seg hl bl ?_ (inBoth_two hp).1
        rcases hp with ⟨hp, _⟩ | ⟨hp, _⟩
        · rcases hp with rfl | rfl
          · unfold trn less; simp
          · unfold dir trn less; simp only; grind
        · rcases hp with rfl | rfl
          · exact hc
          · exact hc2
      unfold alo at hs
      split at hs
      · exact nomatch hs
      · rename_i h
        have h : ple (lo l r) (hi l r) := by unfold ple; simpa using h
        split at hs
        · rw [List.mem_singleton.mp hs]
          exact fin _ (lo_in h)
        · rcases List.mem_cons.mp hs with rfl | hs
          · exact fin _ (lo_in h)
          · rw [List.mem_singleton.mp hs]
            exact fin _ (hi_in h)
/-- what is told of two lines -/
def kfL (l r : Ln) (i : Nat) : Int := gapL l r ((waysL l r).getD i (0, 0))
def BestI (l r : Ln) (i : Nat) : Prop := ∀ j, j < 6 → kfL l r i ≥ kfL l r j ∧ (j < i → kfL l r i > kfL l r j)
def apN (l r : Ln) (w : Int × Int) : List Int := [2 * w.1, 2 * w.2, grt l w.1 w.2 + lst r w.1 w.2]
def meN (l r : Ln) (s : S3) : List Int := [(shN l s).1, (shN l s).2, (shN r s).1, (shN r s).2]
def ToldP (l r : Ln) (wd : Str) (ns : List Int) : Prop := (cmn l r = [] ∧ wd = "apart" ∧ ∃ i, i < 6 ∧ BestI l r i ∧ ns = apN l r ((waysL l r).getD i (0, 0))) ∨
  ∃ s ss, cmn l r = s :: ss ∧ wd = "meets" ∧ ns = meN l r s
theorem told_one {l r : Ln} {wd wd' : Str} {ns ns' : List Int} (h : ToldP l r wd ns) (h' : ToldP l r wd' ns') : wd = wd' ∧ ns = ns' := by
  rcases h with ⟨e, e1, i, hi, bi, e2⟩ | ⟨s, ss, e, e1, e2⟩ <;> rcases h' with ⟨f, f1, j, hj, bj, f2⟩ | ⟨s', ss', f, f1, f2⟩
  · refine ⟨e1.trans f1.symm, ?_⟩
    have hij : i = j := by
      rcases Nat.lt_trichotomy i j with z | z | z
      · have a := (bj i hi).2 z
        have b := (bi j hj).1
        omega
      · exact z
      · have a := (bi j hj).2 z
        have b := (bj i hi).1
        omega
    rw [e2, f2, hij]
  · rw [e] at f; cases f
  · rw [e] at f; cases f
  · rw [e] at f
    cases f
    exact ⟨e1.trans f1.symm, e2.trans f2.symm⟩
structure GoodC (l r : Ln) (wd : Str) (ns : List Int) : Prop where
  ok : (isApart l r wd ns || isMeet l r wd ns) = true
  len : ns.length ≤ 9
  b : B190 ns
  sh : SeqAt.shaped (.tuple [.str wd]) = true
  due : wd = if cmn l r = [] then "apart" else "meets"
theorem bd_ways {l r : Ln} (bl : BdL l) (br : BdL r) : ∀ w ∈ waysL l r, w.1.natAbs < 2 ^ 42 ∧ w.2.natAbs < 2 ^ 42 := fun w hw => by
  obtain ⟨⟨⟨x1, x2⟩, x3, x4⟩, ⟨y1, y2⟩, y3, y4⟩ := bl
  obtain ⟨⟨⟨u1, u2⟩, u3, u4⟩, ⟨v1, v2⟩, v3, v4⟩ := br
  simp only [waysL, dir, less, List.mem_cons, List.not_mem_nil, or_false] at hw
  rcases hw with rfl | rfl | rfl | rfl | rfl | rfl <;> exact ⟨by simp only; omega, by simp only; omega⟩
theorem lin_bd {l : Ln} (bl : BdL l) {p q : Int} (hp : p.natAbs < 2 ^ 42) (hq : q.natAbs < 2 ^ 42) : (grt l p q).natAbs < 2 ^ 90 ∧ (lst l p q).natAbs < 2 ^ 90 := by
  obtain ⟨⟨⟨x1, x2⟩, x3, x4⟩, ⟨y1, y2⟩, y3, y4⟩ := bl
  have a1 := wide_lt (i := p) (j := l.1.1) (a := 42) (b := 40) hp (by omega)
  have a2 := wide_lt (i := q) (j := l.1.2) (a := 42) (b := 40) hq (by omega)
  have a3 := wide_lt (i := p) (j := l.2.1) (a := 42) (b := 40) hp (by omega)
  have a4 := wide_lt (i := q) (j := l.2.2) (a := 42) (b := 40) hq (by omega)
  constructor
  · rcases grt_or l p q with e | e <;> rw [e] <;> omega
  · rcases lst_or l p q with e | e <;> rw [e] <;> omega
theorem told_good {l r : Ln} {wd : Str} {ns : List Int} (hl : l.1 ≠ l.2) (hr : r.1 ≠ r.2) (bl : BdL l) (br : BdL r) (h : ToldP l r wd ns) : GoodC l r wd ns := by
  rcases h with ⟨e, rfl, i, hi, bi, rfl⟩ | ⟨s, ss, e, rfl, rfl⟩
  · obtain ⟨w0, hw0, g0⟩ := parted hl e
    have hlen : (waysL l r).length = 6 := rfl
    obtain ⟨j, hj, ej⟩ := List.getElem_of_mem hw0
    have hj6 : j < 6 := by rw [hlen] at hj; exact hj
    have gi : 0 < kfL l r i := by
      have := (bi j hj6).1
      have e2 : kfL l r j = gapL l r w0 := by
        unfold kfL
        rw [List.getD_eq_getElem?_getD, List.getElem?_eq_getElem hj, ej]
        rfl
      omega
    have hmem : (waysL l r).getD i (0, 0) ∈ waysL l r := by
      rw [List.getD_eq_getElem?_getD, List.getElem?_eq_getElem (show i < (waysL l r).length by rw [hlen]; exact hi)]
      exact List.getElem_mem _
    unfold kfL at gi
    generalize (waysL l r).getD i (0, 0) = w at *
    obtain ⟨b1, b2⟩ := bd_ways bl br w hmem
    obtain ⟨c1, c2⟩ := lin_bd bl b1 b2
    obtain ⟨d1, d2⟩ := lin_bd br b1 b2
    obtain ⟨f1, f2⟩ := grt_ge l w.1 w.2
    obtain ⟨f3, f4⟩ := lst_le r w.1 w.2
    unfold gapL at gi
    refine ⟨?_, by simp [apN], fun n hn => ?_, by decide +kernel, by rw [if_pos e]⟩
    · rw [Bool.or_eq_true]
      left
      have x1 : ∀ a b : Int, 2 * a * b = 2 * (a * b) := fun a b => by rw [Int.mul_assoc]
      simp only [apN, isApart, ptsOf, below, above, List.all_cons, List.all_nil, Bool.and_true, Bool.and_eq_true, decide_eq_true_iff, x1]
      refine ⟨trivial, ⟨?_, ?_⟩, ?_, ?_⟩ <;> omega
    · simp only [apN, List.mem_cons, List.not_mem_nil, or_false] at hn
      rcases hn with rfl | rfl | rfl <;> omega
  · have hs : s ∈ cmn l r := by rw [e]; exact List.mem_cons_self ..
    have hs2 : s ∈ cmn r l := by rw [cmn_swap l r hl hr]; exact hs
    obtain ⟨k, m, h1, hm1⟩ := cmn_seg hl bl br hs
    obtain ⟨k2, m2, h2, hm2⟩ := cmn_seg hr br bl hs2
    obtain ⟨a1, a2, a3⟩ := onSeg_share hl h1
    obtain ⟨c1, c2, c3⟩ := onSeg_share hr h2
    have q1 := shQ_iff.mp a1
    have q2 := shQ_iff.mp c1
    refine ⟨?_, by simp [meN], fun n hn => ?_, by decide +kernel, by rw [if_neg (by rw [e]; simp)]⟩
    · rw [Bool.or_eq_true]
      right
      simp only [meN, isMeet, a1, c1, a3, c3, Bool.true_and, decide_true, Bool.and_true, Bool.and_self]
    · simp only [meN, List.mem_cons, List.not_mem_nil, or_false] at hn
      rcases hn with rfl | rfl | rfl | rfl <;> omega
end Cl

set_option maxHeartbeats 0
namespace Cl
open PySem PySem.Spec PyProof.Rows L2
open GxR (TabB TabG)


def BdT (r : Ln) : Prop := ∀ z ∈ ptsOf r, (-(2 ^ 64) < z.1 ∧ z.1 < 2 ^ 64) ∧ -(2 ^ 64) < z.2 ∧ z.2 < 2 ^ 64
theorem bdt_ofL {r : Ln} (bd : BdL r) : BdT r := fun z hz => by
  obtain ⟨⟨⟨x1, x2⟩, x3, x4⟩, ⟨x5, x6⟩, x7, x8⟩ := bd
  simp only [ptsOf, List.mem_cons, List.not_mem_nil, or_false] at hz
  rcases hz with rfl | rfl <;> exact ⟨⟨by omega, by omega⟩, by omega, by omega⟩
def spWaysA (K : PySem.W.Frag) : Sp := fun vs H Q _ => ∃ v r, vs = [v] ∧ AtL K H v r ∧ ∀ W u1 u2 H', Same H H' → SqT K H' W [u1, u2] → At2 K H' u1 (-(r.2.2 - r.1.2), r.2.1 - r.1.1) → At2 K H' u2 (r.2.2 - r.1.2, -(r.2.1 - r.1.1)) → Q (.ref W) H'
def spLeast (K : PySem.W.Frag) : Sp := fun vs H Q _ => ∃ v r p q, vs = [v, .int p, .int q] ∧ AtL K H v r ∧ BdT r ∧ ∀ H', Same H H' → Q (.int (lst r p q)) H'
def spGreat (K : PySem.W.Frag) : Sp := fun vs H Q _ => ∃ v r p q, vs = [v, .int p, .int q] ∧ AtL K H v r ∧ BdT r ∧ ∀ H', Same H H' → Q (.int (grt r p q)) H'
def spLowG (K : PySem.W.Frag) : Sp := fun vs H Q _ => ∃ n d : Int, vs = [.int n, .int d] ∧ 0 < d ∧ d < 2 ^ 240 ∧ ∀ w H', Same H H' → At2 K H' w (lowN n d) → Q w H'
theorem lst_min {r : Ln} {p q m : Int} (h1 : m = p * r.1.1 + q * r.1.2 ∨ m = p * r.2.1 + q * r.2.2) (h2 : m ≤ p * r.1.1 + q * r.1.2) (h3 : m ≤ p * r.2.1 + q * r.2.2) : m = lst r p q := by
  unfold lst
  split <;> omega
theorem grt_max {r : Ln} {p q m : Int} (h1 : m = p * r.1.1 + q * r.1.2 ∨ m = p * r.2.1 + q * r.2.2) (h2 : p * r.1.1 + q * r.1.2 ≤ m) (h3 : p * r.2.1 + q * r.2.2 ≤ m) : m = grt r p q := by
  unfold grt
  split <;> omega

section
variable {P : Program} {w : World} {K : PySem.W.Frag} {mg : Str → Option Value} {base : Heap}

theorem oklowest {f : Addr} {fd : FuncData} (F : Fun K "lowest" "lowest" slowest f fd) (T : Bt mg) (Dgreatest_parting : Def P w K mg base 1 "greatest_parting" ["n", "m"] spGp) :
    FnG P w K mg base CX0 2 f fd ["n", "d"] (spLowG K) := by
  refine okG (k := 1) F sclowest (fun vs H Q E h => ?_) (fun cdv A outer s H vs Q E hr h => ?_)
  · obtain ⟨n, d, rfl, _⟩ := h
    rfl
  · obtain ⟨n, d, rfl, h0, h1, q⟩ := h
    refine ⟨_, (pss_cons (ps_set (i := 2) sclowest.nd rfl (.inl rfl) (callD Dgreatest_parting (hr.mono (by decide)) (pa_cons (pv 0) (pa_cons (pv 1) pa_nil))))
      (pss_one (ps_ret (tupN (pa_cons (pe_op op_fdivW (pv 0) (pv 2)) (pa_cons (pe_op op_fdivW (pv 1) (pv 2)) pa_nil)))))), ?_⟩
    obtain ⟨k, ek, k0, k1, e1, e2, k2⟩ := low_parts (n := n) h0
    refine ⟨_, rfl, _, rfl, n, d, rfl, ?_⟩
    rw [← ek]
    refine ⟨_, rfl, _, rfl, _, _, rfl, rfl, wide_div (b := 240) k0 (by omega) (by decide) (by decide), _, rfl, _, rfl, _, _, rfl, rfl, wide_div (b := 240) k0 (by omega) (by decide) (by decide), (by show 2 ≤ sizeLine; decide), fun p H1 nn s e => ?_⟩
    subst ek
    exact q _ _ s ⟨p, rfl, .inl (.inl e)⟩

theorem okways_across {f : Addr} {fd : FuncData} (F : Fun K "ways_across" "ways_across" sways_across f fd) (T : Bt mg) (Dstep_of : Def P w K mg base 1 "step_of" ["line"] (spStep K)) :
    FnG P w K mg base CX0 2 f fd ["line"] (spWaysA K) := by
  refine okG (k := 1) F scways_across (fun vs H Q E h => ?_) (fun cdv A outer s H vs Q E hr h => ?_)
  · obtain ⟨v, r, rfl, _⟩ := h
    rfl
  · obtain ⟨v, r, rfl, hL, q⟩ := h
    refine ⟨_, (pss_cons (ps_asg (callD Dstep_of (hr.mono (by decide)) (pa_cons (pv 0) pa_nil)) (pg_tup (by rfl) (pgs_cons (pg_name (i := 1) scways_across.nd rfl (.inl rfl)) (pgs_cons (pg_name (i := 2) scways_across.nd rfl (.inl rfl)) pgs_nil))))
      (pss_one (ps_ret (tupN (pa_cons (tupN (pa_cons (pe_un un_neg (pv 2)) (pa_cons (pv 1) pa_nil))) (pa_cons (tupN (pa_cons (pv 2) (pa_cons (pe_un un_neg (pv 1)) pa_nil))) pa_nil)))))), ?_⟩
    refine ⟨_, rfl, v, r, rfl, hL, fun w H1 s1 e1 => ?_⟩
    obtain ⟨a4, rfl, h4⟩ := e1
    refine ⟨a4, _, rfl, h4, rfl, _, _, rfl, _, _, rfl, rfl, ?_⟩
    refine ⟨_, rfl, _, rfl, _, rfl, (by show 2 ≤ sizeLine; decide), fun p1 H2 n2 s2 e2 => ⟨_, rfl, _, rfl, _, rfl, (by show 2 ≤ sizeLine; decide), fun p2 H3 n3 s3 e3 => ⟨(by show 2 ≤ sizeLine; decide), fun p4 H4 n4 s4 e4 => ?_⟩⟩⟩
    exact q p4 _ _ H4 (s1.trans (s2.trans (s3.trans s4))) (.inl (.inl e4)) ⟨p1, rfl, .inl (.inl ((s3.trans s4) _ _ e2))⟩ ⟨p2, rfl, .inl (.inl (s4 _ _ e3))⟩

theorem okleast_by {f : Addr} {fd : FuncData} (F : Fun K "least_by" "least_by" sleast_by f fd) (T : Bt mg) :
    FnG P w K mg base CX0 1 f fd ["line", "p", "q"] (spLeast K) := by
  refine okG (k := 0) F scleast_by (fun vs H Q E h => ?_) (fun cdv A outer s H vs Q E hr h => ?_)
  · obtain ⟨v, r, p, q, rfl, _⟩ := h
    rfl
  · obtain ⟨v, r, p, q, rfl, hL, bT, Q1⟩ := h
    refine ⟨_, (pss_one (ps_ret (pe_callB (cr_min rfl) (by rfl) T.min (by decide +kernel) (pa_cons (pe_lc (own := [("x", 3), ("y", 4)]) (g := gTup K 2 (gCons (gName 3) (gCons (gName 4) gNil))) (tt := tYes) (by rfl) scleast_by.nd (pi_tup (pv 0)) (blkOk_by (own := [("x", 3), ("y", 4)]) (N := ["line", "p", "q", "x", "y"]) (sc := defScope sleast_by) (by decide +kernel)) (fun _ _ _ _ _ => (pg_tup (by rfl) (pgs_cons (pg_name (i := 3) scleast_by.nd rfl (.inl rfl)) (pgs_cons (pg_name (i := 4) scleast_by.nd rfl (.inl rfl)) pgs_nil)))) (fun _ _ _ _ _ => pts_nil) (fun _ _ _ _ _ => (pe_op op_add (pe_op op_mul (pv 1) (pv 3)) (pe_op op_mul (pv 2) (pv 4))))) pa_nil)))), ?_⟩
    obtain ⟨a, vs, rfl, h1, h2⟩ := pts_at hL
    refine ⟨_, rfl, a, rfl, ⟨_, h1⟩, fun pE nE => ?_⟩
    refine lcT (K := K) (a := a) (xs := vs) (fun i H' => Same H H' ∧ H' pE = some (.lst ((((ptsOf r).take i).map (fun z => p * z.1 + q * z.2)).map V.int))) nE (fun H' e1 e2 => ⟨e1, e2⟩) (fun i H' _ z => seT z.1 h1) (fun i z H' hz w => ?_) (fun H10 z => ?_)
    · obtain ⟨t1, t2⟩ := w
      obtain ⟨pt, hpt, b, rfl, hb⟩ := h2.get hz
      have hpm := List.mem_of_getElem? hpt
      refine ⟨b, _, rfl, seT t1 hb, rfl, _, _, rfl, _, _, rfl, rfl, rfl, ?_⟩
      obtain ⟨acc, a1, a2, a3, a4⟩ := accI (F := (fun z => p * z.1 + q * z.2)) nE t1 t2 hpt (by simp [ptsOf])
      exact ⟨_, rfl, _, rfl, _, _, rfl, rfl, .inr ((bT _ hpm).1), _, rfl, _, rfl, _, _, rfl, rfl, .inr ((bT _ hpm).2), _, _, rfl, rfl, acc, a1, a2, a3, a4⟩
    obtain ⟨z1, z2⟩ := z
    rw [List.take_of_length_le (by rw [h2.length]; exact Nat.le_refl _)] at z2
    refine ⟨pE, _, rfl, .inl (.inl z2), (by simp [ptsOf]), fun m hm1 hm2 => ?_⟩
    have k1 := hm2 (p * r.1.1 + q * r.1.2) (by simp [ptsOf])
    have k2 := hm2 (p * r.2.1 + q * r.2.2) (by simp [ptsOf])
    have k3 : m = p * r.1.1 + q * r.1.2 ∨ m = p * r.2.1 + q * r.2.2 := by simpa [ptsOf] using hm1
    rw [lst_min k3 k1 k2]
    exact Q1 _ z1

theorem okgreatest_by {f : Addr} {fd : FuncData} (F : Fun K "greatest_by" "greatest_by" sgreatest_by f fd) (T : Bt mg) :
    FnG P w K mg base CX0 1 f fd ["line", "p", "q"] (spGreat K) := by
  refine okG (k := 0) F scgreatest_by (fun vs H Q E h => ?_) (fun cdv A outer s H vs Q E hr h => ?_)
  · obtain ⟨v, r, p, q, rfl, _⟩ := h
    rfl
  · obtain ⟨v, r, p, q, rfl, hL, bT, Q1⟩ := h
    refine ⟨_, (pss_one (ps_ret (pe_callB (cr_max rfl) (by rfl) T.max (by decide +kernel) (pa_cons (pe_lc (own := [("x", 3), ("y", 4)]) (g := gTup K 2 (gCons (gName 3) (gCons (gName 4) gNil))) (tt := tYes) (by rfl) scgreatest_by.nd (pi_tup (pv 0)) (blkOk_by (own := [("x", 3), ("y", 4)]) (N := ["line", "p", "q", "x", "y"]) (sc := defScope sgreatest_by) (by decide +kernel)) (fun _ _ _ _ _ => (pg_tup (by rfl) (pgs_cons (pg_name (i := 3) scgreatest_by.nd rfl (.inl rfl)) (pgs_cons (pg_name (i := 4) scgreatest_by.nd rfl (.inl rfl)) pgs_nil)))) (fun _ _ _ _ _ => pts_nil) (fun _ _ _ _ _ => (pe_op op_add (pe_op op_mul (pv 1) (pv 3)) (pe_op op_mul (pv 2) (pv 4))))) pa_nil)))), ?_⟩
    obtain ⟨a, vs, rfl, h1, h2⟩ := pts_at hL
    refine ⟨_, rfl, a, rfl, ⟨_, h1⟩, fun pE nE => ?_⟩
    refine lcT (K := K) (a := a) (xs := vs) (fun i H' => Same H H' ∧ H' pE = some (.lst ((((ptsOf r).take i).map (fun z => p * z.1 + q * z.2)).map V.int))) nE (fun H' e1 e2 => ⟨e1, e2⟩) (fun i H' _ z => seT z.1 h1) (fun i z H' hz w => ?_) (fun H10 z => ?_)
    · obtain ⟨t1, t2⟩ := w
      obtain ⟨pt, hpt, b, rfl, hb⟩ := h2.get hz
      have hpm := List.mem_of_getElem? hpt
      refine ⟨b, _, rfl, seT t1 hb, rfl, _, _, rfl, _, _, rfl, rfl, rfl, ?_⟩
      obtain ⟨acc, a1, a2, a3, a4⟩ := accI (F := (fun z => p * z.1 + q * z.2)) nE t1 t2 hpt (by simp [ptsOf])
      exact ⟨_, rfl, _, rfl, _, _, rfl, rfl, .inr ((bT _ hpm).1), _, rfl, _, rfl, _, _, rfl, rfl, .inr ((bT _ hpm).2), _, _, rfl, rfl, acc, a1, a2, a3, a4⟩
    obtain ⟨z1, z2⟩ := z
    rw [List.take_of_length_le (by rw [h2.length]; exact Nat.le_refl _)] at z2
    refine ⟨pE, _, rfl, .inl (.inl z2), (by simp [ptsOf]), fun m hm1 hm2 => ?_⟩
    have k1 := hm2 (p * r.1.1 + q * r.1.2) (by simp [ptsOf])
    have k2 := hm2 (p * r.2.1 + q * r.2.2) (by simp [ptsOf])
    have k3 : m = p * r.1.1 + q * r.1.2 ∨ m = p * r.2.1 + q * r.2.2 := by simpa [ptsOf] using hm1
    rw [grt_max k3 k1 k2]
    exact Q1 _ z1

end
end Cl

set_option maxHeartbeats 0
namespace Cl
open PySem PySem.Spec PyProof.Rows L2
open GxR (TabB TabG)


def Bd3 (s : S3) : Prop := s.1.natAbs < 2 ^ 184 ∧ s.2.1.natAbs < 2 ^ 184 ∧ s.2.2.natAbs < 2 ^ 123
def spShareP (K : PySem.W.Frag) : Sp := fun vs H Q _ => ∃ v w l s, vs = [v, w] ∧ AtL K H v l ∧ BdL l ∧ l.1 ≠ l.2 ∧ At3 K H w s ∧ 0 < s.2.2 ∧ Bd3 s ∧ ∀ u H', Same H H' → At2 K H' u (shN l s) → Q u H'
def spGap (K : PySem.W.Frag) : Sp := fun vs H Q _ => ∃ w u v l r z, vs = [w, u, v] ∧ At2 K H w z ∧ AtL K H u l ∧ AtL K H v r ∧ BdL l ∧ BdL r ∧ ∀ H', Same H H' → Q (.int (gapL l r z)) H'
def qL : Str := (("apart_paper" : Str) ++ ".<locals>.") ++ "<lambda>"
def spApP (K : PySem.W.Frag) (PL : Addr) : Sp := fun vs H Q _ => ∃ u v l r, vs = [u, v] ∧ AtL K H u l ∧ AtL K H v r ∧ BdL l ∧ BdL r ∧ LT H PL qL ∧
  ∀ w H' i, SameX PL H H' → LT H' PL qL → i < 6 → BestI l r i → Pap K H' w "apart" (apN l r ((waysL l r).getD i (0, 0))) → Q w H'

theorem mulN {a b : Int} {x y : Nat} (ha : a.natAbs ≤ x) (hb : b.natAbs ≤ y) : (a * b).natAbs ≤ x * y := by
  rw [Int.natAbs_mul]
  exact Nat.mul_le_mul ha hb

section
variable {P : Program} {w : World} {K : PySem.W.Frag} {mg : Str → Option Value} {base : Heap}

theorem okshare_of {f : Addr} {fd : FuncData} (F : Fun K "share_of" "share_of" sshare_of f fd) (T : Bt mg) (Dstep_of : Def P w K mg base 1 "step_of" ["line"] (spStep K)) (Dlowest : Def P w K mg base 2 "lowest" ["n", "d"] (spLowG K)) :
    FnG P w K mg base CX0 3 f fd ["line", "spot"] (spShareP K) := by
  refine okG (k := 2) F scshare_of (fun vs H Q E h => ?_) (fun cdv A outer s H vs Q E hr h => ?_)
  · obtain ⟨v, w, l, s, rfl, _⟩ := h
    rfl
  · obtain ⟨v, w, l, sp, rfl, hL, bl, hne, h3, d0, b3, q⟩ := h
    refine ⟨_, (pss_cons (ps_asg (pe_ix ix_tup (pv 0) pe_int (fun _ _ => rfl)) (pg_tup (by rfl) (pgs_cons (pg_name (i := 2) scshare_of.nd rfl (.inl rfl)) (pgs_cons (pg_name (i := 3) scshare_of.nd rfl (.inl rfl)) pgs_nil))))
      (pss_cons (ps_asg (callD Dstep_of (hr.mono (by decide)) (pa_cons (pv 0) pa_nil)) (pg_tup (by rfl) (pgs_cons (pg_name (i := 4) scshare_of.nd rfl (.inl rfl)) (pgs_cons (pg_name (i := 5) scshare_of.nd rfl (.inl rfl)) pgs_nil))))
      (pss_cons (ps_asg (pv 1) (pg_tup (by rfl) (pgs_cons (pg_name (i := 6) scshare_of.nd rfl (.inl rfl)) (pgs_cons (pg_name (i := 7) scshare_of.nd rfl (.inl rfl)) (pgs_cons (pg_name (i := 8) scshare_of.nd rfl (.inl rfl)) pgs_nil)))))
      (pss_one (ps_ret (callD Dlowest (hr.mono (by decide)) (pa_cons (pe_op op_add (pe_op op_mul (pe_op op_sub (pv 6) (pe_op op_mul (pv 8) (pv 2))) (pv 4)) (pe_op op_mul (pe_op op_sub (pv 7) (pe_op op_mul (pv 8) (pv 3))) (pv 5))) (pa_cons (pe_op op_mulW (pv 8) (pe_op op_add (pe_op op_mul (pv 4) (pv 4)) (pe_op op_mul (pv 5) (pv 5)))) pa_nil)))))))), ?_⟩
    have hD := dd_pos hne
    obtain ⟨⟨x1, x2⟩, x3, x4⟩ := bl.1
    obtain ⟨⟨d1, d2⟩, d3, d4⟩ := bd_less bl.2 bl.1
    have hL0 := hL
    obtain ⟨a, x, y, rfl, hS, ⟨b, rfl, hb⟩, hy⟩ := hL
    obtain ⟨e, rfl, he⟩ := h3
    refine ⟨_, rfl, a, _, 0, _, rfl, rfl, hS, rfl, b, _, rfl, hb, rfl, _, _, rfl, _, _, rfl, rfl, ?_⟩
    refine ⟨_, rfl, _, l, rfl, hL0, fun w1 H1 s1 e1 => ?_⟩
    obtain ⟨c, rfl, hc⟩ := e1
    refine ⟨c, _, rfl, hc, rfl, _, _, rfl, _, _, rfl, rfl, ?_⟩
    refine ⟨_, rfl, e, _, rfl, seT s1 he, rfl, _, _, rfl, _, _, rfl, _, _, rfl, rfl, ?_⟩
    obtain ⟨n1, n2, n3⟩ := b3
    have sq : ∀ z : Int, -(2 ^ 60) < z → z < 2 ^ 60 → (z * z).natAbs < 2 ^ 120 := fun z h1 h2 => wide_lt (a := 60) (b := 60) (by omega) (by omega)
    have bD : dd l < 2 ^ 83 := by
      obtain ⟨⟨u1, u2⟩, u3, u4⟩ := bl.2
      have sq : ∀ z : Int, -(2 ^ 41) < z → z < 2 ^ 41 → (z * z).natAbs < 2 ^ 82 := fun z h1 h2 => wide_lt (a := 41) (b := 41) (by omega) (by omega)
      have w1 := sq (dir l).1 (by show _ < l.2.1 - l.1.1; omega) (by show l.2.1 - l.1.1 < _; omega)
      have w2 := sq (dir l).2 (by show _ < l.2.2 - l.1.2; omega) (by show l.2.2 - l.1.2 < _; omega)
      unfold dd
      omega
    have bB : sp.2.2 * dd l < 2 ^ 240 := by
      have := mulN (a := sp.2.2) (b := dd l) (x := 2 ^ 123) (y := 2 ^ 83) (by omega) (by omega)
      omega
    refine ⟨_, rfl, _, rfl, _, rfl, _, _, rfl, rfl, .inr (by omega), _, _, rfl, rfl, _, rfl, _, _, rfl, rfl, .inr (by omega), ?_⟩
    refine ⟨_, rfl, _, rfl, _, rfl, _, _, rfl, rfl, .inr (by omega), _, _, rfl, rfl, _, rfl, _, _, rfl, rfl, .inr (by omega), _, _, rfl, rfl, ?_⟩
    refine ⟨_, rfl, _, rfl, _, rfl, _, _, rfl, rfl, .inr (by omega), _, rfl, _, rfl, _, _, rfl, rfl, .inr (by omega), _, _, rfl, rfl, _, _, rfl, rfl, wide_mul (a := 123) (b := 83) n3 (by show (dd l).natAbs < _; omega) (by decide) (by decide) (by decide), ?_⟩
    exact ⟨_, _, rfl, Int.mul_pos d0 hD, bB, fun w H2 s2 e2 => q w H2 (s1.trans s2) e2⟩

theorem okgap_by {f : Addr} {fd : FuncData} (F : Fun K "gap_by" "gap_by" sgap_by f fd) (T : Bt mg) (Dleast_by : Def P w K mg base 1 "least_by" ["line", "p", "q"] (spLeast K)) (Dgreatest_by : Def P w K mg base 1 "greatest_by" ["line", "p", "q"] (spGreat K)) :
    FnG P w K mg base CX0 2 f fd ["way", "one", "other"] (spGap K) := by
  refine okG (k := 1) F scgap_by (fun vs H Q E h => ?_) (fun cdv A outer s H vs Q E hr h => ?_)
  · obtain ⟨w, u, v, l, r, z, rfl, _⟩ := h
    rfl
  · obtain ⟨_, u, v, l, r, z, rfl, ⟨aw, rfl, hw⟩, hL, hR, bl, br, q⟩ := h
    refine ⟨_, (pss_cons (ps_asg (pv 0) (pg_tup (by rfl) (pgs_cons (pg_name (i := 3) scgap_by.nd rfl (.inl rfl)) (pgs_cons (pg_name (i := 4) scgap_by.nd rfl (.inl rfl)) pgs_nil))))
      (pss_one (ps_ret (pe_op op_sub (callD Dleast_by (hr.mono (by decide)) (pa_cons (pv 2) (pa_cons (pv 3) (pa_cons (pv 4) pa_nil)))) (callD Dgreatest_by (hr.mono (by decide)) (pa_cons (pv 1) (pa_cons (pv 3) (pa_cons (pv 4) pa_nil)))))))), ?_⟩
    refine ⟨_, rfl, aw, _, rfl, hw, rfl, _, _, rfl, _, _, rfl, rfl, ?_⟩
    refine ⟨_, rfl, _, rfl, _, rfl, v, r, z.1, z.2, rfl, hR, bdt_ofL br, fun H1 s1 => ?_⟩
    refine ⟨_, rfl, _, rfl, _, rfl, u, l, z.1, z.2, rfl, hL.same s1, bdt_ofL bl, fun H2 s2 => ⟨_, _, rfl, rfl, q H2 (s1.trans s2)⟩⟩

end
end Cl

set_option maxHeartbeats 0
namespace Cl
open PySem PySem.Spec PyProof.Rows L2
open GxR (TabB TabG)

section
variable {P : Program} {w : World} {K : PySem.W.Frag} {mg : Str → Option Value} {base : Heap}

theorem okapart_paper {f c Pt : Addr} {fd : FuncData} (F : Fun K "apart_paper" "apart_paper" sapart_paper f fd) (hc : fd.code = .ref c) (TB : GxR.TabB base mg c Pt) (T : Bt mg) (Dstep_of : Def P w K mg base 1 "step_of" ["line"] (spStep K)) (Dways_across : Def P w K mg base 2 "ways_across" ["line"] (spWaysA K)) (Dgap_by : Def P w K mg base 2 "gap_by" ["way", "one", "other"] (spGap K)) (Dgreatest_by : Def P w K mg base 1 "greatest_by" ["line", "p", "q"] (spGreat K)) (Dleast_by : Def P w K mg base 1 "least_by" ["line", "p", "q"] (spLeast K)) :
    FnG P w K mg base CX0 5 f fd ["one", "other"] (spApP K Pt) := by
  refine okGT (k := 4) F hc scapart_paper (fun vs H Q E h => ?_) (fun A outer s H vs Q E hr h => ?_)
  · obtain ⟨u, v, l, r, rfl, _⟩ := h
    rfl
  · obtain ⟨u, v, l, r, rfl, hL, hR, bl, br, hT, q⟩ := h
    refine ⟨_, (pss_cons (ps_asg (callD Dstep_of (hr.mono (by decide)) (pa_cons (pv 0) pa_nil)) (pg_tup (by rfl) (pgs_cons (pg_name (i := 2) scapart_paper.nd rfl (.inl rfl)) (pgs_cons (pg_name (i := 3) scapart_paper.nd rfl (.inl rfl)) pgs_nil))))
      (pss_cons (ps_set (i := 4) scapart_paper.nd rfl (.inl rfl) (tupN (StX.pa_star (callD Dways_across (hr.mono (by decide)) (pa_cons (pv 0) pa_nil)) (StX.pa_star (callD Dways_across (hr.mono (by decide)) (pa_cons (pv 1) pa_nil)) (pa_cons (tupN (pa_cons (pv 2) (pa_cons (pv 3) pa_nil))) (pa_cons (tupN (pa_cons (pe_un un_neg (pv 2)) (pa_cons (pe_un un_neg (pv 3)) pa_nil))) pa_nil))))))
      (pss_cons (ps_asg (pe_maxKey (a := "way") (k := 2) (P := Pt) (c := c) (hr.mono (by decide)) (by rfl) T.max TB rfl (show LamK (defScope sapart_paper) _ "way" from lamK_by (by decide +kernel)) (show ("way" : Str) ∉ (["one", "other", "dx", "dy", "ways", "p", "q"] : List Str) by decide +kernel) rfl (fun _ _ _ _ _ _ => rfl) (pv 4) (fun A outer s H f c' hr' => callD Dgap_by (hr'.mono (by decide)) (pa_cons (pe_var (i := 0) rfl (.inl rfl)) (pa_cons (pe_var (i := 1) rfl (.inr (.inr rfl))) (pa_cons (pe_var (i := 2) rfl (.inr (.inr rfl))) pa_nil))))) (pg_tup (by rfl) (pgs_cons (pg_name (i := 5) scapart_paper.nd rfl (.inl rfl)) (pgs_cons (pg_name (i := 6) scapart_paper.nd rfl (.inl rfl)) pgs_nil))))
      (pss_one (ps_ret (tupN (pa_cons pe_str (pa_cons (pe_op op_mul pe_int (pv 5)) (pa_cons (pe_op op_mul pe_int (pv 6)) (pa_cons (pe_op op_add (callD Dgreatest_by (hr.mono (by decide)) (pa_cons (pv 0) (pa_cons (pv 5) (pa_cons (pv 6) pa_nil)))) (callD Dleast_by (hr.mono (by decide)) (pa_cons (pv 1) (pa_cons (pv 5) (pa_cons (pv 6) pa_nil))))) pa_nil)))))))))), ?_⟩
    refine ⟨_, rfl, u, l, rfl, hL, fun w1 H1 s1 e1 => ?_⟩
    obtain ⟨a1, rfl, h1⟩ := e1
    refine ⟨a1, _, rfl, h1, rfl, _, _, rfl, _, _, rfl, rfl, ?_⟩
    refine ⟨_, rfl, u, l, rfl, hL.same s1, fun W1 u1 u2 H2 s2 gW1 k1 k2 => ⟨W1, _, rfl, .inl gW1, ?_⟩⟩
    refine ⟨_, rfl, v, r, rfl, hR.same (s1.trans s2), fun W2 u3 u4 H3 s3 gW2 k3 k4 => ⟨W2, _, rfl, .inl gW2, ?_⟩⟩
    refine ⟨_, rfl, _, rfl, (by show 2 ≤ sizeLine; decide), fun p5 H5 n5 s5 e5 => ⟨_, rfl, _, rfl, _, rfl, _, rfl, (by show 2 ≤ sizeLine; decide), fun p6 H6 n6 s6 e6 => ⟨(by show 6 ≤ sizeLine; decide), fun pW H7 n7 s7 e7 => ?_⟩⟩⟩
    have e7 : H7 pW = some (.tup [u1, u2, u3, u4, .ref p5, .ref p6]) := e7
    have S7 := s1.trans (s2.trans (s3.trans (s5.trans (s6.trans s7))))
    have hT7 := S7.lt hT
    have hL7 := hL.same S7
    have hR7 := hR.same S7
    have all : AllAt (At2 K H7) [u1, u2, u3, u4, .ref p5, .ref p6] (waysL l r) := .cons (k1.same (s3.trans (s5.trans (s6.trans s7)))) (.cons (k2.same (s3.trans (s5.trans (s6.trans s7)))) (.cons (k3.same (s5.trans (s6.trans s7))) (.cons (k4.same (s5.trans (s6.trans s7))) (.cons ⟨p5, rfl, .inl (.inl ((s6.trans s7) _ _ e5))⟩ (.cons ⟨p6, rfl, .inl (.inl (s7 _ _ e6))⟩ .nil)))))
    have gd : ∀ {i : Nat} {z : Int × Int}, (waysL l r)[i]? = some z → (waysL l r).getD i (0, 0) = z := fun {i z} h => by rw [List.getD_eq_getElem?_getD, h]; rfl
    refine ⟨_, rfl, pW, _, kfL l r, rfl, .inl (.inl e7), by simp, hT7, fun i x H8 hx sx lt => ?_, fun i x H8 hx best sx lt => ?_⟩
    · obtain ⟨z, hz, hat⟩ := all.get hx
      refine ⟨_, rfl, _, rfl, _, rfl, x, u, v, l, r, z, rfl, (dn2 hT7 hat).same sx.to, hL7.sameX hT7 sx, hR7.sameX hT7 sx, bl, br, fun H9 s9 => ⟨?_, s9⟩⟩
      unfold kfL
      rw [gd hz]
    · obtain ⟨z, hz, hat⟩ := all.get hx
      obtain ⟨aw, rfl, hw⟩ := (dn2 hT7 hat).same sx.to
      have hL8 := hL7.sameX hT7 sx
      have hR8 := hR7.sameX hT7 sx
      refine ⟨aw, _, rfl, hw, rfl, _, _, rfl, _, _, rfl, rfl, ?_⟩
      refine ⟨_, rfl, _, _, rfl, rfl, .inl (by decide), _, rfl, _, _, rfl, rfl, .inl (by decide), _, rfl, _, rfl, _, rfl, u, l, z.1, z.2, rfl, hL8, bdt_ofL bl, fun H9 s9 => ⟨_, rfl, _, rfl, _, rfl, v, r, z.1, z.2, rfl, hR8.same s9, bdt_ofL br, fun H10 s10 => ⟨_, _, rfl, rfl, (by show 4 ≤ sizeLine; decide), fun pR HR nR sR eR => ?_⟩⟩⟩
      have s9R := s9.trans (s10.trans sR)
      have hi : i < 6 := (List.getElem?_eq_some_iff.mp hz).1
      refine q _ HR i ((S7.x.trans sx).trans s9R.x) (s9R.lt lt) hi best ?_
      rw [gd hz]
      exact ⟨pR, rfl, .inl (.inl eR)⟩

end
end Cl

set_option maxHeartbeats 0
namespace Cl
open PySem PySem.Spec PyProof.Rows L2
open GxR (TabB TabG)

theorem bd_cmn {l r : Ln} (bl : BdL l) (br : BdL r) : ∀ s ∈ cmn l r, s.1.natAbs < 2 ^ 184 ∧ s.2.1.natAbs < 2 ^ 184 ∧ s.2.2.natAbs < 2 ^ 123 := by
  have b1 := bd_less bl.2 bl.1
  have b2 := bd_less br.2 br.1
  have b3 := bd_less br.1 bl.1
  have t1 := trn_lt b1 b2
  have t2 := trn_lt b3 b2
  have kM : (klm l r).2.2.natAbs < 2 ^ 122 := by
    show (trn (less l.2 l.1) (less r.2 r.1) * kfs l r).natAbs < 2 ^ 122
    unfold kfs
    split <;> omega
  have kN : (klm l r).1.natAbs < 2 ^ 122 := by
    show (trn (less r.1 l.1) (less r.2 r.1) * kfs l r).natAbs < 2 ^ 122
    unfold kfs
    split <;> omega
  have one : ∀ p : Pt, BdC p → (one3 p).1.natAbs < 2 ^ 184 ∧ (one3 p).2.1.natAbs < 2 ^ 184 ∧ (one3 p).2.2.natAbs < 2 ^ 123 := fun p h => by
    obtain ⟨⟨x1, x2⟩, x3, x4⟩ := h
    refine ⟨?_, ?_, ?_⟩
    · show p.1.natAbs < _
      omega
    · show p.2.natAbs < _
      omega
    · show (1 : Int).natAbs < _
      decide
  have hlo : BdC (lo l r) := by
    obtain ⟨c, _⟩ := mx_or (mn l.1 l.2) (mn r.1 r.2)
    exact BdC.or (BdC.or bl.1 bl.2 (mn_or l.1 l.2).1) (BdC.or br.1 br.2 (mn_or r.1 r.2).1) c
  have hhi : BdC (hi l r) := by
    obtain ⟨c, _⟩ := mn_or (mx l.1 l.2) (mx r.1 r.2)
    exact BdC.or (BdC.or bl.1 bl.2 (mx_or l.1 l.2).1) (BdC.or br.1 br.2 (mx_or r.1 r.2).1) c
  have dv : ∀ {n p : Int} {b : Nat}, n.natAbs < b → (n / p).natAbs < b := fun h => Nat.lt_of_le_of_lt (Int.natAbs_ediv_le_natAbs _ _) h
  intro s hs
  unfold cmn at hs
  split at hs
  · unfold acr at hs
    simp only at hs
    split at hs
    · rw [List.mem_singleton.mp hs]
      obtain ⟨⟨x1, x2⟩, x3, x4⟩ := bl.1
      unfold BdP less at b1
      obtain ⟨⟨y1, y2⟩, y3, y4⟩ := b1
      simp only at y1 y2 y3 y4
      have m1 := wide_lt (i := (klm l r).2.2) (j := l.1.1) (a := 122) (b := 40) kM (by omega)
      have m2 := wide_lt (i := (klm l r).2.2) (j := l.1.2) (a := 122) (b := 40) kM (by omega)
      have m3 := wide_lt (i := (klm l r).1) (j := l.2.1 - l.1.1) (a := 122) (b := 60) kN (by omega)
      have m4 := wide_lt (i := (klm l r).1) (j := l.2.2 - l.1.2) (a := 122) (b := 60) kN (by omega)
      exact ⟨dv (by omega), dv (by omega), dv (by omega)⟩
    · exact nomatch hs
  · split at hs
    · exact nomatch hs
    · unfold alo at hs
      split at hs
      · exact nomatch hs
      · split at hs
        · rw [List.mem_singleton.mp hs]
          exact one _ hlo
        · rcases List.mem_cons.mp hs with rfl | hs
          · exact one _ hlo
          · rw [List.mem_singleton.mp hs]
            exact one _ hhi

def spCPap (K : PySem.W.Frag) (PL : Addr) : Sp := fun vs H Q _ => ∃ u v l r, vs = [u, v] ∧ AtL K H u l ∧ AtL K H v r ∧ BdL l ∧ BdL r ∧ l.1 ≠ l.2 ∧ r.1 ≠ r.2 ∧ LT H PL qL ∧
  ∀ w H' wd ns, SameX PL H H' → LT H' PL qL → Pap K H' w wd ns → ToldP l r wd ns → Q w H'

section
variable {P : Program} {w : World} {K : PySem.W.Frag} {mg : Str → Option Value} {base : Heap}

theorem okcommon_paper {f PL : Addr} {fd : FuncData} (F : Fun K "common_paper" "common_paper" scommon_paper f fd) (T : Bt mg) (Dcommon : Def P w K mg base 5 "common" ["one", "other"] (spTwo K cmn fun _ _ => True)) (Dapart_paper : Def P w K mg base 5 "apart_paper" ["one", "other"] (spApP K PL)) (Dshare_of : Def P w K mg base 3 "share_of" ["line", "spot"] (spShareP K)) :
    FnG P w K mg base CX0 6 f fd ["one", "other"] (spCPap K PL) := by
  refine okG (k := 5) F sccommon_paper (fun vs H Q E h => ?_) (fun cdv A outer s H vs Q E hr h => ?_)
  · obtain ⟨u, v, l, r, rfl, _⟩ := h
    rfl
  · obtain ⟨u, v, l, r, rfl, hL, hR, bl, br, hl, hrr, hT, q⟩ := h
    refine ⟨_, (pss_cons (ps_set (i := 2) sccommon_paper.nd rfl (.inl rfl) (callD Dcommon (hr.mono (by decide)) (pa_cons (pv 0) (pa_cons (pv 1) pa_nil))))
      (pss_cons (ps_if (pt_cmpR (op_eqTNil hr.room.units) (pv 2) (tupN pa_nil) (nomark _)) (pss_one (ps_ret (callD Dapart_paper (hr.mono (by decide)) (pa_cons (pv 0) (pa_cons (pv 1) pa_nil))))) pss_nil)
      (pss_cons (ps_asg (callD Dshare_of (hr.mono (by decide)) (pa_cons (pv 0) (pa_cons (pe_ix ix_tup (pv 2) pe_int (fun _ _ => rfl)) pa_nil))) (pg_tup (by rfl) (pgs_cons (pg_name (i := 3) sccommon_paper.nd rfl (.inl rfl)) (pgs_cons (pg_name (i := 4) sccommon_paper.nd rfl (.inl rfl)) pgs_nil))))
      (pss_cons (ps_asg (callD Dshare_of (hr.mono (by decide)) (pa_cons (pv 1) (pa_cons (pe_ix ix_tup (pv 2) pe_int (fun _ _ => rfl)) pa_nil))) (pg_tup (by rfl) (pgs_cons (pg_name (i := 5) sccommon_paper.nd rfl (.inl rfl)) (pgs_cons (pg_name (i := 6) sccommon_paper.nd rfl (.inl rfl)) pgs_nil))))
      (pss_one (ps_ret (tupN (pa_cons pe_str (pa_cons (pv 3) (pa_cons (pv 4) (pa_cons (pv 5) (pa_cons (pv 6) pa_nil)))))))))))), ?_⟩
    refine ⟨_, rfl, _, rfl, u, v, l, r, rfl, hL, hR, bl, br, trivial, fun w H1 s1 e1 => ?_⟩
    obtain ⟨a, vs, rfl, hS, hall⟩ := e1
    refine ⟨_, rfl, Nat.zero_le _, fun p2 H2 n2 s2 e2 => ⟨a, p2, vs, rfl, rfl, seT s2 hS, .inl (.inl e2), _, rfl, ?_⟩⟩
    have S2 := s1.trans s2
    generalize hc : cmn l r = cs at hall
    cases hall with
    | nil =>
      refine iteT ⟨_, rfl, _, rfl, u, v, l, r, rfl, hL.same S2, hR.same S2, bl, br, S2.lt hT, fun w H3 i sx lt hi best pap => ?_⟩
      exact q w H3 _ _ (S2.x.trans sx) lt pap (.inl ⟨hc, rfl, i, hi, best, rfl⟩)
    | @cons x sp xs sps h1 hrest =>
      have hmem : sp ∈ cmn l r := by rw [hc]; exact List.mem_cons_self ..
      obtain ⟨k0, m0, hseg, _⟩ := cmn_seg hl bl br hmem
      have b3 := bd_cmn bl br sp hmem
      refine iteF ⟨_, rfl, _, rfl, a, _, 0, _, rfl, rfl, seT s2 hS, atI_nat (j := 0) rfl, u, x, l, sp, rfl, hL.same S2, bl, hl, h1.same s2, hseg.d0, b3, fun w3 H3 s3 e3 => ?_⟩
      obtain ⟨a3, rfl, h3⟩ := e3
      refine ⟨a3, _, rfl, h3, rfl, _, _, rfl, _, _, rfl, rfl, ?_⟩
      have S3 := S2.trans s3
      refine ⟨_, rfl, _, rfl, a, _, 0, _, rfl, rfl, seT (s2.trans s3) hS, atI_nat (j := 0) rfl, v, x, r, sp, rfl, hR.same S3, br, hrr, h1.same (s2.trans s3), hseg.d0, b3, fun w4 H4 s4 e4 => ?_⟩
      obtain ⟨a4, rfl, h4⟩ := e4
      refine ⟨a4, _, rfl, h4, rfl, _, _, rfl, _, _, rfl, rfl, ?_⟩
      refine ⟨_, rfl, _, rfl, _, rfl, _, rfl, (by show 5 ≤ sizeLine; decide), fun pR HR nR sR eR => ?_⟩
      have SR := S3.trans (s4.trans sR)
      exact q _ HR "meets" (meN l r sp) SR.x (SR.lt hT) ⟨pR, rfl, .inl (.inl eR)⟩ (.inr ⟨sp, sps, hc, rfl, rfl⟩)

end
end Cl

set_option maxHeartbeats 0
namespace Cl
open PySem PySem.Spec PyProof.Rows L2
open GxR (TabB TabG)


def PaperOk (l r : Ln) (wd : Str) (ns : List Int) : Prop := (alB l r = true ∧ wd = "along" ∧ ns = []) ∨ (alB l r = false ∧ ToldP l r wd ns)
def spPairP (K : PySem.W.Frag) (P PL : Addr) : Sp := fun vs H Q _ => ∃ u v l r, vs = [u, v] ∧ AtL K H u l ∧ AtL K H v r ∧ BdL l ∧ BdL r ∧ l.1 ≠ l.2 ∧ r.1 ≠ r.2 ∧ TabG H P ∧ LT H PL qL ∧
  ∀ w H' wd ns, SameX PL H H' → LT H' PL qL → Pap K H' w wd ns → PaperOk l r wd ns → Q w H'

section
variable {P : Program} {w : World} {K : PySem.W.Frag} {mg : Str → Option Value} {base : Heap}

theorem okpair_paper {f Pa PL : Addr} {fd : FuncData} (F : Fun K "pair_paper" "pair_paper" spair_paper f fd) (T : Bt mg) (Dare_along : Def P w K mg base 5 "are_along" ["one", "other"] (spAlong K Pa)) (Dcommon_paper : Def P w K mg base 6 "common_paper" ["one", "other"] (spCPap K PL)) :
    FnG P w K mg base CX0 7 f fd ["one", "other"] (spPairP K Pa PL) := by
  refine okG (k := 6) F scpair_paper (fun vs H Q E h => ?_) (fun cdv A outer s H vs Q E hr h => ?_)
  · obtain ⟨u, v, l, r, rfl, _⟩ := h
    rfl
  · obtain ⟨u, v, l, r, rfl, hL, hR, bl, br, hl, hrr, hT, lt, q⟩ := h
    refine ⟨_, (pss_cons (ps_if (pt_val (callD Dare_along (hr.mono (by decide)) (pa_cons (pv 0) (pa_cons (pv 1) pa_nil)))) (pss_one (ps_ret (tupN (pa_cons pe_str pa_nil)))) pss_nil)
      (pss_one (ps_ret (callD Dcommon_paper (hr.mono (by decide)) (pa_cons (pv 0) (pa_cons (pv 1) pa_nil)))))), ?_⟩
    refine ⟨_, rfl, _, rfl, u, v, l, r, rfl, hT, hL, hR, bl, fun H1 s1 => ⟨_, rfl, ?_⟩⟩
    cases ha : alB l r with
    | true =>
      exact iteT ⟨(by show 1 ≤ sizeLine; decide), fun p H2 n2 s2 e2 => q _ _ "along" [] (s1.trans s2).x ((s1.trans s2).lt lt) ⟨p, rfl, .inl (.inl e2)⟩ (.inl ⟨ha, rfl, rfl⟩)⟩
    | false =>
      exact iteF ⟨_, rfl, _, rfl, u, v, l, r, rfl, hL.same s1, hR.same s1, bl, br, hl, hrr, s1.lt lt, fun w H2 wd ns sx lt2 pap told => q _ _ wd ns (s1.x.trans sx) lt2 pap (.inr ⟨ha, told⟩)⟩

end
end Cl

set_option maxHeartbeats 1000000
namespace Cl
open PySem PySem.Spec PyProof.Rows L2
open PySem.Sem (wp)
/-! ### zip of a list and a tuple: a side of either kind -/
inductive SqK where
  | l
  | t
def SqK.it (k : SqK) (h : Heap) (i a : Addr) (n : Nat) : Prop := match k with
  | .l => h.IsListIter i a n
  | .t => h.IsTupleIter i a n
def SqK.sq (k : SqK) (h : Heap) (a : Addr) (xs : Array Value) : Prop := match k with
  | .l => h.IsList a xs
  | .t => h.IsTuple a xs
theorem SqK.it_at {k : SqK} {h h' : Heap} {i a : Addr} {n : Nat} (z : k.it h i a n) (f : ∀ o, h.get? i = some o → h'.get? i = some o) : k.it h' i a n := by
  cases k
  · obtain ⟨o, ho, r⟩ := z; exact ⟨o, f o ho, r⟩
  · obtain ⟨o, ho, r⟩ := z; exact ⟨o, f o ho, r⟩
theorem SqK.sq_at {k : SqK} {h h' : Heap} {a : Addr} {xs : Array Value} (z : k.sq h a xs) (f : ∀ o, h.get? a = some o → h'.get? a = some o) : k.sq h' a xs := by
  cases k
  · obtain ⟨o, ho, r⟩ := z; exact ⟨o, f o ho, r⟩
  · obtain ⟨o, ho, r⟩ := z; exact ⟨o, f o ho, r⟩
theorem SqK.it_get {k : SqK} {h : Heap} {i a : Addr} {n : Nat} (z : k.it h i a n) : ∃ o, h.get? i = some o ∧ ∀ v, o.data ≠ .seq v := by
  cases k
  · obtain ⟨o, ho, _, d⟩ := z; exact ⟨o, ho, fun v q => by rw [d] at q; cases q⟩
  · obtain ⟨o, ho, _, d⟩ := z; exact ⟨o, ho, fun v q => by rw [d] at q; cases q⟩
section
variable {pr : Program} {ww : World} {Ar : Around} {Er : Value → Shared → Prop} {sh : Shared}
theorem SqK.nx_item {k : SqK} {i a : Addr} {n : Nat} {xs : Array Value} {x : Value} {R : Value → Shared → Prop} (z : k.it sh.heap i a n) (u : k.sq sh.heap a xs) (e : xs[n]? = some x)
    (go : ∀ hh, k.it hh i a (n + 1) → Heap.SameBut i sh.heap hh → R x { sh with heap := hh }) : wpAny (model pr ww) Ar (Builtin.SmallTypes.nextOf (.ref i)) R Er sh := by
  cases k
  · exact wpAny_nextOf_list_item z u e go
  · exact RZ.nextOf_tuple_item z u e go
theorem SqK.nx_end {k : SqK} {i a : Addr} {n : Nat} {xs : Array Value} {R : Value → Shared → Prop} (hd : Ar.handled = none) (z : k.it sh.heap i a n) (u : k.sq sh.heap a xs) (e : xs[n]? = none)
    (er : ∀ hh b, Heap.ExtBut i sh.heap hh → (∃ o, hh.get? b = some o ∧ o.cls = .type "StopIteration") → Er (.ref b) { sh with heap := hh }) : wpAny (model pr ww) Ar (Builtin.SmallTypes.nextOf (.ref i)) R Er sh := by
  cases k
  · exact wpAny_nextOf_list_end hd z u e er
  · exact RZ.nextOf_tuple_end hd z u e er
theorem zipK_item {ka kb : SqK} {zz ti to ia ib la lb : Addr} {na nb : Nat} {us vs : Array Value} {u v p q : Value} {R : Value → Shared → Prop} (D : ZipApart zz ti to ia ib la lb)
    (z0 : IsZip sh.heap zz ti to .none) (t0 : IsPair sh.heap ti (.ref ia) (.ref ib)) (o0 : IsPair sh.heap to p q) (a0 : ka.it sh.heap ia la na) (b0 : kb.it sh.heap ib lb nb) (la0 : ka.sq sh.heap la us) (lb0 : kb.sq sh.heap lb vs) (eu : us[na]? = some u) (ev : vs[nb]? = some v)
    (go : ∀ hh, IsZip hh zz ti to (rawInt sh.heap.objs.size) → IsPair hh to u v → ka.it hh ia la (na + 1) → kb.it hh ib lb (nb + 1) → IsPair hh sh.heap.objs.size u v → hh.objs.size = sh.heap.objs.size + 1 → (∀ c o, c ≠ zz → c ≠ to → c ≠ ia → c ≠ ib → sh.heap.get? c = some o → hh.get? c = some o) → R (.ref sh.heap.objs.size) { sh with heap := hh }) :
    wpAny (model pr ww) Ar (Builtin.«zip.__next__» ⟨[.ref zz], []⟩) (fun fin s' => ∃ y, fin = .done (.ret y) ∧ R y s') Er sh := by
  show wpAny _ _ (field (.ref zz) 2 >>= _) _ _ _
  refine wpAny_bind (wpAny_field z0 rfl (x := .bool false) rfl ?_)
  show wpAny _ _ (field (.ref zz) 3 >>= _) _ _ _
  refine wpAny_bind (wpAny_field z0 rfl (x := .ref ti) rfl ?_)
  refine wpAny_bind (wpAny_seqItems t0 rfl ?_)
  show wpAny _ _ (Builtin.SmallTypes.ownedTupleIsFree (.ref zz) >>= _) _ _ _
  refine wpAny_bind ?_
  delta Builtin.SmallTypes.ownedTupleIsFree
  refine wpAny_bind (wpAny_field z0 rfl (x := .none) rfl (wpAny_pure ?_))
  simp only [if_true]
  refine wpAny_bind (wpAny_rule ?_)
  refine wpAny_bind (wpAny_field z0 rfl (x := .ref to) rfl ?_)
  refine wpAny_bind (wpAny_setField_rec z0 (by simp) fun g1 z1 s1 => ?_)
  replace z1 : IsZip g1 zz ti to .ellipsis := z1
  refine wpAny_bind ?_
  simp only [List.forIn_cons, List.forIn_nil, List.zipIdx_cons, List.zipIdx_nil]
  -- the first side
  refine wpAny_bind (wpAny_bind (wpAny_onRaise ?_))
  show wpAny _ _ (Builtin.SmallTypes.nextOf (.ref ia) >>= _) _ _ _
  refine wpAny_bind (SqK.nx_item (SqK.it_at a0 fun o e => s1.extBut _ _ D.i1z e) (SqK.sq_at la0 fun o e => s1.extBut _ _ D.l1z e) eu fun g2 a2 s2 => wpAny_pure ?_)
  have o2 : IsPair g2 to p q := s2.extBut _ _ D.TOi1 (s1.extBut _ _ D.TOz o0)
  refine wpAny_bind (wpAny_seqItems o2 rfl ?_)
  refine wpAny_bind (wpAny_updateSeq_pair o2 fun g3 o3 s3 => ?_)
  replace o3 : IsPair g3 to u q := o3
  refine wpAny_bind (wpAny_letGo (wpAny_pure ?_))
  -- the second
  refine wpAny_bind (wpAny_bind (wpAny_onRaise ?_))
  show wpAny _ _ (Builtin.SmallTypes.nextOf (.ref ib) >>= _) _ _ _
  refine wpAny_bind (SqK.nx_item (SqK.it_at b0 fun o e => s3.extBut _ _ D.TOi2.symm (s2.extBut _ _ D.i12.symm (s1.extBut _ _ D.i2z e))) (SqK.sq_at lb0 fun o e => s3.extBut _ _ D.l2TO (s2.extBut _ _ D.l2i1 (s1.extBut _ _ D.l2z e))) ev fun g4 b4 s4 => wpAny_pure ?_)
  have o4 : IsPair g4 to u q := s4.extBut _ _ D.TOi2 o3
  refine wpAny_bind (wpAny_seqItems o4 rfl ?_)
  refine wpAny_bind (wpAny_updateSeq_pair o4 fun g5 o5 s5 => ?_)
  replace o5 : IsPair g5 to u v := o5
  refine wpAny_bind (wpAny_letGo (wpAny_pure (wpAny_pure ?_)))
  -- the pair handed out
  refine wpAny_bind (wpAny_seqItems o5 rfl ?_)
  refine wpAny_bind (wpAny_newTuple ?_)
  have n5 : g5.objs.size = sh.heap.objs.size := by rw [s5.1, s4.1, s3.1, s2.1, s1.1]
  have z5 : IsZip g5 zz ti to .ellipsis := s5.extBut _ _ D.TOz.symm (s4.extBut _ _ D.i2z.symm (s3.extBut _ _ D.TOz.symm (s2.extBut _ _ D.i1z.symm z1)))
  have k5 : ∀ c o, c ≠ zz → c ≠ to → c ≠ ia → c ≠ ib → sh.heap.get? c = some o → g5.get? c = some o := fun c o c1 c2 c3 c4 e => s5.extBut _ _ c2 (s4.extBut _ _ c4 (s3.extBut _ _ c2 (s2.extBut _ _ c3 (s1.extBut _ _ c1 e))))
  have a5 : ka.it g5 ia la (na + 1) := SqK.it_at a2 fun o e => s5.extBut _ _ D.TOi1.symm (s4.extBut _ _ D.i12 (s3.extBut _ _ D.TOi1.symm e))
  have b5 : kb.it g5 ib lb (nb + 1) := SqK.it_at b4 fun o e => s5.extBut _ _ D.TOi2.symm e
  have zl : zz < g5.objs.size := Heap.lt_size z5
  show wpAny _ _ (Builtin.SmallTypes.ownedTupleHandOut (.ref zz) (.ref g5.objs.size) >>= _) _ _ _
  refine wpAny_bind ?_
  delta Builtin.SmallTypes.ownedTupleHandOut
  have z6 : IsZip (g5.push { cls := .type "tuple", data := .seq #[u, v] }) zz ti to .ellipsis := Heap.get?_push_of_some _ z5
  refine wpAny_bind (wpAny_setField_rec z6 (by simp) fun g7 z7 s7 => ?_)
  replace z7 : IsZip g7 zz ti to (rawInt g5.objs.size) := z7
  refine wpAny_setField_rec z7 (by simp) fun g8 z8 s8 => ?_
  replace z8 : IsZip g8 zz ti to (rawInt g5.objs.size) := z8
  have up : ∀ c o, c ≠ zz → g5.get? c = some o → g8.get? c = some o := fun c o c1 e => s8.extBut _ _ c1 (s7.extBut _ _ c1 (Heap.get?_push_of_some _ e))
  have p8 : IsPair g8 g5.objs.size u v := s8.extBut _ _ (Nat.ne_of_gt zl) (s7.extBut _ _ (Nat.ne_of_gt zl) (Heap.get?_push_size _ rfl))
  have n8 : g8.objs.size = g5.objs.size + 1 := by rw [s8.1, s7.1, Heap.size_push]
  rw [n5] at z8 p8 n8
  refine wpAny_pure ⟨_, rfl, ?_⟩
  show R (.ref g5.objs.size) _
  rw [n5]
  exact go g8 z8 (up _ _ D.TOz o5) (SqK.it_at a5 fun o e => up _ o D.i1z e) (SqK.it_at b5 fun o e => up _ o D.i2z e) p8 n8 fun c o c1 c2 c3 c4 e => up c o c1 (k5 c o c1 c2 c3 c4 e)
theorem zipK_end {ka kb : SqK} {zz ti to ia ib la lb : Addr} {na nb : Nat} {us vs : Array Value} {p q : Value} {R : Fin → Shared → Prop} (hd : Ar.handled = none) (D : ZipApart zz ti to ia ib la lb)
    (z0 : IsZip sh.heap zz ti to .none) (t0 : IsPair sh.heap ti (.ref ia) (.ref ib)) (o0 : IsPair sh.heap to p q) (a0 : ka.it sh.heap ia la na) (b0 : kb.it sh.heap ib lb nb) (la0 : ka.sq sh.heap la us) (lb0 : kb.sq sh.heap lb vs) (out : us[na]? = none ∨ vs[nb]? = none)
    (er : ∀ hh b, (∀ c o, c ≠ zz → c ≠ to → c ≠ ia → c ≠ ib → sh.heap.get? c = some o → hh.get? c = some o) → (∃ o, hh.get? b = some o ∧ o.cls = .type "StopIteration") → Er (.ref b) { sh with heap := hh }) :
    wpAny (model pr ww) Ar (Builtin.«zip.__next__» ⟨[.ref zz], []⟩) R Er sh := by
  show wpAny _ _ (field (.ref zz) 2 >>= _) _ _ _
  refine wpAny_bind (wpAny_field z0 rfl (x := .bool false) rfl ?_)
  show wpAny _ _ (field (.ref zz) 3 >>= _) _ _ _
  refine wpAny_bind (wpAny_field z0 rfl (x := .ref ti) rfl ?_)
  refine wpAny_bind (wpAny_seqItems t0 rfl ?_)
  show wpAny _ _ (Builtin.SmallTypes.ownedTupleIsFree (.ref zz) >>= _) _ _ _
  refine wpAny_bind ?_
  delta Builtin.SmallTypes.ownedTupleIsFree
  refine wpAny_bind (wpAny_field z0 rfl (x := .none) rfl (wpAny_pure ?_))
  simp only [if_true]
  refine wpAny_bind (wpAny_rule ?_)
  refine wpAny_bind (wpAny_field z0 rfl (x := .ref to) rfl ?_)
  refine wpAny_bind (wpAny_setField_rec z0 (by simp) fun g1 z1 s1 => ?_)
  replace z1 : IsZip g1 zz ti to .ellipsis := z1
  refine wpAny_bind ?_
  simp only [List.forIn_cons, List.forIn_nil, List.zipIdx_cons, List.zipIdx_nil]
  refine wpAny_bind (wpAny_bind (wpAny_onRaise ?_))
  show wpAny _ _ (Builtin.SmallTypes.nextOf (.ref ia) >>= _) _ _ _
  have A1 := SqK.it_at a0 fun o e => s1.extBut _ _ D.i1z e
  have L1 := SqK.sq_at la0 fun o e => s1.extBut _ _ D.l1z e
  cases hu : us[na]? with
  | none =>
    refine wpAny_bind (SqK.nx_end hd A1 L1 hu fun g2 b s2 hb => ?_)
    obtain ⟨ob, eb, cb⟩ := hb
    have z2 : IsZip g2 zz ti to .ellipsis := s2 _ _ D.i1z.symm z1
    have ne : b ≠ zz := fun w => by subst w; rw [z2] at eb; cases eb; simp at cb
    exact wpAny_setField_rec z2 (by simp) fun g3 _ s3 => er g3 b (fun c o c1 _ c3 _ w => s3.extBut _ _ c1 (s2 _ _ c3 (s1.extBut _ _ c1 w))) ⟨ob, s3.extBut _ _ ne eb, cb⟩
  | some u =>
    have hv : vs[nb]? = none := by
      rcases out with w | w
      · rw [hu] at w; cases w
      · exact w
    refine wpAny_bind (SqK.nx_item A1 L1 hu fun g2 a2 s2 => wpAny_pure ?_)
    have o2 : IsPair g2 to p q := s2.extBut _ _ D.TOi1 (s1.extBut _ _ D.TOz o0)
    refine wpAny_bind (wpAny_seqItems o2 rfl ?_)
    refine wpAny_bind (wpAny_updateSeq_pair o2 fun g3 o3 s3 => ?_)
    refine wpAny_bind (wpAny_letGo (wpAny_pure ?_))
    refine wpAny_bind (wpAny_bind (wpAny_onRaise ?_))
    show wpAny _ _ (Builtin.SmallTypes.nextOf (.ref ib) >>= _) _ _ _
    refine wpAny_bind (SqK.nx_end hd (SqK.it_at b0 fun o e => s3.extBut _ _ D.TOi2.symm (s2.extBut _ _ D.i12.symm (s1.extBut _ _ D.i2z e))) (SqK.sq_at lb0 fun o e => s3.extBut _ _ D.l2TO (s2.extBut _ _ D.l2i1 (s1.extBut _ _ D.l2z e))) hv fun g4 b s4 hb => ?_)
    obtain ⟨ob, eb, cb⟩ := hb
    have z4 : IsZip g4 zz ti to .ellipsis := s4 _ _ D.i2z.symm (s3.extBut _ _ D.TOz.symm (s2.extBut _ _ D.i1z.symm z1))
    have ne : b ≠ zz := fun w => by subst w; rw [z4] at eb; cases eb; simp at cb
    exact wpAny_setField_rec z4 (by simp) fun g5 _ s5 => er g5 b (fun c o c1 c2 c3 c4 w => s5.extBut _ _ c1 (s4 _ _ c4 (s3.extBut _ _ c2 (s2.extBut _ _ c3 (s1.extBut _ _ c1 w))))) ⟨ob, s5.extBut _ _ ne eb, cb⟩
theorem zipK_next {ka kb : SqK} {zz ti to ia ib la lb : Addr} {na nb : Nat} {us vs : Array Value} {u v p q : Value} {R : Option Value → Shared → Prop} (D : ZipApart zz ti to ia ib la lb)
    (z0 : IsZip sh.heap zz ti to .none) (t0 : IsPair sh.heap ti (.ref ia) (.ref ib)) (o0 : IsPair sh.heap to p q) (a0 : ka.it sh.heap ia la na) (b0 : kb.it sh.heap ib lb nb) (la0 : ka.sq sh.heap la us) (lb0 : kb.sq sh.heap lb vs) (eu : us[na]? = some u) (ev : vs[nb]? = some v)
    (go : ∀ hh, IsZip hh zz ti to (rawInt sh.heap.objs.size) → IsPair hh to u v → ka.it hh ia la (na + 1) → kb.it hh ib lb (nb + 1) → IsPair hh sh.heap.objs.size u v → hh.objs.size = sh.heap.objs.size + 1 → (∀ c o, c ≠ zz → c ≠ to → c ≠ ia → c ≠ ib → sh.heap.get? c = some o → hh.get? c = some o) → R (some (.ref sh.heap.objs.size)) { sh with heap := hh }) :
    wpAny (model pr ww) Ar (pyNext (.ref zz)) R Er sh := by
  have ty : sh.TypeIs (.ref zz) "zip" := ⟨_, z0, rfl⟩
  delta pyNext
  refine wpAny_bind (wpAny_attempt (wpAny_callSpecial?_slot (name := Str.ofString "__next__") ty PySem.F.slot_zip_next (wpAny_call_entry PySem.F.slot_zip_next ty PySem.F.entry_zip_next ?_ (PySem.F.args_zip_next_1 _))))
  exact zipK_item D z0 t0 o0 a0 b0 la0 lb0 eu ev fun hh c1 c2 c3 c4 c5 c6 c7 => wpAny_pure (go hh c1 c2 c3 c4 c5 c6 c7)
theorem zipK_stop {ka kb : SqK} {zz ti to ia ib la lb : Addr} {na nb : Nat} {us vs : Array Value} {p q : Value} {R : Option Value → Shared → Prop} (hd : Ar.handled = none) (D : ZipApart zz ti to ia ib la lb)
    (z0 : IsZip sh.heap zz ti to .none) (t0 : IsPair sh.heap ti (.ref ia) (.ref ib)) (o0 : IsPair sh.heap to p q) (a0 : ka.it sh.heap ia la na) (b0 : kb.it sh.heap ib lb nb) (la0 : ka.sq sh.heap la us) (lb0 : kb.sq sh.heap lb vs) (out : us[na]? = none ∨ vs[nb]? = none)
    (go : ∀ hh, (∀ c o, c ≠ zz → c ≠ to → c ≠ ia → c ≠ ib → sh.heap.get? c = some o → hh.get? c = some o) → R none { sh with heap := hh }) :
    wpAny (model pr ww) Ar (pyNext (.ref zz)) R Er sh := by
  have ty : sh.TypeIs (.ref zz) "zip" := ⟨_, z0, rfl⟩
  delta pyNext
  refine wpAny_bind (wpAny_attempt (wpAny_callSpecial?_slot (name := Str.ofString "__next__") ty PySem.F.slot_zip_next (wpAny_call_entry PySem.F.slot_zip_next ty PySem.F.entry_zip_next (zipK_end hd D z0 t0 o0 a0 b0 la0 lb0 out fun hh b hk hb => ?_) (PySem.F.args_zip_next_1 _))))
  obtain ⟨o, e, c⟩ := hb
  exact wpAny_bind (wpAny_isInstance (T := "StopIteration") (b := true) ⟨o, e, c⟩ isSubtype_stop (wpAny_pure (go _ hk)))
end
/-! the call -/
abbrev zmA (h : Heap) (a : Addr) : Heap := h.push { cls := .type "list_iterator", data := .fields #[.ref a, .int 0 0] }
abbrev zmB (h : Heap) (a b : Addr) : Heap := (zmA h a).push { cls := .type "tuple_iterator", data := .fields #[.ref b, .int 0 0] }
abbrev zmC (h : Heap) (a b : Addr) : Heap := (zmB h a b).push { cls := .type "tuple", data := .seq #[.ref h.objs.size, .ref (zmA h a).objs.size] }
abbrev zmD (h : Heap) (a b : Addr) : Heap := (zmC h a b).push { cls := .type "tuple", data := .seq #[.none, .none] }
abbrev zmE (h : Heap) (a b : Addr) : Heap := (zmD h a b).push { cls := .type "zip", data := .fields #[.none, .bool false, .bool false, .ref (zmB h a b).objs.size, .ref (zmC h a b).objs.size] }
theorem zipM_new (a b : Addr) (us vs : Array Value) :
    PySem.Meets (Builtin.«zip.__new__» ⟨[.type "zip", .ref a, .ref b], []⟩) (fun _ R s => s.heap.IsList a us ∧ s.heap.IsTuple b vs ∧ R (.ok (.ret (.ref (zmD s.heap a b).objs.size))) { s with heap := zmE s.heap a b }) :=
  .of_wp fun pr ww Ar R s h => by
    obtain ⟨hp, g, d, tk, os⟩ := s
    obtain ⟨ha, hb, h⟩ := h
    have hsub := sub_zip
    have u1 : Heap.IsList (Shared.heap ⟨hp, g, d, tk, os⟩) a us := ha
    have u2 : Heap.IsTuple (Shared.heap ⟨hp.push { cls := .type "list_iterator", data := .fields #[.ref a, .int 0 0] }, g, d, tk, os⟩) b vs := Heap.IsTuple.push hb _
    wp_walk using wpAny_pyIter_list u1, wpAny_pyIter_tuple u2
    exact ⟨_, rfl, h⟩
theorem call_zipM {pr : Program} {ww : World} {Ar : Around} {Er : Value → Shared → Prop} {sh : Shared} {a b : Addr} {us vs : Array Value} {R : Value → Shared → Prop} (ha : sh.heap.IsList a us) (hb : sh.heap.IsTuple b vs)
    (go : ∀ hh, IsZip hh (sh.heap.objs.size + 4) (sh.heap.objs.size + 2) (sh.heap.objs.size + 3) .none → IsPair hh (sh.heap.objs.size + 2) (.ref sh.heap.objs.size) (.ref (sh.heap.objs.size + 1)) → IsPair hh (sh.heap.objs.size + 3) .none .none →
      hh.IsListIter sh.heap.objs.size a 0 → hh.IsTupleIter (sh.heap.objs.size + 1) b 0 → (∀ c o, sh.heap.get? c = some o → hh.get? c = some o) → R (.ref (sh.heap.objs.size + 4)) { sh with heap := hh }) :
    wpAny (model pr ww) Ar (call (.type "zip") [.ref a, .ref b]) R Er sh := by
  refine callType_new PySem.F.called_zip (by decide) (PySem.F.typeCall_zip_2 _ _) (PySem.F.newCall_zip_2 _ _) (fun ob => PySem.F.args_object_init_3 ob _ _) PySem.F.entry_zip_new (zipM_new a b us vs) ⟨ha, hb, ?_⟩
  have m1 : (zmA sh.heap a).objs.size = sh.heap.objs.size + 1 := Heap.size_push ..
  have m2 : (zmB sh.heap a b).objs.size = sh.heap.objs.size + 2 := by rw [Heap.size_push, m1]
  have m3 : (zmC sh.heap a b).objs.size = sh.heap.objs.size + 3 := by rw [Heap.size_push, m2]
  have m4 : (zmD sh.heap a b).objs.size = sh.heap.objs.size + 4 := by rw [Heap.size_push, m3]
  have f5 : (zmE sh.heap a b).get? (zmD sh.heap a b).objs.size = some _ := Heap.get?_push_size _ rfl
  have f4 : (zmE sh.heap a b).get? (zmC sh.heap a b).objs.size = some _ := Heap.get?_push_of_some _ (Heap.get?_push_size _ rfl)
  have f3 : (zmE sh.heap a b).get? (zmB sh.heap a b).objs.size = some _ := Heap.get?_push_of_some _ (Heap.get?_push_of_some _ (Heap.get?_push_size _ rfl))
  have f2 : (zmE sh.heap a b).get? (zmA sh.heap a).objs.size = some _ := Heap.get?_push_of_some _ (Heap.get?_push_of_some _ (Heap.get?_push_of_some _ (Heap.get?_push_size _ rfl)))
  have f1 : (zmE sh.heap a b).get? sh.heap.objs.size = some _ := Heap.get?_push_of_some _ (Heap.get?_push_of_some _ (Heap.get?_push_of_some _ (Heap.get?_push_of_some _ (Heap.get?_push_size _ rfl))))
  show _ ∧ _
  rw [m2, m3, m4] at f5
  rw [m1, m2] at f3
  rw [m3] at f4
  rw [m1] at f2
  rw [m4]
  exact ⟨⟨_, f5, rfl⟩, go _ f5 f3 f4 ⟨_, f1, rfl, rfl⟩ ⟨_, f2, rfl, rfl⟩ fun c o e => Heap.get?_push_of_some _ (Heap.get?_push_of_some _ (Heap.get?_push_of_some _ (Heap.get?_push_of_some _ (Heap.get?_push_of_some _ e))))⟩
/-! the turns -/
def ItzM (K : PySem.W.Frag) (a b : Addr) : It :=
  ⟨fun i H => ∃ (xs ys : List V) (x y : V), SqL K H a xs ∧ SqT K H b ys ∧ xs[i]? = some x ∧ ys[i]? = some y,
    fun i H v H' => ∃ T x y, v = .ref T ∧ H T = none ∧ H' = upd H T (.tup [x, y]) ∧ (∀ xs, SqL K H a xs → xs[i]? = some x) ∧ ∀ ys, SqT K H b ys → ys[i]? = some y,
    fun i H => ∃ xs ys : List V, SqL K H a xs ∧ SqT K H b ys ∧ (xs.length ≤ i ∨ ys.length ≤ i)⟩
theorem turn_zipM {P : Program} {w : World} {K : PySem.W.Frag} {elts : List Expr} {kk : Nat} {tpos : Pos} {a b z ti to i1 i2 : Addr} (D : ZipApart z ti to i1 i2 a b) :
    Turn P w K (.Tuple elts kk tpos) (ItzM K a b) [z, ti, to, i1, i2] z (fun i h => IsZip h z ti to .none ∧ IsPair h ti (.ref i1) (.ref i2) ∧ (∃ x y, IsPair h to x y) ∧ SqK.l.it h i1 a i ∧ SqK.t.it h i2 b i) where
  mem := by simp
  obj := fun i h st c hc => by
    obtain ⟨q1, q2, ⟨x, y, q3⟩, g1, g2⟩ := st
    obtain ⟨o1, e1, d1⟩ := SqK.it_get g1
    obtain ⟨o2, e2, d2⟩ := SqK.it_get g2
    have hc : c = z ∨ c = ti ∨ c = to ∨ c = i1 ∨ c = i2 := by simpa using hc
    rcases hc with q | q | q | q | q <;> subst q
    · exact ⟨_, q1, fun v q => nomatch q⟩
    · exact ⟨_, q2, fun v q => nomatch q⟩
    · exact ⟨_, q3, fun v q => nomatch q⟩
    · obtain ⟨o1, e1, _, d1⟩ := g1
      exact ⟨o1, e1, fun v q => by rw [d1] at q; cases q⟩
    · obtain ⟨o2, e2, _, d2⟩ := g2
      exact ⟨o2, e2, fun v q => by rw [d2] at q; cases q⟩
  keep := fun i h h' st k => by
    obtain ⟨q1, q2, ⟨x, y, q3⟩, g1, g2⟩ := st
    exact ⟨k z (by simp) _ q1, k ti (by simp) _ q2, ⟨x, y, k to (by simp) _ q3⟩, SqK.it_at g1 fun o e => k i1 (by simp) o e, SqK.it_at g2 fun o e => k i2 (by simp) o e⟩
  item := by
    intro X eP eW eK hc i pins s σ H E I hf st hg
    subst eP eW eK
    obtain ⟨q1, q2, ⟨x0, y0, q3⟩, g1, g2⟩ := st
    obtain ⟨xs, ys, x, y, gx, gy, hx, hy⟩ := hg
    obtain ⟨us, ru, pu, _⟩ := I.list gx
    obtain ⟨vs, rv, pv', _⟩ := I.tuple gy
    obtain ⟨u, eu, r1⟩ := ru.get hx
    obtain ⟨v, ev, r2⟩ := rv.get hy
    have zl : z < s.heap.objs.size := Heap.lt_size q1
    refine zipK_next D q1 q2 q3 g1 g2 (show SqK.l.sq s.heap a us.toArray from pu.isList) (show SqK.t.sq s.heap b vs.toArray from pv') (u := u) (v := v) (by simpa using eu) (by simpa using ev) fun hh z' o' g1' g2' hT hsz hk => ?_
    refine ⟨_, rfl, wpAny_letOwnedTupleGo_zip (s := { s with heap := hh }) z' fun h2 z2 sb => ?_⟩
    have hT2 : h2.get? s.heap.objs.size = some { cls := .type "tuple", data := .seq #[u, v] } := (sb.2 _ (Nat.ne_of_gt zl)).trans hT
    have new : ObjOk X.prog X.w (upd H s.heap.objs.size (.tup [x, y])) h2 s.heap.objs.size (.tup [x, y]) := ⟨by show 2 ≤ sizeLine; decide, [u, v], .cons r1 (.cons r2 .nil), ⟨_, hT2, rfl, _, rfl⟩⟩
    have I1 : Inv X pins σ (upd H s.heap.objs.size (.tup [x, y])) { s with heap := h2 } :=
      I.turnedNew (t' := s.toks) (ch := [z, ti, to, i1, i2]) (fun c o hb e => (sb.2 c (fun w => hb (by simp [w]))).trans (hk c o (fun w => hb (by simp [w])) (fun w => hb (by simp [w])) (fun w => hb (by simp [w])) (fun w => hb (by simp [w])) e)) hf (Nat.le_refl _) new
    refine ⟨.ref s.heap.objs.size, _, I1, rfl, ⟨_, x, y, rfl, I.hok.fresh (Nat.le_refl _), rfl, fun l hl => by rw [I.list_inj hl gx]; exact hx, fun l hl => by rw [I.tuple_inj hl gy]; exact hy⟩, ⟨z2, ?_, ⟨u, v, ?_⟩, ?_, ?_⟩, fun c hcm => ?_⟩
    · exact (sb.2 _ D.TIz).trans (hk _ _ D.TIz D.TITO D.TIi1 D.TIi2 q2)
    · exact (sb.2 _ D.TOz).trans o'
    · exact SqK.it_at g1' fun o e => (sb.2 _ D.i1z).trans e
    · exact SqK.it_at g2' fun o e => (sb.2 _ D.i2z).trans e
    · have lt : c < s.heap.objs.size := by
        have hcm : c = z ∨ c = ti ∨ c = to ∨ c = i1 ∨ c = i2 := by simpa using hcm
        rcases hcm with q | q | q | q | q <;> subst q
        · exact zl
        · exact Heap.lt_size q2
        · exact Heap.lt_size q3
        · obtain ⟨_, e1, _⟩ := SqK.it_get g1; exact Heap.lt_size e1
        · obtain ⟨_, e1, _⟩ := SqK.it_get g2; exact Heap.lt_size e1
      rw [upd_ne (Nat.ne_of_lt lt)]
      exact (hf c hcm).1
  done := by
    intro X eP eW eK hc i pins s σ H E I hf st hg
    subst eP eW eK
    obtain ⟨q1, q2, ⟨x0, y0, q3⟩, g1, g2⟩ := st
    obtain ⟨xs, ys, gx, gy, en⟩ := hg
    obtain ⟨us, ru, pu, _⟩ := I.list gx
    obtain ⟨vs, rv, pv', _⟩ := I.tuple gy
    have l1 := ru.length
    have l2 := rv.length
    have out : us.toArray[i]? = none ∨ vs.toArray[i]? = none := by
      rcases en with q | q
      · exact .inl (by simp; omega)
      · exact .inr (by simp; omega)
    exact zipK_stop (I.ok.hd hc) D q1 q2 q3 g1 g2 (show SqK.l.sq s.heap a us.toArray from pu.isList) (show SqK.t.sq s.heap b vs.toArray from pv') out fun hh hk => ⟨rfl, I.turnedL (t' := s.toks) (ch := [z, ti, to, i1, i2]) (fun c o hb e =>
      hk c o (fun w => hb (by simp [w])) (fun w => hb (by simp [w])) (fun w => hb (by simp [w])) (fun w => hb (by simp [w])) e) hf⟩
  self := fun A i s Q E st h => wpAny_pyIter_zip st.1 h
def iZipM (K : PySem.W.Frag) (ta : TA) : TI := fun σ H R => ta σ H fun vs H1 => ∃ a b xs ys, vs = [.ref a, .ref b] ∧ SqL K H1 a xs ∧ SqT K H1 b ys ∧ R (ItzM K a b) H1
theorem pi_zipM {X : Cx} {e e2 : Expr} {ta : TA} {p pos tpos : Pos} {elts : List Expr} {kk : Nat} (hg : Gl X "zip") (hm : X.mg "zip" = none) (ha : PA X [e, e2] ta)
    (hs : starEach [e, e2] X.env = (false, eval e X.env) :: starEach [e2] X.env := by rfl) (hpl : (backTo pos (starEach [e2] X.env)).any (·.1) = false := by rfl) :
    PI X (.Tuple elts kk tpos) (.Call (.Name "zip" p) [e, e2] [] pos) (iZipM X.K ta) := by
  refine ⟨fun pins s σ H R I h => Call_ (ld_blt I hg hm PyProof.Rows.boot_zip (PyProof.Rows.callWith_type1 (thn (ha.run pos pins s σ H _ I h) fun ws s1 ⟨vs, H1, I1, rr, qq⟩ => ?_) hs hpl))⟩
  obtain ⟨a, b, xs, ys, rfl, gx, gy, qq⟩ := qq
  cases rr with
  | cons r rr =>
    cases rr with
    | cons r' rr =>
      cases rr; cases r; cases r'
      obtain ⟨us, ru, pu, _⟩ := I1.list gx
      obtain ⟨vs, rv, pv', _⟩ := I1.tuple gy
      obtain ⟨o2, ho2, _⟩ := id pv'
      refine call_zipM pu.isList (show s1.heap.IsTuple b vs.toArray from pv') fun hh z0 t0 o0 a0 b0 hk => wpAny_pyIter_zip z0 ?_
      have I2 : Inv X pins σ H1 { s1 with heap := hh } := I1.kept (t' := s1.toks) hk
      refine ⟨s1.heap.objs.size + 4, [s1.heap.objs.size + 4, s1.heap.objs.size + 2, s1.heap.objs.size + 3, s1.heap.objs.size, s1.heap.objs.size + 1], _, _, H1, rfl, I2, turn_zipM (PySem.W.ktu_apart s1.heap.objs.size a b pu.lt (Heap.lt_size ho2)), ⟨z0, t0, ⟨_, _, o0⟩, a0, b0⟩, fun c hc => ?_, qq⟩
      have le : s1.heap.objs.size ≤ c := by
        have hc : c = s1.heap.objs.size + 4 ∨ c = s1.heap.objs.size + 2 ∨ c = s1.heap.objs.size + 3 ∨ c = s1.heap.objs.size ∨ c = s1.heap.objs.size + 1 := by simpa using hc
        rcases hc with q | q | q | q | q <;> rw [q] <;> first | exact Nat.le_refl _ | exact Nat.le_add_right _ _
      exact I1.fpOk le (I1.hok.fresh le)
theorem walk_zipM {K : PySem.W.Frag} {a b : Addr} {xs ys : List V} {n : Nat} (hn : n = min xs.length ys.length) : Walk (ItzM K a b) n (fun H => SqL K H a xs ∧ SqT K H b ys) (YPair (fun i => xs[i]?) (fun i => ys[i]?)) := by
  subst hn
  refine ⟨fun i _ hi q => ?_, fun _ q => ⟨xs, ys, q.1, q.2, by omega⟩, fun i H v H' _ q y => ?_⟩
  · have h1 : i < xs.length := by omega
    have h2 : i < ys.length := by omega
    exact ⟨xs, ys, xs[i], ys[i], q.1, q.2, by simp [h1], by simp [h2]⟩
  · obtain ⟨T, x, z, h1, h2, h3, h4, h5⟩ := y
    exact ⟨T, x, z, h1, h2, h3, h4 xs q.1, h5 ys q.2⟩
def lcZM {K : PySem.W.Frag} {a b : Addr} {xs ys : List V} {n : Nat} {g : TG} {tt : TT} {te : TE} {vs : List Nat} {σ : L2.St} {H1 : Hp} {D : Addr} {Qd : Hp → Prop} (hn : n = min xs.length ys.length)
    (Pv : Nat → Hp → Prop) (hD : H1 D = none) (h0 : ∀ H', Same H1 H' → H' D = some (.lst []) → Pv 0 H') (hG : ∀ i H, i ≤ n → Pv i H → SqL K H a xs ∧ SqT K H b ys)
    (hs : ∀ i x H H', i < n → Pv i H → YPair (fun i => xs[i]?) (fun i => ys[i]?) i H x H' → g x (wipe σ vs) H' fun σ2 H2 => wipe σ2 vs = wipe σ vs ∧ tt σ2 H2 fun b H3 =>
      if b = true then te σ2 H3 fun y H4 => ∃ acc, H4 D = some (.lst acc) ∧ acc.length < sizeLine ∧ Pv (i + 1) (upd H4 D (.lst (acc ++ [y]))) else Pv (i + 1) H3)
    (hd : ∀ H, Pv n H → Qd H) := lc_it (walk_zipM (K := K) (a := a) (b := b) hn) (g := g) (tt := tt) (te := te) (vs := vs) (σ := σ) (H1 := H1) (D := D) (Qd := Qd) Pv (h0 _ (same_new hD) upd_same) hG hs hd
end Cl

set_option maxHeartbeats 0
namespace Cl
open PySem PySem.Spec PyProof.Rows L2
open GxR (TabB TabG)

theorem flat_app {α β : Type} (f h : α → List β) : ∀ l : List α, (l.flatMap fun x => f x ++ h x).Perm (l.flatMap f ++ l.flatMap h)
  | [] => .refl _
  | a :: l => by
    rw [List.flatMap_cons, List.flatMap_cons, List.flatMap_cons]
    have ih := flat_app f h l
    refine ((ih.append_left (f a ++ h a))).trans ?_
    rw [List.append_assoc, List.append_assoc]
    refine List.Perm.append_left _ ?_
    rw [← List.append_assoc, ← List.append_assoc]
    exact List.Perm.append_right _ List.perm_append_comm
def colS (g : Int) (ls : List Ln) (n : Nat) : List Rw := (List.range n).flatMap fun k => (List.range k).flatMap fun l => crossRow g ls l k
theorem rowsL_perm (g : Int) (ls : List Ln) (n : Nat) : (rowsL g ls n).Perm (ends g ls n ++ colS g ls n) := flat_app ..
theorem crosses_prs (g : Int) (ls : List Ln) (n : Nat) : crosses g ls (prs n) = (List.range n).flatMap fun k => (List.range (n - (k + 1))).flatMap fun j => crossRow g ls k (k + 1 + j) := by
  unfold crosses prs
  rw [List.flatMap_assoc]
  congr 1
  funext k
  rw [List.flatMap_map]
theorem flat_congr {α β : Type} {f h : α → List β} : ∀ {l : List α}, (∀ x ∈ l, f x = h x) → l.flatMap f = l.flatMap h
  | [], _ => rfl
  | a :: l, e => by rw [List.flatMap_cons, List.flatMap_cons, e a (List.mem_cons_self ..), flat_congr fun x hx => e x (List.mem_cons_of_mem _ hx)]
theorem cols_perm (g : Int) (ls : List Ln) : ∀ n, (colS g ls n).Perm (crosses g ls (prs n))
  | 0 => .refl _
  | n + 1 => by
    have ih := cols_perm g ls n
    rw [crosses_prs] at ih ⊢
    unfold colS at ih ⊢
    rw [List.range_succ, List.flatMap_append, List.flatMap_singleton, List.flatMap_append, List.flatMap_singleton, Nat.sub_self, List.range_zero, List.flatMap_nil, List.append_nil]
    have e : ((List.range n).flatMap fun k => (List.range (n + 1 - (k + 1))).flatMap fun j => crossRow g ls k (k + 1 + j)) = (List.range n).flatMap fun k => ((List.range (n - (k + 1))).flatMap fun j => crossRow g ls k (k + 1 + j)) ++ crossRow g ls k n := flat_congr fun k hk => by
      have hk := List.mem_range.mp hk
      rw [show n + 1 - (k + 1) = (n - (k + 1)) + 1 from by omega, List.range_succ, List.flatMap_append, List.flatMap_singleton, show k + 1 + (n - (k + 1)) = n from by omega]
    rw [e]
    exact (ih.append_right _).trans (flat_app ..).symm
theorem rows_perm (g : Int) (ls : List Ln) : (rowsL g ls ls.length).Perm (rowsP g ls) := (rowsL_perm ..).trans ((cols_perm ..).append_left _)
/-! ### the corners of lines told in another order, each from behind -/
def Xc (g : Int) (p : Pt) (a b : Ln) : Prop := a.1 ≠ a.2 ∧ b.1 ≠ b.2 ∧ ∃ s, cmn a b = [s] ∧ crnS g s = p
theorem Xc.symm {g : Int} {p : Pt} {a b : Ln} (h : Xc g p a b) : Xc g p b a := by
  obtain ⟨h1, h2, s, e, z⟩ := h
  exact ⟨h2, h1, s, by rw [cmn_swap a b h1 h2]; exact e, z⟩
def Cn (g : Int) (ls : List Ln) (p : Pt) : Prop := (∃ l ∈ ls, crn g l.1 = p ∨ crn g l.2 = p) ∨ ¬ ls.Pairwise fun a b => ¬ Xc g p a b
theorem mem_endRow {g : Int} {ls : List Ln} {k : Nat} {p : Pt} : (∃ r ∈ endRow g ls k, r.1 = p) ↔ ∃ l, ls[k]? = some l ∧ (crn g l.1 = p ∨ crn g l.2 = p) := by
  unfold endRow
  split
  · rename_i l h
    simp [h]
  · rename_i h
    simp [h]
theorem mem_rowS {g : Int} {k l : Nat} {ss : List S3} {p : Pt} : (∃ r ∈ rowS g k l ss, r.1 = p) ↔ ∃ s, ss = [s] ∧ crnS g s = p := by
  unfold rowS
  split
  · rename_i s
    simp
  · rename_i h
    constructor
    · rintro ⟨r, hr, _⟩
      cases hr
    · rintro ⟨s, e, _⟩
      exact absurd e (h s)

structure Fi (d : PyData) (dep blk : Nat) : Prop where
  lv : d.leavesShort 200 = true
  sh : d.showable = true
  nd : d.hasDict = false
  dp : d.depth ≤ dep
  bk : d.bulk ≤ blk
theorem Fi.int {i : Int} (h : okI i) : Fi (.int i) 0 0 := by
  have a := h.len
  have b := h.sh
  constructor
  · simp [PyData.leavesShort, a]
  · simp [PyData.showable, b]
  · rfl
  · exact Nat.le_refl _
  · exact Nat.le_refl _
theorem Fi.all {dep blk : Nat} : ∀ {xs : List PyData}, (∀ x ∈ xs, Fi x dep blk) → PyData.leavesShortAll 200 xs = true ∧ PyData.showableAll xs = true ∧ PyData.hasDictAll xs = false ∧ PyData.depthAll xs ≤ dep ∧ PyData.bulkAll xs ≤ xs.length * (blk + 1)
  | [], _ => ⟨rfl, rfl, rfl, Nat.zero_le _, Nat.zero_le _⟩
  | x :: xs, h => by
    obtain ⟨a, b, c, d, e⟩ := h x (List.mem_cons_self ..)
    obtain ⟨a2, b2, c2, d2, e2⟩ := Fi.all fun y hy => h y (List.mem_cons_of_mem _ hy)
    refine ⟨?_, ?_, ?_, ?_, ?_⟩
    · show (PyData.leavesShort 200 x && PyData.leavesShortAll 200 xs) = true
      rw [a, a2]; rfl
    · show (PyData.showable x && PyData.showableAll xs) = true
      rw [b, b2]; rfl
    · show (PyData.hasDict x || PyData.hasDictAll xs) = false
      rw [c, c2]; rfl
    · show max (PyData.depth x) (PyData.depthAll xs) ≤ dep
      omega
    · show PyData.bulk x + 1 + PyData.bulkAll xs ≤ (xs.length + 1) * (blk + 1)
      rw [Nat.add_mul]
      omega
theorem Fi.tup {dep blk : Nat} {xs : List PyData} (h : ∀ x ∈ xs, Fi x dep blk) : Fi (.tuple xs) (dep + 1) (xs.length * (blk + 1)) := by
  obtain ⟨a, b, c, d, e⟩ := Fi.all h
  exact ⟨a, b, c, by show PyData.depthAll xs + 1 ≤ _; omega, e⟩
theorem Fi.up {d : PyData} {a b a2 b2 : Nat} (h : Fi d a b) (h1 : a ≤ a2) (h2 : b ≤ b2) : Fi d a2 b2 := ⟨h.lv, h.sh, h.nd, Nat.le_trans h.dp h1, Nat.le_trans h.bk h2⟩
theorem Fi.fine {d : PyData} {a b : Nat} (h : Fi d a b) (h1 : a ≤ 60) (h2 : b ≤ 80000) : Fine d := ⟨h.lv, h.sh, h.nd, Nat.le_trans h.dp h1, Nat.le_trans h.bk h2⟩
theorem Fi.pt {p : Pt} (h1 : okI p.1) (h2 : okI p.2) : Fi (pd p) 1 2 := Fi.tup (dep := 0) (blk := 0) fun x hx => by
  simp only [List.mem_cons, List.not_mem_nil, or_false] at hx
  rcases hx with rfl | rfl
  · exact .int h1
  · exact .int h2


def gl (ls : List Ln) (i : Nat) : Ln := ls.getD i ((0, 0), (0, 0))
theorem gl_at {ls : List Ln} {i : Nat} (h : i < ls.length) : ls[i]? = some (gl ls i) := by
  unfold gl
  rw [List.getD_eq_getElem?_getD, List.getElem?_eq_getElem h]
  rfl
theorem gl_mem {ls : List Ln} {i : Nat} (h : i < ls.length) : gl ls i ∈ ls := List.mem_of_getElem? (gl_at h)
theorem AllAt.at_ {α : Type} {R : V → α → Prop} : ∀ {vs : List V} {xs : List α} {i : Nat} {x : α}, AllAt R vs xs → xs[i]? = some x → ∃ v, vs[i]? = some v ∧ R v x
  | _, _, _, _, .nil, e => nomatch e
  | v :: _, _ :: _, 0, _, .cons h _, e => ⟨v, rfl, by rw [← Option.some.inj e]; exact h⟩
  | _ :: _, _ :: _, i + 1, _, .cons _ t, e => AllAt.at_ (i := i) t e
abbrev PW2 := Str × List Int
def Wtd (g : Int) (ls : List Ln) (c : Pt) : Prop := ∃ r ∈ rowsP g ls, r.1 = c
def PapV (K : PySem.W.Frag) (H : Hp) (u : V) (p : PW2) : Prop := Pap K H u p.1 p.2
def PapU (K : PySem.W.Frag) (H : Hp) (v : V) (ws : List PW2) : Prop := ∃ a us, v = .ref a ∧ SqT K H a us ∧ AllAt (PapV K H) us ws
def UnwOk (ls : List Ln) (ws : List PW2) : Prop := ws.length = (prs ls.length).length ∧ ∀ (i : Nat) (p : Nat × Nat) (w : PW2), (prs ls.length)[i]? = some p → ws[i]? = some w → PaperOk (gl ls p.1) (gl ls p.2) w.1 w.2
def ThU (K : PySem.W.Frag) (H : Hp) (v : V) : Option (List PW2) → Prop
  | none => v = .non
  | some ws => PapU K H v ws
def OkU (ls : List Ln) : Option (List PW2) → Prop
  | none => True
  | some ws => UnwOk ls ws
def endsB (g : Int) (ls : List Ln) (c : Pt) : Bool := ls.any fun l => enB g l c
def pB (g : Int) (ls : List Ln) (c : Pt) (q : (Nat × Nat) × PW2) : Bool := phB g (gl ls q.1.1) (gl ls q.1.2) c q.2.1 q.2.2
def prsB (g : Int) (ls : List Ln) (c : Pt) (ws : List PW2) : Bool := ((prs ls.length).zip ws).all (pB g ls c)
def unwB (g : Int) (ls : List Ln) (c : Pt) : Option (List PW2) → Bool
  | none => false
  | some ws => !endsB g ls c && prsB g ls c ws
theorem acr_at {l r : Ln} {s : S3} (hm : trn (dir l) (dir r) ≠ 0) (hs : s ∈ acr l r) : OnSeg l s (klm l r).1 (klm l r).2.2 := by
  have hp := klm_pos l r hm
  unfold acr at hs
  simp only at hs
  split at hs
  · rename_i h
    rw [List.mem_singleton.mp hs]
    obtain ⟨p, hp0, f1, f2, f3, f4, _⟩ := spot_pos (n := (klm l r).2.2 * l.1.1 + (klm l r).1 * (l.2.1 - l.1.1)) (m := (klm l r).2.2 * l.1.2 + (klm l r).1 * (l.2.2 - l.1.2)) hp
    refine ⟨hp, h.1.1, h.1.2, f4, ?_, ?_⟩
    · show _ = _ * ((klm l r).2.2 * l.1.1 + (klm l r).1 * (l.2.1 - l.1.1))
      unfold sp3
      simp only
      generalize (klm l r).2.2 * l.1.1 + (klm l r).1 * (l.2.1 - l.1.1) = n at *
      generalize (klm l r).2.2 * l.1.2 + (klm l r).1 * (l.2.2 - l.1.2) = n' at *
      generalize (klm l r).2.2 = M at *
      generalize n / spP n n' M = a at *
      generalize M / spP n n' M = c at *
      rw [f1, f3]
      grind
    · show _ = _ * ((klm l r).2.2 * l.1.2 + (klm l r).1 * (l.2.2 - l.1.2))
      unfold sp3
      simp only
      generalize (klm l r).2.2 * l.1.1 + (klm l r).1 * (l.2.1 - l.1.1) = n at *
      generalize (klm l r).2.2 * l.1.2 + (klm l r).1 * (l.2.2 - l.1.2) = n' at *
      generalize (klm l r).2.2 = M at *
      generalize n' / spP n n' M = a at *
      generalize M / spP n n' M = c at *
      rw [f2, f3]
      grind
  · exact nomatch hs
theorem klm_46 {l r : Ln} (hl : GoodLn 2000000 l) (hr : GoodLn 2000000 r) : (klm l r).2.2 ≤ 2 ^ 46 := by
  obtain ⟨a1, a2, _⟩ := hl
  obtain ⟨b1, b2, _⟩ := hr
  unfold BdN at a1 a2 b1 b2
  have m1 := mul_b (a := l.2.1 - l.1.1) (b := r.2.2 - r.1.2) (by omega) (by omega) (by omega) (by omega)
  have m2 := mul_b (a := l.2.2 - l.1.2) (b := r.2.1 - r.1.1) (by omega) (by omega) (by omega) (by omega)
  show trn (less l.2 l.1) (less r.2 r.1) * kfs l r ≤ 2 ^ 46
  have e : trn (less l.2 l.1) (less r.2 r.1) = (l.2.1 - l.1.1) * (r.2.2 - r.1.2) - (l.2.2 - l.1.2) * (r.2.1 - r.1.1) := rfl
  unfold kfs
  split <;> omega
/-- lines that are not along one another have one spot in common at most -/
theorem cmn_one {l r : Ln} {s : S3} {ss : List S3} (h : alB l r = false) (hs : cmn l r = s :: ss) : trn (dir l) (dir r) ≠ 0 ∧ s ∈ acr l r ∧ ss = [] := by
  unfold cmn at hs
  split at hs
  · rename_i hm
    refine ⟨hm, by rw [hs]; exact List.mem_cons_self .., ?_⟩
    unfold acr at hs
    simp only at hs
    split at hs
    · exact (List.cons.inj hs).2.symm
    · exact nomatch hs
  · rename_i hm
    have hm : trn (dir l) (dir r) = 0 := Classical.not_not.mp hm
    split at hs
    · exact nomatch hs
    · rename_i hc
      have hc : trn (dir l) (less r.1 l.1) = 0 := Classical.not_not.mp hc
      have hc2 : trn (dir l) (less r.2 l.1) = 0 := by
        unfold dir trn less at *
        simp only at *
        grind
      unfold alB at h
      rw [show trn (less l.2 l.1) (less r.1 l.1) = 0 from hc, show trn (less l.2 l.1) (less r.2 l.1) = 0 from hc2] at h
      cases h
theorem meet_none (l r : Ln) (wd : Str) : isMeet l r wd [] = false := rfl
theorem meet_word {l r : Ln} {wd : Str} {ns : List Int} (h : isMeet l r wd ns = true) : wd = "meets" := (meet_shape h).1
structure Fit (l r : Ln) (wd : Str) (ns : List Int) : Prop where
  len : ns.length ≤ 9
  b : B190 ns
  sh : SeqAt.shaped (.tuple [.str wd]) = true
  d0 : isMeet l r wd ns = true → 0 < (at3 l (ns.getD 0 0) (ns.getD 1 0)).2.2
  d1 : isMeet l r wd ns = true → (at3 l (ns.getD 0 0) (ns.getD 1 0)).2.2 ≤ 2 ^ 46
  m1 : isMeet l r wd ns = true → ns.getD 1 0 ≤ 2 ^ 46
theorem told_meet {l r : Ln} {wd : Str} {ns : List Int} (hl : GoodLn 2000000 l) (hr : GoodLn 2000000 r) (al : alB l r = false) (h : ToldP l r wd ns) (m : wd = "meets") :
    ∃ s, cmn l r = [s] ∧ at3 l (ns.getD 0 0) (ns.getD 1 0) = sp3 s.1 s.2.1 s.2.2 ∧ 0 < s.2.2 ∧ s.2.2 ≤ 2 ^ 46 ∧ ns.getD 1 0 ≤ 2 ^ 46 := by
  rcases h with ⟨_, e, _⟩ | ⟨s, ss, e, _, rfl⟩
  · rw [e] at m
    exact absurd m (by decide)
  · obtain ⟨h0, hs, rfl⟩ := cmn_one al e
    obtain ⟨a1, a2, a3⟩ := onSeg_share hl.2.2 (acr_at h0 hs)
    have hm := klm_46 hl hr
    have hd := cmn_den hl hr s (by rw [e]; exact List.mem_cons_self ..)
    exact ⟨s, e, a3, hd.1, hd.2, Int.le_trans a2 hm⟩
theorem paper_fit {l r : Ln} {wd : Str} {ns : List Int} (hl : GoodLn 2000000 l) (hr : GoodLn 2000000 r) (h : PaperOk l r wd ns) : Fit l r wd ns := by
  rcases h with ⟨_, rfl, rfl⟩ | ⟨al, h⟩
  · exact ⟨Nat.zero_le _, (fun _ z => nomatch z), (by decide +kernel), (fun z => by rw [meet_none] at z; cases z), (fun z => by rw [meet_none] at z; cases z), (fun z => by rw [meet_none] at z; cases z)⟩
  · have gd := told_good hl.2.2 hr.2.2 (good_L hl) (good_L hr) h
    have key := told_meet hl hr al h
    have d := fun (s : S3) (h0 : 0 < s.2.2) => spot_pos (n := s.1) (m := s.2.1) h0
    refine ⟨gd.len, gd.b, gd.sh, fun z => ?_, fun z => ?_, fun z => ?_⟩ <;> obtain ⟨s, e, e3, h0, h1, h2⟩ := key (meet_word z)
    · rw [e3]
      obtain ⟨p, _, _, _, _, f, _⟩ := d s h0
      exact f
    · rw [e3]
      obtain ⟨p, _, _, _, _, _, f⟩ := d s h0
      exact Int.le_trans f h1
    · exact h2
theorem paper_so {g : Int} {l r : Ln} {c : Pt} {wd : Str} {ns : List Int} (hl : GoodLn 2000000 l) (hr : GoodLn 2000000 r) (h : PaperOk l r wd ns) (nx : ∀ s, cmn l r = [s] → crnS g s ≠ c) : phB g l r c wd ns = true := by
  rcases h with ⟨al, rfl, rfl⟩ | ⟨al, h⟩
  · unfold phB
    rw [if_pos (by decide)]
    exact al
  · have gd := told_good hl.2.2 hr.2.2 (good_L hl) (good_L hr) h
    have na : ¬ decide (wd = "along" ∧ ns = []) = true := fun z => by
      have e := (of_decide_eq_true z).1
      rcases h with ⟨_, e2, _⟩ | ⟨_, _, _, e2, _⟩ <;> rw [e2] at e <;> exact absurd e (by decide)
    unfold phB
    rw [if_neg na]
    have ok := gd.ok
    cases hM : isMeet l r wd ns with
    | false =>
      rw [hM, Bool.or_false] at ok
      rw [if_neg (by decide)]
      exact ok
    | true =>
      rw [if_pos rfl]
      obtain ⟨s, e, e3, h0, h1, h2⟩ := told_meet hl hr al h (meet_word hM)
      have q := nr_spot (n := s.1) (m := s.2.1) (d := s.2.2) (g := g) h0
      have ne := nx s e
      rw [e3]
      have : ((nr (sp3 s.1 s.2.1 s.2.2).1 ((sp3 s.1 s.2.1 s.2.2).2.2 * g), nr (sp3 s.1 s.2.1 s.2.2).2.1 ((sp3 s.1 s.2.1 s.2.2).2.2 * g)) : Pt) = crnS g s := Prod.ext q.1 q.2
      rw [this, decide_eq_false ne]
      rfl
theorem ends_wtd {g : Int} {ls : List Ln} {c : Pt} (h : endsB g ls c = true) : Wtd g ls c := by
  unfold endsB at h
  obtain ⟨l, hl, e⟩ := List.any_eq_true.mp h
  obtain ⟨k, hk, ek⟩ := List.getElem_of_mem hl
  have : ∃ r ∈ endRow g ls k, r.1 = c := mem_endRow.mpr ⟨l, by rw [List.getElem?_eq_getElem hk, ek], by
    unfold enB at e
    rw [Bool.or_eq_true] at e
    exact e.imp of_decide_eq_true of_decide_eq_true⟩
  obtain ⟨r, hr, er⟩ := this
  exact ⟨r, List.mem_append_left _ (List.mem_flatMap.mpr ⟨k, List.mem_range.mpr hk, hr⟩), er⟩
theorem cross_wtd {g : Int} {ls : List Ln} {c : Pt} {p : Nat × Nat} {s : S3} (hp : p ∈ prs ls.length) (e : cmn (gl ls p.1) (gl ls p.2) = [s]) (es : crnS g s = c) : Wtd g ls c := by
  obtain ⟨h1, h2⟩ := prs_mem hp
  refine ⟨(crnS g s, ("cross", (p.1 : Int), (p.2 : Int))), List.mem_append_right _ (List.mem_flatMap.mpr ⟨p, hp, ?_⟩), es⟩
  unfold crossRow
  rw [gl_at (show p.1 < ls.length by omega), gl_at h2]
  simp only
  rw [e]
  exact List.mem_singleton.mpr rfl
theorem told_unw {g : Int} {ls : List Ln} {c : Pt} {ws : List PW2} (good : ∀ r ∈ ls, GoodLn 2000000 r) (h : UnwOk ls ws) (nw : ¬ Wtd g ls c) : unwB g ls c (some ws) = true := by
  show (!endsB g ls c && prsB g ls c ws) = true
  rw [show endsB g ls c = false from Bool.eq_false_iff.mpr fun z => nw (ends_wtd z)]
  show prsB g ls c ws = true
  refine List.all_eq_true.mpr fun q hq => ?_
  obtain ⟨i, hi, ei⟩ := List.getElem_of_mem hq
  rw [List.getElem_zip] at ei
  rw [List.length_zip] at hi
  have e1 : (prs ls.length)[i]? = some q.1 := by rw [List.getElem?_eq_getElem (by omega), ← ei]
  have e2 : ws[i]? = some q.2 := by rw [List.getElem?_eq_getElem (by omega), ← ei]
  have hp := List.mem_of_getElem? e1
  obtain ⟨h1, h2⟩ := prs_mem hp
  exact paper_so (good _ (gl_mem (by omega))) (good _ (gl_mem h2)) (h.2 i _ _ e1 e2) fun s es z => nw (cross_wtd hp es z)
theorem unw_one {ls : List Ln} {ws ws' : List PW2} (h : UnwOk ls ws) (h' : UnwOk ls ws') : ws = ws' := by
  refine List.ext_getElem (by rw [h.1, h'.1]) fun i h1 h2 => ?_
  have hp : i < (prs ls.length).length := by rw [← h.1]; exact h1
  have a := h.2 i _ _ (List.getElem?_eq_getElem hp) (List.getElem?_eq_getElem h1)
  have b := h'.2 i _ _ (List.getElem?_eq_getElem hp) (List.getElem?_eq_getElem h2)
  rcases a with ⟨al, a1, a2⟩ | ⟨al, a⟩ <;> rcases b with ⟨bl, b1, b2⟩ | ⟨bl, b⟩
  · exact Prod.ext (a1.trans b1.symm) (a2.trans b2.symm)
  · rw [al] at bl; cases bl
  · rw [al] at bl; cases bl
  · obtain ⟨e1, e2⟩ := told_one a b
    exact Prod.ext e1 e2


/-! x in a list or tuple of points -/
theorem dps_pts {K : PySem.W.Frag} {H : Hp} : ∀ {ws : List V} {ps : List Pt}, AllAt (At2 K H) ws ps → DpAll K H ws (ps.map pd)
  | _, _, .nil => .nil
  | _, _, .cons h t => .cons h.dp (dps_pts t)
theorem lay_pts : ∀ ps : List Pt, PyData.canLayAll0 (ps.map pd) = true
  | [] => rfl
  | p :: r => by
    show (PyData.canLay0 (pd p) && PyData.canLayAll0 (r.map pd)) = true
    rw [lay_pts r, show PyData.canLay0 (pd p) = true from rfl]
    rfl
theorem any_pts (p : Pt) : ∀ ps : List Pt, ((ps.map pd).any fun z => PyData.eqv z (pd p)) = decide (p ∈ ps)
  | [] => rfl
  | q :: r => by
    rw [List.map_cons, List.any_cons, any_pts p r, eqv_ptH q p]
    by_cases e : q = p
    · simp [e]
    · have e' : ¬ p = q := fun z => e z.symm
      simp [e, e']
theorem lay {u m : Nat} {p : Pt} (hu : u + 64 < cLine) : u + 1 + min m (pd p).depth < cLine := by
  have h : (pd p).depth = 1 := rfl
  have := Nat.min_le_right m (pd p).depth
  omega
def rInP (K : PySem.W.Frag) : R2 := fun x y H Q => ∃ p ps a vs, At2 K H x p ∧ y = .ref a ∧ (SqL K H a vs ∨ SqT K H a vs) ∧ AllAt (At2 K H) vs ps ∧ Q (.bl (decide (p ∈ ps))) H
theorem op_inP {X : Cx} (hu : X.A.units + 64 < cLine) : OpR X (compareOp .In) (rInP X.K) := by
  intro pins s σ H x y v u Q I rx ry h
  obtain ⟨p, ps, a, vs, hp, rfl, hS, hall, q⟩ := h
  obtain ⟨as, r1⟩ := Dp.reads I (pd p) x v hp.dp rx
  rcases hS with hS | hS
  · obtain ⟨bs, r2⟩ := Dp.reads I (.list (ps.map pd)) _ u (.lst hS (dps_pts hall)) ry
    exact SeqAt.in_list_reads r2 r1 (lay_pts ps) rfl (lay hu) ⟨.bl _, H, I, rfl, by rw [any_pts]; exact q⟩
  · obtain ⟨bs, r2⟩ := Dp.reads I (.tuple (ps.map pd)) _ u (.tup hS (dps_pts hall)) ry
    exact SeqAt.in_tuple_reads r2 r1 (lay_pts ps) rfl (lay hu) ⟨.bl _, H, I, rfl, by rw [any_pts]; exact q⟩


/-! the tables of many defs -/
def TbS (Ps : List Addr) (PL : Addr) (H : Hp) : Prop := (∀ P ∈ Ps, TabG H P ∧ P ≠ PL) ∧ LT H PL qL
theorem tabX {P PL : Addr} {H H' : Hp} (n : P ≠ PL) (h : TabG H P) (s : SameX PL H H') : TabG H' P := by
  obtain ⟨ps, e, t⟩ := h
  obtain ⟨ps', e', t'⟩ := s P _ n e t
  exact ⟨ps', e', t'⟩
theorem TbS.same {Ps : List Addr} {PL : Addr} {H H' : Hp} (h : TbS Ps PL H) (s : Same H H') : TbS Ps PL H' := ⟨fun P z => ⟨s.tab (h.1 P z).1, (h.1 P z).2⟩, s.lt h.2⟩
theorem TbS.sameX {Ps : List Addr} {PL : Addr} {H H' : Hp} (h : TbS Ps PL H) (s : SameX PL H H') (t : LT H' PL qL) : TbS Ps PL H' := ⟨fun P z => ⟨tabX (h.1 P z).2 (h.1 P z).1 s, (h.1 P z).2⟩, t⟩
theorem seLX {K : PySem.W.Frag} {H H' : Hp} {P : Addr} {q : Str} {a : Addr} {xs : List V} (t : LT H P q) (s : SameX P H H') (h : SqL K H a xs) : SqL K H' a xs := by
  obtain ⟨cs, e, _⟩ := t
  have ne : ∀ u, H a = some u → (∀ φ, u ≠ .ext φ) → a ≠ P := fun u z n y => by
    rw [y, e] at z
    exact n _ (Option.some.inj z).symm
  rcases h with (h | ⟨o, h⟩) | h
  · exact .inl (.inl (s _ _ (ne _ h fun φ z => nomatch z) h))
  · exact .inl (.inr ⟨o, s _ _ (ne _ h fun φ z => nomatch z) h⟩)
  · exact .inr h
theorem seL' {K : PySem.W.Frag} {H H' : Hp} {a : Addr} {xs : List V} (s : Same H H') (h : SqL K H a xs) : SqL K H' a xs := by
  rcases h with (h | ⟨o, h⟩) | h
  · exact .inl (.inl (s _ _ h))
  · exact .inl (.inr ⟨o, s _ _ h⟩)
  · exact .inr h
theorem lstX {PL a : Addr} {q : Str} {H H' : Hp} {xs : List V} (t : LT H PL q) (s : SameX PL H H') (h : H a = some (.lst xs)) : H' a = some (.lst xs) := by
  obtain ⟨cs, e, _⟩ := t
  exact s _ _ (fun z => by rw [z, e] at h; cases h) h
theorem LT.upd {H : Hp} {P D : Addr} {q : Str} {xs : List V} {o : HO} (t : LT H P q) (e : H D = some (.lst xs)) : LT (upd H D o) P q := by
  obtain ⟨cs, h1, h2⟩ := t
  have ne : ∀ b u, H b = some u → (∀ ys, u ≠ .lst ys) → b ≠ D := fun b u z n y => by
    rw [y, e] at z
    exact n _ (Option.some.inj z).symm
  refine ⟨cs, ?_, fun c hc => ⟨(h2 c hc).1, ?_⟩⟩
  · rw [upd_ne (ne _ _ h1 fun ys z => nomatch z)]; exact h1
  · rw [upd_ne (ne _ _ (h2 c hc).2 fun ys z => nomatch z)]; exact (h2 c hc).2
theorem SameX.updN {PL D : Addr} {H H' : Hp} {o : HO} (s : SameX PL H H') (n : H D = none) : SameX PL H (upd H' D o) := fun b u nb e => by
  rw [upd_ne (fun z => by rw [z, n] at e; cases e)]
  exact s b u nb e
theorem At2.sameX {K : PySem.W.Frag} {H H' : Hp} {P : Addr} {q : Str} {v : V} {p : Pt} (h : At2 K H v p) (t : LT H P q) (s : SameX P H H') : At2 K H' v p := by
  obtain ⟨a, e, h⟩ := h
  exact ⟨a, e, seX t s h⟩
theorem AtT.sameX {K : PySem.W.Frag} {H H' : Hp} {P : Addr} {q : Str} {v : V} {ls : List Ln} (h : AtT K H v ls) (t : LT H P q) (s : SameX P H H') : AtT K H' v ls := by
  obtain ⟨a, vs, e, h1, h2⟩ := h
  exact ⟨a, vs, e, seX t s h1, h2.map fun _ _ z => z.sameX t s⟩
theorem Lns.sameX {K : PySem.W.Frag} {H H' : Hp} {P : Addr} {q : Str} {g : Int} {v : V} {ls : List Ln} (h : Lns K H g v ls) (t : LT H P q) (s : SameX P H H') : Lns K H' g v ls := ⟨h.1, h.2.1.sameX t s, h.2.2.1, h.2.2.2⟩
theorem PapV.same {K : PySem.W.Frag} {H H' : Hp} {v : V} {p : PW2} (h : PapV K H v p) (s : Same H H') : PapV K H' v p := by
  obtain ⟨a, e, h⟩ := h
  exact ⟨a, e, seT s h⟩
theorem PapV.sameX {K : PySem.W.Frag} {H H' : Hp} {P : Addr} {q : Str} {v : V} {p : PW2} (h : PapV K H v p) (t : LT H P q) (s : SameX P H H') : PapV K H' v p := by
  obtain ⟨a, e, h⟩ := h
  exact ⟨a, e, seX t s h⟩
theorem PapV.upd {K : PySem.W.Frag} {H : Hp} {M : Addr} {xs : List V} {o : HO} {v : V} {p : PW2} (h : PapV K H v p) (e : H M = some (.lst xs)) : PapV K (L2.upd H M o) v p := by
  obtain ⟨a, e2, h⟩ := h
  exact ⟨a, e2, updT e h⟩
theorem PapU.same {K : PySem.W.Frag} {H H' : Hp} {v : V} {ws : List PW2} (h : PapU K H v ws) (s : Same H H') : PapU K H' v ws := by
  obtain ⟨a, us, e, h1, h2⟩ := h
  exact ⟨a, us, e, seT s h1, h2.map fun _ _ z => z.same s⟩
theorem PapU.sameX {K : PySem.W.Frag} {H H' : Hp} {P : Addr} {q : Str} {v : V} {ws : List PW2} (h : PapU K H v ws) (t : LT H P q) (s : SameX P H H') : PapU K H' v ws := by
  obtain ⟨a, us, e, h1, h2⟩ := h
  exact ⟨a, us, e, seX t s h1, h2.map fun _ _ z => z.sameX t s⟩
theorem PapU.upd {K : PySem.W.Frag} {H : Hp} {M : Addr} {xs : List V} {o : HO} {v : V} {ws : List PW2} (h : PapU K H v ws) (e : H M = some (.lst xs)) : PapU K (L2.upd H M o) v ws := by
  obtain ⟨a, us, e2, h1, h2⟩ := h
  exact ⟨a, us, e2, updT e h1, h2.map fun _ _ z => z.upd e⟩
theorem ThU.same {K : PySem.W.Frag} {H H' : Hp} {v : V} : ∀ {ow : Option (List PW2)}, ThU K H v ow → Same H H' → ThU K H' v ow
  | none, h, _ => h
  | some _, h, s => PapU.same h s
theorem ThU.sameX {K : PySem.W.Frag} {H H' : Hp} {P : Addr} {q : Str} {v : V} : ∀ {ow : Option (List PW2)}, ThU K H v ow → LT H P q → SameX P H H' → ThU K H' v ow
  | none, h, _, _ => h
  | some _, h, t, s => PapU.sameX h t s
theorem ThU.upd {K : PySem.W.Frag} {H : Hp} {M : Addr} {xs : List V} {o : HO} {v : V} : ∀ {ow : Option (List PW2)}, ThU K H v ow → H M = some (.lst xs) → ThU K (L2.upd H M o) v ow
  | none, h, _ => h
  | some _, h, e => PapU.upd h e

section
end
end Cl

set_option maxHeartbeats 0
namespace Cl
open PySem PySem.Spec PyProof.Rows L2
open GxR (TabB TabG)


def spUnwP (K : PySem.W.Frag) (Pa PL : Addr) : Sp := fun vs H Q _ => ∃ g u v ls c, vs = [.int g, u, v] ∧ Lns K H g u ls ∧ At2 K H v c ∧ TabG H Pa ∧ Pa ≠ PL ∧ LT H PL qL ∧
  (Wtd g ls c → ∀ H', Same H H' → Q .non H') ∧ (¬ Wtd g ls c → ∀ w H' ws, SameX PL H H' → LT H' PL qL → PapU K H' w ws → UnwOk ls ws → Q w H')

section
variable {P : Program} {w : World} {K : PySem.W.Frag} {mg : Str → Option Value} {base : Heap}

theorem okunwanted_paper {f Pa PL : Addr} {fd : FuncData} (F : Fun K "unwanted_paper" "unwanted_paper" sunwanted_paper f fd) (T : Bt mg) (Dcorners_of : Def P w K mg base 8 "corners_of" ["grain", "lines"] (spCorners K)) (Dpairs_below : Def P w K mg base 1 "pairs_below" ["many"] (spPairs K)) (Dpair_paper : Def P w K mg base 7 "pair_paper" ["one", "other"] (spPairP K Pa PL)) :
    FnG P w K mg base CX0 9 f fd ["grain", "lines", "corner"] (spUnwP K Pa PL) := by
  refine okG (k := 8) F scunwanted_paper (fun vs H Q E h => ?_) (fun cdv A outer s H vs Q E hr h => ?_)
  · obtain ⟨gg, u, v, ls, c, rfl, _⟩ := h
    rfl
  · obtain ⟨gg, u, v, ls, c, rfl, hL, hc, hT, hne, lt, q1, q2⟩ := h
    refine ⟨_, (pss_cons (ps_if (pt_cmpR (op_inP hr.room.units) (pv 2) (callD Dcorners_of (hr.mono (by decide)) (pa_cons (pv 0) (pa_cons (pv 1) pa_nil))) (by rfl)) (pss_one (ps_ret pe_non)) pss_nil)
      (pss_one (ps_ret (pe_callTy call_tuple_ofN (by rfl) T.tuple (by decide +kernel) (pa_cons (pe_lc (own := [("k", 3), ("l", 4)]) (g := gTup K 2 (gCons (gName 3) (gCons (gName 4) gNil))) (tt := tYes) (by rfl) scunwanted_paper.nd (pi_list (callD Dpairs_below (hr.mono (by decide)) (pa_cons (pe_callB call_len_seq (by rfl) T.len (by decide +kernel) (pa_cons (pv 1) pa_nil)) pa_nil))) (blkOk_by (own := [("k", 3), ("l", 4)]) (N := ["grain", "lines", "corner", "k", "l"]) (sc := defScope sunwanted_paper) (by decide +kernel)) (fun _ _ _ _ _ => (pg_tup (by rfl) (pgs_cons (pg_name (i := 3) scunwanted_paper.nd rfl (.inl rfl)) (pgs_cons (pg_name (i := 4) scunwanted_paper.nd rfl (.inl rfl)) pgs_nil)))) (fun _ _ _ _ _ => pts_nil) (fun _ _ _ _ _ => (callD Dpair_paper (hr.mono (by decide)) (pa_cons (pe_ix (ix_tupk (K := K) rfl) (pv 1) (pv 3) (fun _ _ => rfl)) (pa_cons (pe_ix (ix_tupk (K := K) rfl) (pv 1) (pv 4) (fun _ _ => rfl)) pa_nil))))) pa_nil))))), ?_⟩
    refine ⟨_, rfl, _, rfl, _, rfl, gg, u, ls, rfl, hL, fun uc H1 cs s1 e1 ics => ?_⟩
    obtain ⟨ac, vc, rfl, hS1, hall1⟩ := e1
    refine ⟨c, cs, ac, vc, hc.same s1, rfl, .inr hS1, hall1, _, rfl, ite2 (fun e => q1 ((ics.2.2 c).mp (of_decide_eq_true e)) H1 s1) (fun e => ?_)⟩
    have nw : ¬ Wtd gg ls c := fun z => e (decide_eq_true ((ics.2.2 c).mpr z))
    have hL1 := hL.same s1
    obtain ⟨al, vl, rfl, hSl, hAl⟩ := id hL1.2.1
    have l12 := hL1.2.2.1
    refine ⟨_, rfl, al, vl, rfl, .inr hSl, ls.length, by rw [hAl.length]; rfl, l12, fun ap H2 ps na s2 e2 hall2 => ?_⟩
    refine ⟨ap, rfl, ⟨_, .inl (.inl e2)⟩, fun pD nD => ?_⟩
    have lt2 := (s1.trans s2).lt lt
    have hL2 := hL1.same s2
    have hT2 := (s1.trans s2).tab hT
    have lp := hall2.length
    have lp2 := prs_len l12
    refine lcL (K := K) (a := ap) (xs := ps) (fun i H' => SameX PL H2 H' ∧ LT H' PL qL ∧ ∃ us ws, H' pD = some (.lst us) ∧ AllAt (PapV K H') us ws ∧ ws.length = i ∧ ∀ (j : Nat) (p : Nat × Nat) (w : PW2), (prs ls.length)[j]? = some p → ws[j]? = some w → PaperOk (gl ls p.1) (gl ls p.2) w.1 w.2) nD (fun H' e1 e2 => ⟨e1.x, e1.lt lt2, [], [], e2, .nil, rfl, fun j p w _ z => nomatch z⟩) (fun i H' _ z => seLX lt2 z.1 (.inl (.inl e2))) (fun i x H' hx z => ?_) (fun H5 z => ?_)
    · obtain ⟨z1, z2, us, ws, z3, z4, z5, z6⟩ := z
      obtain ⟨p, hp, at', rfl, hSt⟩ := hall2.get hx
      obtain ⟨p1, p2⟩ := prs_mem (List.mem_of_getElem? hp)
      have hAl' := hAl.map fun _ _ y => AtL.sameX (AtL.same y s2) lt2 z1
      have hSl' := seX lt2 z1 (seT s2 hSl)
      obtain ⟨vk, ek, hk⟩ := hAl'.at_ (gl_at (show p.1 < ls.length by omega))
      obtain ⟨vm, em, hm⟩ := hAl'.at_ (gl_at p2)
      have gk := hL1.2.2.2 _ (gl_mem (show p.1 < ls.length by omega))
      have gm := hL1.2.2.2 _ (gl_mem p2)
      have hi : i < (prs ls.length).length := (List.getElem?_eq_some_iff.mp hp).1
      refine ⟨at', _, rfl, seX lt2 z1 hSt, rfl, _, _, rfl, _, _, rfl, rfl, ?_⟩
      refine ⟨rfl, _, rfl, _, rfl, al, _, _, vk, rfl, rfl, hSl', atI_nat (j := p.1) ek, _, rfl, _, rfl, al, _, _, vm, rfl, rfl, hSl', atI_nat (j := p.2) em, ?_⟩
      refine ⟨vk, vm, gl ls p.1, gl ls p.2, rfl, hk, hm, good_L gk, good_L gm, gk.2.2, gm.2.2, tabX hne hT2 z1, z2, fun w H3 wd ns sx lt3 pap ok => ?_⟩
      have e3 := lstX z2 sx z3
      refine ⟨us, e3, by rw [z4.length, z5]; exact small1000 (by omega), (z1.trans sx).updN nD, lt3.upd e3, us ++ [w], ws ++ [(wd, ns)], upd_same, ((z4.map fun _ _ y => (PapV.sameX y z2 sx).upd e3).app (.cons (PapV.upd (p := (wd, ns)) pap e3) .nil)), by rw [List.length_append, z5]; rfl, fun j p' w' hp' hw' => ?_⟩
      by_cases hj : j < ws.length
      · rw [List.getElem?_append_left hj] at hw'
        exact z6 j p' w' hp' hw'
      · rw [List.getElem?_append_right (Nat.le_of_not_lt hj)] at hw'
        have hj2 : j - ws.length = 0 := by
          have := (List.getElem?_eq_some_iff.mp hw').1
          rw [List.length_singleton] at this
          omega
        rw [hj2] at hw'
        have ej : j = i := by omega
        rw [ej, hp] at hp'
        cases hp'
        cases hw'
        exact ok
    · obtain ⟨z1, z2, us, ws, z3, z4, z5, z6⟩ := z
      refine ⟨pD, us, rfl, .inl (.inl z3), fun p8 H8 n8 s8 g8 => q2 nw _ _ ws ((s1.trans s2).x.trans (z1.trans s8.x)) (s8.lt z2) ⟨p8, us, rfl, .inl (.inl g8), z4.map fun _ _ y => PapV.same y s8⟩ ⟨by rw [z5, lp], z6⟩⟩

end
end Cl

set_option maxHeartbeats 0
namespace Cl
open PySem PySem.Spec PyProof.Rows L2
open GxR (TabB TabG)


theorem zip_getD {α : Type} {l : List α} {i : Nat} {d : α} (h : i < l.length) : l.getD i d ∈ l := by
  rw [List.getD_eq_getElem?_getD, List.getElem?_eq_getElem h]
  exact List.getElem_mem h
def spUnwH (K : PySem.W.Frag) (Pt Pe Pw Pa Pl : Addr) : Sp := fun vs H Q _ => ∃ g u v w ls c ow, vs = [.int g, u, v, w] ∧ Lns K H g u ls ∧ At2 K H v c ∧ (TabG H Pt ∧ TabG H Pe ∧ TabG H Pw ∧ TabG H Pa ∧ TabG H Pl) ∧ ThU K H w ow ∧ OkU ls ow ∧ ∀ H', Same H H' → Q (.bl (unwB g ls c ow)) H'

section
variable {P : Program} {w : World} {K : PySem.W.Frag} {mg : Str → Option Value} {base : Heap}

theorem okunwanted_holds {f c Pt Pe Pw Pa Pl : Addr} {fd : FuncData} (F : Fun K "unwanted_holds" "unwanted_holds" sunwanted_holds f fd) (hc : fd.code = .ref c) (TB : GxR.TabB base mg c Pt) (T : Bt mg) (Dends_in : Def P w K mg base 5 "ends_in" ["grain", "line", "corner"] (spEndsIn K Pe)) (Dpairs_below : Def P w K mg base 1 "pairs_below" ["many"] (spPairs K)) (Dpair_holds : Def P w K mg base 6 "pair_holds" ["grain", "one", "other", "corner", "thing"] (spPairH K Pw Pa Pl)) :
    FnG P w K mg base CX0 9 f fd ["grain", "lines", "corner", "thing"] (spUnwH K Pt Pe Pw Pa Pl) := by
  refine okGT (k := 8) F hc scunwanted_holds (fun vs H Q E h => ?_) (fun A outer s H vs Q E hr h => ?_)
  · obtain ⟨gg, u, v, w, ls, c9, ow, rfl, _⟩ := h
    rfl
  · obtain ⟨gg, u, v, w, ls, c9, ow, rfl, hL, hc9, hT, hth, hok, q⟩ := h
    refine ⟨_, (pss_cons (ps_set (i := 4) scunwanted_holds.nd rfl (.inl rfl) (callD Dpairs_below (hr.mono (by decide)) (pa_cons (pe_callB call_len_seq (by rfl) T.len (by decide +kernel) (pa_cons (pv 1) pa_nil)) pa_nil)))
      (pss_cons (ps_if (PW.pt (pw_or (pt_not (pt_val (pe_callB call_isi (by rfl) T.isinstance (by decide +kernel) (pa_cons (pv 3) (pa_cons (pe_bltn (v := .ty "tuple") (by rfl) T.tuple (by decide +kernel) rfl) pa_nil))))) (pw_or1 (pt_cmpR op_ne (pe_callB call_len_seq (by rfl) T.len (by decide +kernel) (pa_cons (pv 3) pa_nil)) (pe_callB call_len_seq (by rfl) T.len (by decide +kernel) (pa_cons (pv 4) pa_nil)) (nomark _))))) (pss_one (ps_ret pe_bl)) pss_nil)
      (pss_cons (ps_if (pt_val (pe_anyN (k := 6) (c := c) (P := Pt) hr (by rfl) T.any TB rfl (genK_by (sc := defScope sunwanted_holds) (by decide +kernel)) (show ¬ ("line" : Str) ∈ (["grain", "lines", "corner", "thing", "pairs"] : List Str) from by decide) (show ¬ (".0" : Str) ∈ (["grain", "lines", "corner", "thing", "pairs"] : List Str) from by decide) scunwanted_holds.nd (pv 1) (fun s1 H1 C code hr2 => (callD Dends_in (hr2.mono (by decide)) (pa_cons (pv 1) (pa_cons (pv 0) (pa_cons (pv 3) pa_nil))))))) (pss_one (ps_ret pe_bl)) pss_nil)
      (pss_one (ps_ret (pe_allI (k := 6) (c := c) (P := Pt) (xs := ["k", "l", "part"]) (tgw := gTup K 2 (gCons (gTup K 2 (gCons (gName 0) (gCons (gName 1) gNil))) (gCons (gName 2) gNil))) hr (by rfl) T.all TB rfl (genKL_by (sc := defScope sunwanted_holds) (by decide +kernel)) (show ∀ x ∈ (["k", "l", "part"] : List Str), ¬ x ∈ (["grain", "lines", "corner", "thing", "pairs"] : List Str) from by decide) (show ¬ (".0" : Str) ∈ (["grain", "lines", "corner", "thing", "pairs"] : List Str) from by decide) (pi_zipM (by rfl) T.zip (pa_cons (pv 4) (pa_cons (pv 3) pa_nil))) (fun s1 H1 C code fp => pg_tup (by rfl) (pgs_cons (pg_tup (by rfl) (pgs_cons (pg_name (i := 0) (show ((["k", "l", "part"] : List Str) ++ (["grain", "lines", "corner", "thing", "pairs"] : List Str)).Nodup from by decide) rfl (.inl rfl)) (pgs_cons (pg_name (i := 1) (show ((["k", "l", "part"] : List Str) ++ (["grain", "lines", "corner", "thing", "pairs"] : List Str)).Nodup from by decide) rfl (.inl rfl)) pgs_nil))) (pgs_cons (pg_name (i := 2) (show ((["k", "l", "part"] : List Str) ++ (["grain", "lines", "corner", "thing", "pairs"] : List Str)).Nodup from by decide) rfl (.inl rfl)) pgs_nil))) (fun s1 H1 C code fp hr2 => (callD Dpair_holds (hr2.mono (by decide)) (pa_cons (pv 3) (pa_cons (pe_ix (ix_tupk (K := K) rfl) (pv 4) (pv 0) (fun _ _ => rfl)) (pa_cons (pe_ix (ix_tupk (K := K) rfl) (pv 4) (pv 1) (fun _ _ => rfl)) (pa_cons (pv 5) (pa_cons (pv 2) pa_nil))))))))))))), ?_⟩
    obtain ⟨al, vl, rfl, hSl, hAl⟩ := id hL.2.1
    have l12 := hL.2.2.1
    obtain ⟨tTt, tTe, tTw, tTa, tTl⟩ := hT
    refine ⟨_, rfl, al, vl, rfl, .inr hSl, ls.length, by rw [hAl.length]; rfl, l12, fun ap H1 ps na s1 e1 hall1 => ?_⟩
    cases ow with
    | none =>
      have hw : w = .non := hth
      subst hw
      have kn : Kd K H1 .non "NoneType" := .non
      exact ⟨_, rfl, _, _, _, _, _, rfl, .ty _, kn.ty, kit_ty kn.tuple?, _, rfl, iteT (q H1 s1)⟩
    | some ws =>
      obtain ⟨a, us, rfl, hSu, hAu⟩ := hth
      have hSu1 := seT s1 hSu
      refine ⟨_, rfl, _, _, _, _, _, rfl, .ty _, (Kd.tup hSu1).ty, kit_ty (Kd.tup hSu1).tuple?, _, rfl, iteF ⟨_, rfl, a, us, rfl, .inr hSu1, _, rfl, ap, ps, rfl, .inl (.inl (.inl e1)), ?_⟩⟩
      have lu := hAu.length
      have lp := hall1.length
      have lw := hok.1
      have lv := hAl.length
      have ne : (!decide (V.int (us.length : Int) = V.int (ps.length : Int))) = false := by
        rw [show us.length = ps.length by omega]
        simp
      refine ⟨rfl, _, rfl, ite2 (fun e => absurd e (by rw [ne]; decide)) (fun _ => ?_)⟩
      refine ⟨_, rfl, al, vl, fun i => enB gg (gl ls i) c9, fun i H' => Same H1 H' ∧ TabG H' Pt, rfl, seT s1 hSl, s1.tab tTt, fun i H' z => seT (s1.trans z.1) hSl, fun H2 s2 t2 => ⟨s2, t2⟩, fun i x H2 hx z => ?_, fun i H2 hi hb z => ?_, fun H2 hb z => ?_⟩
      · obtain ⟨l, hl, hx2⟩ := hAl.get hx
        have il : i < ls.length := (List.getElem?_eq_some_iff.mp hl).1
        have el : l = gl ls i := Option.some.inj (hl.symm.trans (gl_at il))
        subst el
        have S2 := s1.trans z.1
        exact ⟨_, rfl, _, rfl, _, rfl, gg, x, v, gl ls i, c9, rfl, S2.tab tTe, hL.1.1, by have := hL.1.2; omega, hx2.same S2, hc9.same S2, good_L (hL.2.2.2 _ (gl_mem il)), fun H3 s3 => ⟨rfl, z.1.trans s3, s3.tab z.2⟩⟩
      · have il : i < ls.length := by omega
        have := q H2 (s1.trans z.1)
        rw [show unwB gg ls c9 (some ws) = false from by
          show (!endsB gg ls c9 && _) = false
          rw [show endsB gg ls c9 = true from List.any_eq_true.mpr ⟨_, gl_mem il, hb⟩]
          rfl] at this
        exact ⟨true, rfl, iteT this⟩
      · have nE : endsB gg ls c9 = false := by
          refine Bool.eq_false_iff.mpr fun e => ?_
          obtain ⟨l, hl, e⟩ := List.any_eq_true.mp e
          obtain ⟨i, hi, rfl⟩ := List.getElem_of_mem hl
          have el : gl ls i = ls[i] := Option.some.inj ((gl_at hi).symm.trans (List.getElem?_eq_getElem hi))
          have : enB gg (gl ls i) c9 = false := hb i (by omega)
          rw [show enB gg (gl ls i) c9 = true from by rw [el]; exact e] at this
          cases this
        have S2 := s1.trans z.1
        have eB : unwB gg ls c9 (some ws) = prsB gg ls c9 ws := by
          show (!endsB gg ls c9 && prsB gg ls c9 ws) = _
          rw [nE]
          rfl
        have lz : ((prs ls.length).zip ws).length = ps.length := by rw [List.length_zip]; omega
        have ep : H2 ap = some (.lst ps) := z.1 _ _ e1
        refine ⟨false, rfl, iteF ?_⟩
        refine ⟨_, rfl, _, rfl, ap, a, ps, us, rfl, .inl (.inl ep), seT S2 hSu, ps.length, fun i => pB gg ls c9 (((prs ls.length).zip ws).getD i ((0, 0), ("", []))), fun i H' => Same H2 H' ∧ TabG H' Pt, z.2, fun i H' hi y => ?_, fun H' y => ⟨ps, us, .inl (.inl (y.1 _ _ ep)), seT (S2.trans y.1) hSu, .inl (Nat.le_refl _)⟩, fun H3 s3 t3 => ⟨s3, t3⟩, fun i x H' H3 os hi y yl lo => ?_, fun i H3 hi hb y => ?_, fun H3 hb y => ?_⟩
        · exact ⟨ps, us, ps[i], us[i], .inl (.inl (y.1 _ _ ep)), seT (S2.trans y.1) hSu, List.getElem?_eq_getElem hi, List.getElem?_eq_getElem (by omega)⟩
        · obtain ⟨T9, x1, x2, rfl, nT, rfl, f1, f2⟩ := yl
          have g1 := f1 ps (.inl (.inl (y.1 _ _ ep)))
          have g2 := f2 us (seT (S2.trans y.1) hSu)
          have S3 : Same H (upd H' T9 (.tup [x1, x2])) := (S2.trans y.1).trans (same_new nT)
          obtain ⟨p, hp, at', rfl, hSt⟩ := hall1.get g1
          obtain ⟨w, hw, hw2⟩ := hAu.get g2
          obtain ⟨p1, p2⟩ := prs_mem (List.mem_of_getElem? hp)
          obtain ⟨vk, ek, hk⟩ := hAl.at_ (gl_at (show p.1 < ls.length by omega))
          obtain ⟨vm, em, hm⟩ := hAl.at_ (gl_at p2)
          have gk := hL.2.2.2 _ (gl_mem (show p.1 < ls.length by omega))
          have gm := hL.2.2.2 _ (gl_mem p2)
          have ft := paper_fit gk gm (hok.2 i p w hp hw)
          have eb : ((prs ls.length).zip ws).getD i ((0, 0), ("", [])) = (p, w) := by
            rw [List.getD_eq_getElem?_getD, show ((prs ls.length).zip ws)[i]? = some (p, w) from by
              rw [List.getElem?_zip_eq_some]
              exact ⟨hp, hw⟩]
            rfl
          obtain ⟨o1, o2, o3, rfl⟩ : ∃ o1 o2 o3, os = [o1, o2, o3] := by
            match os, lo with
            | [o1, o2, o3], _ => exact ⟨_, _, _, rfl⟩
          have S13 := z.1.trans (y.1.trans (same_new (o := .tup [V.ref at', x2]) nT))
          refine ⟨T9, _, rfl, .inl (.inl upd_same), rfl, _, _, rfl, at', _, rfl, seT S13 hSt, rfl, _, _, rfl, _, _, rfl, rfl, _, _, rfl, rfl, ⟨[_, _, _], rfl, rfl⟩, ?_⟩
          have hSl3 := seT S3 hSl
          refine ⟨_, rfl, _, rfl, _, rfl, al, _, _, vk, rfl, rfl, hSl3, atI_nat (j := p.1) ek, _, rfl, _, rfl, al, _, _, vm, rfl, rfl, hSl3, atI_nat (j := p.2) em, _, rfl, _, rfl, ?_⟩
          refine ⟨gg, vk, vm, v, x2, gl ls p.1, gl ls p.2, c9, w.1, w.2, rfl, S3.tab tTw, S3.tab tTa, S3.tab tTl, hk.same S3, hm.same S3, hc9.same S3, good_L gk, good_L gm, hL.1.1, by have := hL.1.2; omega, PapV.same hw2 S3, ft.len, ft.b, ft.sh, fun mt => ⟨ft.d0 mt, ?_⟩, fun H4 s4 => ⟨?_, (y.1.trans (same_new nT)).trans s4, (y.1.trans ((same_new nT).trans s4)).tab z.2⟩⟩
          · have a := ft.d1 mt
            have b := ft.d0 mt
            have := Int.mul_le_mul a hL.1.2 (Int.le_of_lt hL.1.1) (by decide)
            omega
          · show V.bl _ = V.bl (pB gg ls c9 _)
            rw [eb]
            rfl
        · have := q H3 (S2.trans y.1)
          rw [eB, show prsB gg ls c9 ws = false from by
            refine Bool.eq_false_iff.mpr fun e => ?_
            have m : ((prs ls.length).zip ws).getD i ((0, 0), ("", [])) ∈ (prs ls.length).zip ws := zip_getD (by omega)
            have := List.all_eq_true.mp e _ m
            rw [show pB gg ls c9 (((prs ls.length).zip ws).getD i ((0, 0), ("", []))) = false from hb] at this
            cases this] at this
          exact this
        · have := q H3 (S2.trans y.1)
          rw [eB, show prsB gg ls c9 ws = true from List.all_eq_true.mpr fun x hx => by
            obtain ⟨i, hi, rfl⟩ := List.getElem_of_mem hx
            have := hb i (by omega)
            rw [show (fun i => pB gg ls c9 (((prs ls.length).zip ws).getD i ((0, 0), ("", [])))) i = pB gg ls c9 (((prs ls.length).zip ws)[i]) from by simp [List.getD_eq_getElem?_getD, List.getElem?_eq_getElem hi]] at this
            exact this] at this
          exact this

end
end Cl

set_option maxHeartbeats 0
namespace Cl
open PySem PySem.Spec PyProof.Rows L2
open GxR (TabB TabG)


theorem unwB_ends {g : Int} {ls : List Ln} {c : Pt} (h : endsB g ls c = true) : ∀ {ow : Option (List PW2)}, unwB g ls c ow = false
  | none => rfl
  | some ws => by
    show (!endsB g ls c && _) = false
    rw [h]
    rfl
theorem inV_false {α : Type} (l : List α) (f : α → Bool) : l.all f = !inV (.bl false) (l.map fun q => V.bl (f q)) := by
  induction l with
  | nil => rfl
  | cons x r ih =>
    have e : inV (.bl false) ((x :: r).map fun q => V.bl (f q)) = (eqV (.bl (f x)) (.bl false) || inV (.bl false) (r.map fun q => V.bl (f q))) := rfl
    rw [e, List.all_cons, ih]
    cases f x <;> simp [eqV]
theorem cutV_drop (xs : List V) (k : Nat) : cutV xs (some (k : Nat)) none = xs.drop k := by
  unfold cutV
  rw [HT.sIx_none, show HT.sIx xs.length 0 (some ((k : Nat) : Int)) = min k xs.length from HT.sIx_nat _ _ k]
  by_cases h : k ≤ xs.length
  · rw [Nat.min_eq_left h, List.take_of_length_le (by rw [List.length_drop]; exact Nat.le_refl _)]
  · rw [Nat.min_eq_right (by omega), Nat.sub_self, List.take_zero, List.drop_eq_nil_of_le (by omega)]
def prsK (n k : Nat) : List (Nat × Nat) := (List.range k).flatMap fun k => (List.range (n - (k + 1))).map fun j => (k, k + 1 + j)
theorem prsK_all (n : Nat) : prsK n n = prs n := rfl
theorem prsK_succ (n k : Nat) : prsK n (k + 1) = prsK n k ++ (List.range (n - (k + 1))).map fun j => (k, k + 1 + j) := by
  unfold prsK
  rw [List.range_succ, List.flatMap_append, List.flatMap_singleton]
def AtPr (K : PySem.W.Frag) (H : Hp) (ls : List Ln) (v : V) (p : Nat × Nat) : Prop := ∃ a u w, v = .ref a ∧ SqT K H a [u, w] ∧ AtL K H u (gl ls p.1) ∧ AtL K H w (gl ls p.2)
theorem AtPr.same {K : PySem.W.Frag} {H H' : Hp} {ls : List Ln} {v : V} {p : Nat × Nat} (h : AtPr K H ls v p) (s : Same H H') : AtPr K H' ls v p := by
  obtain ⟨a, u, w, e, h1, h2, h3⟩ := h
  exact ⟨a, u, w, e, seT s h1, h2.same s, h3.same s⟩
theorem AtPr.upd {K : PySem.W.Frag} {H : Hp} {M : Addr} {xs : List V} {o : HO} {ls : List Ln} {v : V} {p : Nat × Nat} (h : AtPr K H ls v p) (e : H M = some (.lst xs)) : AtPr K (L2.upd H M o) ls v p := by
  obtain ⟨a, u, w, rfl, h1, h2, h3⟩ := h
  exact ⟨a, u, w, rfl, updT e h1, AtL.upd h2 e, AtL.upd h3 e⟩
def spUnwL (K : PySem.W.Frag) : Sp := fun vs H Q _ => ∃ g u v w ls c ow, vs = [.int g, u, v, w] ∧ Lns K H g u ls ∧ At2 K H v c ∧ ThU K H w ow ∧ OkU ls ow ∧ ∀ H', Same H H' → Q (.bl (unwB g ls c ow)) H'

section
variable {P : Program} {w : World} {K : PySem.W.Frag} {mg : Str → Option Value} {base : Heap}

theorem ok_law_is_unwanted {f : Addr} {fd : FuncData} (F : Fun K "_law_is_unwanted" "_law_is_unwanted" s_law_is_unwanted f fd) (T : Bt mg) (D_law_nearest : Def P w K mg base 1 "_law_nearest" ["_law_grain_here", "_law_spot"] (spNearN K)) (D_law_pair_so : Def P w K mg base 3 "_law_pair_so" ["_law_grain_here", "_law_one", "_law_other", "_law_corner", "_law_thing"] (spPairL K)) :
    FnG P w K mg base CX0 4 f fd ["_law_grain_here", "_law_lines_here", "_law_corner", "_law_thing"] (spUnwL K) := by
  refine okG (k := 3) F sc_law_is_unwanted (fun vs H Q E h => ?_) (fun cdv A outer s H vs Q E hr h => ?_)
  · obtain ⟨gg, u, v, w, ls, c, ow, rfl, _⟩ := h
    rfl
  · obtain ⟨gg, u, v, w, ls, c, ow, rfl, hL, hc, hth, hok, q⟩ := h
    refine ⟨_, (pss_cons (ps_set (i := 4) sc_law_is_unwanted.nd rfl (.inl rfl) (lstN pa_nil))
      (pss_cons (ps_for PassesOwn.never rfl (pi_range1 (by rfl) T.range (pa_cons (pe_callB call_len_seq (by rfl) T.len (by decide +kernel) (pa_cons (pv 1) pa_nil)) pa_nil)) (pg_name (i := 5) sc_law_is_unwanted.nd rfl (.inr rfl)) (pss_one (ps_expr (pe_bm PySem.F.plainAttrs_list PySem.F.slot_list_extend PySem.F.type_list_extend mt_extend (pv 4) (pa_cons (pe_lc (own := [("_law_other", 6)]) (g := gName 6) (tt := tYes) (by rfl) sc_law_is_unwanted.nd (pi_tup (pe_slice sl_tupN (pv 1) (po_some (pe_op op_add (pv 5) pe_int)) po_none)) (blkOk_by (own := [("_law_other", 6)]) (N := ["_law_grain_here", "_law_lines_here", "_law_corner", "_law_thing", "_law_pairs", "_law_k", "_law_other", "_law_line_here", "_law_point_here", "_law_found", "_law_pair", "_law_part"]) (sc := defScope s_law_is_unwanted) (by decide +kernel)) (fun _ _ _ _ _ => (pg_name (i := 6) sc_law_is_unwanted.nd rfl (.inl rfl))) (fun _ _ _ _ _ => pts_nil) (fun _ _ _ _ _ => (tupN (pa_cons (pe_ix (ix_tupk (K := K) rfl) (pv 1) (pv 5) (fun _ _ => rfl)) (pa_cons (pv 6) pa_nil))))) pa_nil)))))
      (pss_cons (ps_for PassesOwn.never rfl (pi_tup (pv 1)) (pg_name (i := 7) sc_law_is_unwanted.nd rfl (.inl rfl)) (pss_one (ps_if (pt_cmpR (op_inP hr.room.units) (pv 2) (pe_lc (own := [("_law_point_here", 8)]) (g := gName 8) (tt := tYes) (by rfl) sc_law_is_unwanted.nd (pi_tup (pv 7)) (blkOk_by (own := [("_law_point_here", 8)]) (N := ["_law_grain_here", "_law_lines_here", "_law_corner", "_law_thing", "_law_pairs", "_law_k", "_law_other", "_law_line_here", "_law_point_here", "_law_found", "_law_pair", "_law_part"]) (sc := defScope s_law_is_unwanted) (by decide +kernel)) (fun _ _ _ _ _ => (pg_name (i := 8) sc_law_is_unwanted.nd rfl (.inl rfl))) (fun _ _ _ _ _ => pts_nil) (fun _ _ _ _ _ => (callD D_law_nearest (hr.mono (by decide)) (pa_cons (pv 0) (pa_cons (pe_op (op_catTNk (K := K) rfl) (pv 8) (tupN (pa_cons pe_int pa_nil))) pa_nil))))) (by rfl)) (pss_one (ps_ret pe_bl)) pss_nil)))
      (pss_cons (ps_if (PW.pt (pw_or (pt_not (pt_val (pe_callB call_isi (by rfl) T.isinstance (by decide +kernel) (pa_cons (pv 3) (pa_cons (pe_bltn (v := .ty "tuple") (by rfl) T.tuple (by decide +kernel) rfl) pa_nil))))) (pw_or1 (pt_cmpR op_ne (pe_callB call_len_seq (by rfl) T.len (by decide +kernel) (pa_cons (pv 3) pa_nil)) (pe_callB call_len_seq (by rfl) T.len (by decide +kernel) (pa_cons (pv 4) pa_nil)) (nomark _))))) (pss_one (ps_ret pe_bl)) pss_nil)
      (pss_cons (ps_setLc (i := 9) (own := [("_law_pair", 10), ("_law_part", 11)]) (g := gTup K 2 (gCons (gName 10) (gCons (gName 11) gNil))) (tt := tYes) (by rfl) sc_law_is_unwanted.nd rfl rfl (sw_true rfl rfl rfl (by decide +kernel)) (pi_zipM (by rfl) T.zip (pa_cons (pv 4) (pa_cons (pv 3) pa_nil))) (blkOk_by (own := [("_law_pair", 10), ("_law_part", 11)]) (N := ["_law_grain_here", "_law_lines_here", "_law_corner", "_law_thing", "_law_pairs", "_law_k", "_law_other", "_law_line_here", "_law_point_here", "_law_found", "_law_pair", "_law_part"]) (sc := defScope s_law_is_unwanted) (by decide +kernel)) (fun _ _ _ _ _ => (pg_tup (by rfl) (pgs_cons (pg_name (i := 10) sc_law_is_unwanted.nd rfl (.inl rfl)) (pgs_cons (pg_name (i := 11) sc_law_is_unwanted.nd rfl (.inl rfl)) pgs_nil)))) (fun _ _ _ _ _ => pts_nil) (fun _ _ _ _ _ => (callD D_law_pair_so (hr.mono (by decide)) (pa_cons (pv 0) (pa_cons (pe_ix (ix_tupk (K := K) rfl) (pv 10) pe_int (fun _ _ => rfl)) (pa_cons (pe_ix (ix_tupk (K := K) rfl) (pv 10) pe_int (fun _ _ => rfl)) (pa_cons (pv 2) (pa_cons (pv 11) pa_nil))))))))
      (pss_one (ps_ret (pe_cmpR op_notIn_seq pe_bl (pv 9) (by rfl))))))))), ?_⟩
    obtain ⟨al, vl, rfl, hSl, hAl⟩ := id hL.2.1
    have l12 := hL.2.2.1
    have lv := hAl.length
    refine ⟨Nat.zero_le _, fun L H1 nL s1 e1 => ?_⟩
    refine ⟨_, rfl, al, vl, rfl, .inr (seT s1 hSl), ls.length, by rw [lv], by omega, by omega, for_range (n := ls.length) (fun i σ H' => ∃ y5 y6 y7 y8 y9 y10 y11, σ = [some (.int gg), some (.ref al), some v, some w, some (.ref L), y5, y6, y7, y8, y9, y10, y11] ∧ Same H H' ∧ ∃ us, H' L = some (.lst us) ∧ AllAt (AtPr K H' ls) us (prsK ls.length i)) ?_ ?_ ?_⟩
    · exact ⟨_, _, _, _, _, _, _, rfl, s1, [], e1, .nil⟩
    · rintro i σ H2 hi ⟨y5, y6, y7, y8, y9, y10, y11, rfl, s2, us, eL, all⟩
      refine ⟨.ref L, rfl, .inl ⟨rfl, _, .inl (.inl eL)⟩, ?_⟩
      have e0 : (0 + (i : Int)) + 1 = ((i + 1 : Nat) : Int) := by omega
      refine ⟨.ref al, rfl, _, rfl, _, _, rfl, rfl, _, rfl, al, vl, rfl, seT s2 hSl, ?_, fun pc H3 n3 s3 e3 => ⟨pc, rfl, ⟨_, .inl (.inl e3)⟩, fun pD nD => ?_⟩⟩
      · rw [e0]
        intro z
        have := z.1
        rw [show HT.sIx vl.length 0 (some ((i + 1 : Nat) : Int)) = min (i + 1) vl.length from HT.sIx_nat _ _ (i + 1)] at this
        omega
      rw [e0, cutV_drop] at e3
      have all3 := all.map fun _ _ z => AtPr.same z s3
      have lall := all.length
      have lk : (prsK ls.length i).length ≤ 144 := by
        unfold prsK
        have : ∀ m, ((List.range m).flatMap fun k => (List.range (ls.length - (k + 1))).map fun j => (k, k + 1 + j)).length ≤ m * 12 := fun m => by
          induction m with
          | zero => simp
          | succ m ih =>
            rw [List.range_succ, List.flatMap_append, List.flatMap_singleton, List.length_append, List.length_map, List.length_range]
            omega
        have := this i
        omega
      refine lcT (K := K) (a := pc) (xs := vl.drop (i + 1)) (fun j H' => Same H3 H' ∧ ∃ ws, H' pD = some (.lst ws) ∧ AllAt (AtPr K H' ls) ws (((List.range (ls.length - (i + 1))).map fun j => (i, i + 1 + j)).take j)) nD (fun H' e1 e2 => ⟨e1, [], e2, .nil⟩) (fun j H' _ z => .inl (.inl (z.1 _ _ e3))) (fun j x H' hx z => ?_) (fun H5 z => ?_)
      · obtain ⟨z1, ws, z2, z3⟩ := z
        rw [List.getElem?_drop] at hx
        obtain ⟨l, hl, hx2⟩ := hAl.get hx
        have il := (List.getElem?_eq_some_iff.mp hl).1
        have el : l = gl ls (i + 1 + j) := Option.some.inj (hl.symm.trans (gl_at il))
        subst el
        obtain ⟨vk, ek, hk⟩ := hAl.at_ (gl_at hi)
        have S3 := s2.trans (s3.trans z1)
        have l3 := z3.length
        rw [List.length_take, List.length_map, List.length_range] at l3
        refine ⟨rfl, _, rfl, _, rfl, al, _, _, vk, rfl, rfl, seT S3 hSl, by rw [Int.zero_add]; exact atI_nat ek, _, rfl, (by show 2 ≤ sizeLine; decide), fun p4 H4 n4 s4 e4 => ?_⟩
        obtain ⟨acc, a1, a2, a3, a4⟩ := acc_new (y := V.ref p4) nD (z1.trans s4) (s4 _ _ z2) (by omega)
        refine ⟨acc, a1, a2, a3, _, a4, ?_⟩
        rw [List.take_add_one, show ((List.range (ls.length - (i + 1))).map fun j => (i, i + 1 + j))[j]? = some (i, i + 1 + j) from by
          rw [List.getElem?_map, List.getElem?_range (by omega)]
          rfl]
        exact (z3.map fun _ _ y => (AtPr.same y s4).upd a1).app (.cons (AtPr.upd ⟨p4, _, _, rfl, .inl (.inl e4), hk.same (S3.trans s4), hx2.same (S3.trans s4)⟩ a1) .nil)
      · obtain ⟨z1, ws, z2, z3⟩ := z
        have l3 := z3.length
        rw [List.length_take, List.length_map, List.length_range] at l3
        have e5 : H5 L = some (.lst us) := z1 _ _ (s3 _ _ eL)
        refine ⟨L, pD, us, ws, rfl, rfl, e5, z2, Nat.le_of_lt (small1000 (by omega)), _, _, _, _, _, _, _, rfl, ((s2.trans (s3.trans z1)).upN nL), us ++ ws, upd_same, ?_⟩
        rw [prsK_succ]
        refine (all3.map fun _ _ y => (AtPr.same y z1).upd e5).app ?_
        have z4 := z3.map fun _ _ (y : AtPr K H5 ls _ _) => y.upd (o := .lst (us ++ ws)) e5
        rw [List.take_of_length_le (by rw [List.length_map, List.length_range, List.length_drop]; omega)] at z4
        exact z4
    · rintro σ2 H2 ⟨y5, y6, y7, y8, y9, y10, y11, rfl, s2, us, eL, all⟩
      rw [prsK_all] at all
      refine ⟨_, rfl, al, rfl, ⟨_, seT s2 hSl⟩, for_tup (K := K) (a := al) (xs := vl) (fun i σ H' => ∃ y5 y6 y7 y8 y9 y10 y11, σ = [some (.int gg), some (.ref al), some v, some w, some (.ref L), y5, y6, y7, y8, y9, y10, y11] ∧ Same H2 H' ∧ ∀ j, j < i → enB gg (gl ls j) c = false) ?_ ?_ ?_ ?_⟩
      · exact ⟨_, _, _, _, _, _, _, rfl, .refl _, fun j hj => absurd hj (Nat.not_lt_zero _)⟩
      · rintro i σ H' _ ⟨_, _, _, _, _, _, _, _, z, _⟩
        exact seT (s2.trans z) hSl
      · rintro i x σ H3 hx ⟨y5, y6, y7, y8, y9, y10, y11, rfl, z, hno⟩
        obtain ⟨l, hl, hx2⟩ := hAl.get hx
        have il := (List.getElem?_eq_some_iff.mp hl).1
        have el : l = gl ls i := Option.some.inj (hl.symm.trans (gl_at il))
        subst el
        have S3 := s2.trans z
        obtain ⟨b, p, q9, rfl, hb, hp, hq9⟩ := hx2.same S3
        refine ⟨_, rfl, _, rfl, b, rfl, ⟨_, hb⟩, fun pD nD => ?_⟩
        refine lcT (K := K) (a := b) (xs := [p, q9]) (fun j H' => Same H3 H' ∧ ∃ ws, H' pD = some (.lst ws) ∧ AllAt (At2 K H') ws (([(gl ls i).1, (gl ls i).2].take j).map (crn gg))) nD (fun H' e1 e2 => ⟨e1, [], e2, .nil⟩) (fun j H' _ z => seT z.1 hb) (fun j x H' hx z1 => ?_) (fun H5 z1 => ?_)
        · obtain ⟨z1, ws, z2, z3⟩ := z1
          obtain ⟨pt, ept, hpt⟩ : ∃ pt, [(gl ls i).1, (gl ls i).2][j]? = some pt ∧ At2 K H' x pt := by
            rcases j with _ | _ | j
            · cases hx; exact ⟨_, rfl, hp.same z1⟩
            · cases hx; exact ⟨_, rfl, hq9.same z1⟩
            · simp at hx
          obtain ⟨b2, rfl, hb2⟩ := hpt
          have l3 := z3.length
          rw [List.length_map, List.length_take] at l3
          refine ⟨rfl, _, rfl, _, rfl, (by show 1 ≤ sizeLine; decide), fun p4 H4 n4 s4 e4 => ⟨b2, p4, _, _, rfl, rfl, seT s4 hb2, .inl (.inl e4), by simp, by simp, (by show 3 ≤ sizeLine; decide), fun p5 H6 n5 s5 e5 => ?_⟩⟩
          refine ⟨gg, .ref p5, (pt.1, pt.2, 1), rfl, ⟨p5, rfl, .inl (.inl e5)⟩, hL.1.1, hL.1.2, (by show (0 : Int) < 1; decide), (by show (1 : Int) ≤ 2 ^ 46; decide), fun p6 H7 n6 s6 e6 => ?_⟩
          have e6 : H7 p6 = some (.tup [.int (nr pt.1 (1 * gg)), .int (nr pt.2 (1 * gg))]) := e6
          rw [Int.one_mul] at e6
          have s47 := s4.trans (s5.trans s6)
          obtain ⟨acc, a1, a2, a3, a4⟩ := acc_new (y := V.ref p6) nD (z1.trans s47) (s47 _ _ z2) (by simp at l3; omega)
          refine ⟨acc, a1, a2, a3, _, a4, ?_⟩
          rw [List.take_add_one, ept, List.map_append]
          exact (z3.map fun _ _ y => At2.upd (At2.same y s47) a1).app (.cons (At2.upd ⟨p6, rfl, .inl (.inl e6)⟩ a1) .nil)
        · obtain ⟨z1, ws, z2, z3⟩ := z1
          have S5 := S3.trans z1
          refine ⟨c, _, pD, ws, hc.same S5, rfl, .inl (.inl (.inl z2)), z3, _, rfl, ?_⟩
          have eB : decide (c ∈ ([(gl ls i).1, (gl ls i).2].take [p, q9].length).map (crn gg)) = enB gg (gl ls i) c := by
            show decide (c ∈ [crn gg (gl ls i).1, crn gg (gl ls i).2]) = (decide (crn gg (gl ls i).1 = c) || decide (crn gg (gl ls i).2 = c))
            rw [Bool.eq_iff_iff]
            simp only [decide_eq_true_eq, Bool.or_eq_true, List.mem_cons, List.not_mem_nil, or_false]
            exact ⟨fun h => h.imp Eq.symm Eq.symm, fun h => h.imp Eq.symm Eq.symm⟩
          rw [eB]
          refine ite2 (fun e => ?_) (fun e => ?_)
          · have := q H5 S5
            rw [unwB_ends (List.any_eq_true.mpr ⟨_, gl_mem il, e⟩)] at this
            exact this
          · refine ⟨_, _, _, _, _, _, _, rfl, z.trans z1, fun j hj => ?_⟩
            rcases Nat.lt_succ_iff_lt_or_eq.mp hj with h | h
            · exact hno j h
            · rw [h]; exact Bool.eq_false_iff.mpr e
      · rintro σ H3 ⟨y5, y6, y7, y8, y9, y10, y11, rfl, z, hno⟩
        have S3 := s2.trans z
        have nE : endsB gg ls c = false := by
          refine Bool.eq_false_iff.mpr fun e => ?_
          obtain ⟨l, hl, e⟩ := List.any_eq_true.mp e
          obtain ⟨i, hi, rfl⟩ := List.getElem_of_mem hl
          have el : gl ls i = ls[i] := Option.some.inj ((gl_at hi).symm.trans (List.getElem?_eq_getElem hi))
          have := hno i (by omega)
          rw [show enB gg (gl ls i) c = true from by rw [el]; exact e] at this
          cases this
        cases ow with
        | none =>
          have hw : w = .non := hth
          subst hw
          have kn : Kd K H3 .non "NoneType" := .non
          exact ⟨_, rfl, _, _, _, _, _, rfl, .ty _, kn.ty, kit_ty kn.tuple?, _, rfl, iteT (q H3 S3)⟩
        | some wz =>
          obtain ⟨a, ts, rfl, hSu, hAu⟩ := hth
          have hSu3 := seT S3 hSu
          have eL3 : H3 L = some (.lst us) := z _ _ eL
          have lu := hAu.length
          have lp := all.length
          have lw := hok.1
          have lp2 := prs_len l12
          have ne : (!decide (V.int (ts.length : Int) = V.int (us.length : Int))) = false := by
            rw [show ts.length = us.length by omega]
            simp
          have lz : ((prs ls.length).zip wz).length = us.length := by rw [List.length_zip]; omega
          refine ⟨_, rfl, _, _, _, _, _, rfl, .ty _, (Kd.tup hSu3).ty, kit_ty (Kd.tup hSu3).tuple?, _, rfl, iteF ⟨_, rfl, a, ts, rfl, .inr hSu3, _, rfl, L, us, rfl, .inl (.inl (.inl eL3)), rfl, _, rfl, ite2 (fun e => absurd e (by rw [ne]; decide)) (fun _ => ?_)⟩⟩
          refine ⟨_, rfl, _, rfl, L, a, us, ts, rfl, .inl (.inl eL3), hSu3, fun pD nD => ?_⟩
          refine lcZM (K := K) (a := L) (b := a) (xs := us) (ys := ts) (n := us.length) (by omega) (fun i Hx => Same H3 Hx ∧ Hx pD = some (.lst ((((prs ls.length).zip wz).take i).map fun q => V.bl (pB gg ls c q)))) nD (fun Hx e1 e2 => ⟨e1, e2⟩) (fun i Hx _ y => ⟨.inl (.inl (y.1 _ _ eL3)), seT y.1 hSu3⟩) (fun i x Hx Hy hi y hy => ?_) (fun H9 y => ?_)
          · obtain ⟨y1, y2⟩ := y
            obtain ⟨T9, vx, vy, rfl, hT, rfl, hx, hy⟩ := hy
            have sT : Same Hx (upd Hx T9 (.tup [vx, vy])) := same_new hT
            have S4 := S3.trans (y1.trans sT)
            obtain ⟨p, hp, bp, v1, v2, rfl, hbp, h1, h2⟩ := all.get hx
            obtain ⟨q2, hq2, hw2⟩ := hAu.get hy
            obtain ⟨p1, p2⟩ := prs_mem (List.mem_of_getElem? hp)
            have gk := hL.2.2.2 _ (gl_mem (show p.1 < ls.length by omega))
            have gm := hL.2.2.2 _ (gl_mem p2)
            have ft := paper_fit gk gm (hok.2 i p q2 hp hq2)
            have S24 := z.trans (y1.trans sT)
            have hbp4 := seT S24 hbp
            refine ⟨T9, _, rfl, .inl (.inl upd_same), rfl, _, _, rfl, _, _, rfl, rfl, ?_⟩
            refine ⟨rfl, _, rfl, _, rfl, bp, _, 0, _, rfl, rfl, hbp4, rfl, _, rfl, bp, _, 1, _, rfl, rfl, hbp4, rfl, _, rfl, _, rfl, ?_⟩
            refine ⟨gg, v1, v2, v, vy, gl ls p.1, gl ls p.2, c, q2.1, q2.2, rfl, h1.same S24, h2.same S24, hc.same S4, good_L gk, good_L gm, hL.1.1, hL.1.2, PapV.same hw2 S4, ft.len, ft.b, ft.sh, ft.m1, fun H5 s5 => ?_⟩
            obtain ⟨acc, a1, a2, a3, a4⟩ := acc_new (y := V.bl (phB gg (gl ls p.1) (gl ls p.2) c q2.1 q2.2)) nD (y1.trans (sT.trans s5)) (s5 _ _ (sT _ _ y2)) (by rw [List.length_map, List.length_take]; omega)
            refine ⟨acc, a1, a2, a3, ?_⟩
            rw [a4, List.take_add_one, show ((prs ls.length).zip wz)[i]? = some (p, q2) from by
              rw [List.getElem?_zip_eq_some]
              exact ⟨hp, hq2⟩, List.map_append]
            rfl
          · obtain ⟨y1, y2⟩ := y
            rw [← lz, List.take_length] at y2
            have := q H9 (S3.trans y1)
            refine ⟨_, rfl, pD, _, rfl, .inl (.inl (.inl y2)), rfl, by rw [List.all_map]; exact List.all_eq_true.mpr fun _ _ => rfl, ?_⟩
            rw [show unwB gg ls c (some wz) = !inV (.bl false) (((prs ls.length).zip wz).map fun q => V.bl (pB gg ls c q)) from by
              show (!endsB gg ls c && prsB gg ls c wz) = _
              rw [nE]
              show prsB gg ls c wz = _
              exact inV_false ((prs ls.length).zip wz) (pB gg ls c)] at this
            exact this

end
end Cl

namespace Cl
/-! ### where a line misses a cell, one of six ways lies beyond -/
def In1 (L U a b P Q : Int) : Prop := L * Q ≤ a * Q + b * P ∧ a * Q + b * P < U * Q
theorem lin_nn {a b P1 Q1 P2 Q2 P3 Q3 : Int} (q1 : 0 < Q1) (q2 : 0 < Q2) (q3 : 0 < Q3) (h12 : P1 * Q2 ≤ P2 * Q1) (h23 : P2 * Q3 ≤ P3 * Q2) (e1 : 0 ≤ a * Q1 + b * P1) (e3 : 0 ≤ a * Q3 + b * P3) : 0 ≤ a * Q2 + b * P2 := by
  refine Int.not_lt.mp fun z => ?_
  by_cases hb : 0 ≤ b
  · have k1 := Int.mul_nonneg e1 (Int.le_of_lt q2)
    have k2 := Int.mul_le_mul_of_nonneg_left h12 hb
    have k3 : (a * Q2 + b * P2) * Q1 = (a * Q1 + b * P1) * Q2 + (b * (P2 * Q1) - b * (P1 * Q2)) := by grind
    have k4 := Int.mul_neg_of_neg_of_pos z q1
    omega
  · have k1 := Int.mul_nonneg e3 (Int.le_of_lt q2)
    have k2 := Int.mul_le_mul_of_nonpos_left (show b ≤ 0 by omega) h23
    have k3 : (a * Q2 + b * P2) * Q3 = (a * Q3 + b * P3) * Q2 + (b * (P2 * Q3) - b * (P3 * Q2)) := by grind
    have k4 := Int.mul_neg_of_neg_of_pos z q3
    omega
theorem lin_pos {a b P1 Q1 P2 Q2 P3 Q3 : Int} (q1 : 0 < Q1) (q2 : 0 < Q2) (q3 : 0 < Q3) (h12 : P1 * Q2 ≤ P2 * Q1) (h23 : P2 * Q3 ≤ P3 * Q2) (e1 : 0 < a * Q1 + b * P1) (e3 : 0 < a * Q3 + b * P3) : 0 < a * Q2 + b * P2 := by
  refine Int.not_le.mp fun z => ?_
  by_cases hb : 0 ≤ b
  · have k1 := Int.mul_pos e1 q2
    have k2 := Int.mul_le_mul_of_nonneg_left h12 hb
    have k3 : (a * Q2 + b * P2) * Q1 = (a * Q1 + b * P1) * Q2 + (b * (P2 * Q1) - b * (P1 * Q2)) := by grind
    have k4 := Int.mul_nonneg (show 0 ≤ -(a * Q2 + b * P2) by omega) (Int.le_of_lt q1)
    rw [Int.neg_mul] at k4
    omega
  · have k1 := Int.mul_pos e3 q2
    have k2 := Int.mul_le_mul_of_nonpos_left (show b ≤ 0 by omega) h23
    have k3 : (a * Q2 + b * P2) * Q3 = (a * Q3 + b * P3) * Q2 + (b * (P2 * Q3) - b * (P3 * Q2)) := by grind
    have k4 := Int.mul_nonneg (show 0 ≤ -(a * Q2 + b * P2) by omega) (Int.le_of_lt q3)
    rw [Int.neg_mul] at k4
    omega
def Cvx (A : Int → Int → Prop) : Prop := ∀ P1 Q1 P2 Q2 P3 Q3, 0 < Q1 → 0 < Q2 → 0 < Q3 → P1 * Q2 ≤ P2 * Q1 → P2 * Q3 ≤ P3 * Q2 → A P1 Q1 → A P3 Q3 → A P2 Q2
theorem in1_cvx {L U a b : Int} : Cvx (In1 L U a b) := by
  intro P1 Q1 P2 Q2 P3 Q3 q1 q2 q3 h12 h23 ⟨e1, e2⟩ ⟨e3, e4⟩
  have k1 := lin_nn (a := a - L) (b := b) q1 q2 q3 h12 h23 (by rw [Int.sub_mul]; omega) (by rw [Int.sub_mul]; omega)
  have k2 := lin_pos (a := U - a) (b := -b) q1 q2 q3 h12 h23 (by rw [Int.sub_mul, Int.neg_mul]; omega) (by rw [Int.sub_mul, Int.neg_mul]; omega)
  rw [Int.sub_mul] at k1
  rw [Int.sub_mul, Int.neg_mul] at k2
  exact ⟨by omega, by omega⟩
theorem seg_cvx : Cvx fun P Q => 0 ≤ P ∧ P ≤ Q := by
  intro P1 Q1 P2 Q2 P3 Q3 q1 q2 q3 h12 h23 ⟨e1, e2⟩ ⟨e3, e4⟩
  have k1 := lin_nn (a := 0) (b := 1) q1 q2 q3 h12 h23 (by omega) (by omega)
  have k2 := lin_nn (a := 1) (b := -1) q1 q2 q3 h12 h23 (by omega) (by omega)
  exact ⟨by omega, by omega⟩
/-- three convex sets of shares, each two of them with one in common, have one in common -/
theorem helly {A B C : Int → Int → Prop} (cA : Cvx A) (cB : Cvx B) (cC : Cvx C) {P1 Q1 P2 Q2 P3 Q3 : Int} (q1 : 0 < Q1) (q2 : 0 < Q2) (q3 : 0 < Q3) (a1 : A P1 Q1) (b1 : B P1 Q1) (b2 : B P2 Q2) (c2 : C P2 Q2) (a3 : A P3 Q3) (c3 : C P3 Q3) :
    ∃ P Q, 0 < Q ∧ A P Q ∧ B P Q ∧ C P Q := by
  rcases Int.le_total (P1 * Q2) (P2 * Q1) with x | x
  · rcases Int.le_total (P2 * Q3) (P3 * Q2) with y | y
    · exact ⟨P2, Q2, q2, cA _ _ _ _ _ _ q1 q2 q3 x y a1 a3, b2, c2⟩
    · rcases Int.le_total (P1 * Q3) (P3 * Q1) with z | z
      · exact ⟨P3, Q3, q3, a3, cB _ _ _ _ _ _ q1 q3 q2 z y b1 b2, c3⟩
      · exact ⟨P1, Q1, q1, a1, b1, cC _ _ _ _ _ _ q3 q1 q2 z x c3 c2⟩
  · rcases Int.le_total (P1 * Q3) (P3 * Q1) with z | z
    · exact ⟨P1, Q1, q1, a1, b1, cC _ _ _ _ _ _ q2 q1 q3 x z c2 c3⟩
    · rcases Int.le_total (P2 * Q3) (P3 * Q2) with y | y
      · exact ⟨P3, Q3, q3, a3, cB _ _ _ _ _ _ q2 q3 q1 y z b2 b1, c3⟩
      · exact ⟨P2, Q2, q2, cA _ _ _ _ _ _ q3 q2 q1 y x a3 a1, b2, c2⟩
theorem in_seg {L U a b : Int} (hLU : L < U) (h1 : a < U ∨ a + b < U) (h2 : L ≤ a ∨ L ≤ a + b) : ∃ P Q, 0 < Q ∧ (0 ≤ P ∧ P ≤ Q) ∧ In1 L U a b P Q := by
  unfold In1
  by_cases c0 : L ≤ a ∧ a < U
  · exact ⟨0, 1, by omega, by omega, by omega, by omega⟩
  by_cases c1 : L ≤ a + b ∧ a + b < U
  · exact ⟨1, 1, by omega, by omega, by omega, by omega⟩
  by_cases c2 : a < L
  · have hb : 0 < b := by omega
    have e : a * b + b * (L - a) = L * b := by grind
    refine ⟨L - a, b, hb, ⟨by omega, by omega⟩, by rw [e]; exact Int.le_refl _, ?_⟩
    rw [e]
    exact Int.mul_lt_mul_of_pos_right hLU hb
  · have hb : 0 < -b := by omega
    have e : a * -b + b * (a - L) = L * -b := by grind
    refine ⟨a - L, -b, hb, ⟨by omega, by omega⟩, by rw [e]; exact Int.le_refl _, ?_⟩
    rw [e]
    exact Int.mul_lt_mul_of_pos_right hLU hb
/-- a straight line that goes to the right, rising -/
theorem both_up {L1 U1 L2 U2 a b c d : Int} (hb : 0 < b) (hd : 0 < d) (u1 : L1 < U1) (u2 : L2 < U2) (h1 : b * c + d * L1 < b * U2 + d * a) (h2 : d * a + b * L2 < d * U1 + b * c) : ∃ P Q, 0 < Q ∧ In1 L1 U1 a b P Q ∧ In1 L2 U2 c d P Q := by
  unfold In1
  by_cases k : b * L2 ≤ b * c + d * L1 - d * a
  · have e1 : a * b + b * (L1 - a) = L1 * b := by grind
    have e2 : c * b + d * (L1 - a) = b * c + d * L1 - d * a := by grind
    refine ⟨L1 - a, b, hb, ⟨by rw [e1]; exact Int.le_refl _, by rw [e1]; exact Int.mul_lt_mul_of_pos_right u1 hb⟩, by rw [e2, Int.mul_comm L2]; exact k, by rw [e2, Int.mul_comm U2]; omega⟩
  · have e1 : c * d + d * (L2 - c) = L2 * d := by grind
    have e2 : a * d + b * (L2 - c) = d * a + b * L2 - b * c := by grind
    refine ⟨L2 - c, d, hd, ⟨by rw [e2, Int.mul_comm L1]; omega, by rw [e2, Int.mul_comm U1]; omega⟩, by rw [e1]; exact Int.le_refl _, by rw [e1]; exact Int.mul_lt_mul_of_pos_right u2 hd⟩
/-- one that goes to the right, falling by e -/
theorem both_down {L1 U1 L2 U2 a b c e : Int} (hb : 0 < b) (he : 0 < e) (u1 : L1 < U1) (u2 : L2 < U2) (h3 : e * a + b * c < e * U1 + b * U2) (h4 : e * L1 + b * L2 ≤ e * a + b * c) : ∃ P Q, 0 < Q ∧ In1 L1 U1 a b P Q ∧ In1 L2 U2 c (-e) P Q := by
  unfold In1
  have m1 := Int.mul_lt_mul_of_pos_left u1 he
  have m2 := Int.mul_lt_mul_of_pos_left u2 hb
  by_cases k : b * c + e * a < b * U2 + e * L1
  · have e1 : a * b + b * (L1 - a) = L1 * b := by grind
    have e2 : c * b + -e * (L1 - a) = b * c - e * L1 + e * a := by grind
    refine ⟨L1 - a, b, hb, ⟨by rw [e1]; exact Int.le_refl _, by rw [e1]; exact Int.mul_lt_mul_of_pos_right u1 hb⟩, by rw [e2, Int.mul_comm L2]; omega, by rw [e2, Int.mul_comm U2]; omega⟩
  by_cases k2 : e * a + b * c < e * U1 + b * L2
  · have e1 : c * e + -e * (c - L2) = L2 * e := by grind
    have e2 : a * e + b * (c - L2) = e * a + b * c - b * L2 := by grind
    refine ⟨c - L2, e, he, ⟨by rw [e2, Int.mul_comm L1]; omega, by rw [e2, Int.mul_comm U1]; omega⟩, by rw [e1]; exact Int.le_refl _, by rw [e1]; exact Int.mul_lt_mul_of_pos_right u2 he⟩
  · have e1 : a * (2 * b * e) + b * ((c - U2) * b + (U1 - a) * e) = (e * a + b * c - b * U2 + e * U1) * b := by grind
    have e2 : c * (2 * b * e) + -e * ((c - U2) * b + (U1 - a) * e) = (b * c + b * U2 - e * U1 + e * a) * e := by grind
    have f1 : L1 * (2 * b * e) = (2 * (e * L1)) * b := by grind
    have f2 : U1 * (2 * b * e) = (2 * (e * U1)) * b := by grind
    have f3 : L2 * (2 * b * e) = (2 * (b * L2)) * e := by grind
    have f4 : U2 * (2 * b * e) = (2 * (b * U2)) * e := by grind
    refine ⟨(c - U2) * b + (U1 - a) * e, 2 * b * e, Int.mul_pos (by omega) he, ⟨?_, ?_⟩, ?_, ?_⟩
    · rw [e1, f1]
      exact Int.mul_le_mul_of_nonneg_right (by omega) (Int.le_of_lt hb)
    · rw [e1, f2]
      exact Int.mul_lt_mul_of_pos_right (by omega) hb
    · rw [e2, f3]
      exact Int.mul_le_mul_of_nonneg_right (by omega) (Int.le_of_lt he)
    · rw [e2, f4]
      exact Int.mul_lt_mul_of_pos_right (by omega) he
end Cl

namespace Cl
open PySem PySem.Spec PyProof.Rows L2
section
variable {X : Cx}
theorem bool_beq (a b : Bool) : (Value.bool a == Value.bool b) = decide (a = b) := by
  cases a <;> cases b <;> rfl
theorem op_isB : OpR X (compareOp .Is) (fun x y H Q => ∃ a b, x = .bl a ∧ y = .bl b ∧ Q (.bl (decide (a = b))) H) := by
  intro pins s σ H x y v u Q I rx ry h
  obtain ⟨a, b, rfl, rfl, q⟩ := h
  cases rx
  cases ry
  exact wpAny_is_plain rfl (fin_bl I q (bool_beq a b).symm)
theorem op_isNotB : OpR X (compareOp .IsNot) (fun x y H Q => ∃ a b, x = .bl a ∧ y = .bl b ∧ Q (.bl (!decide (a = b))) H) := by
  intro pins s σ H x y v u Q I rx ry h
  obtain ⟨a, b, rfl, rfl, q⟩ := h
  cases rx
  cases ry
  exact wpAny_isNot_plain rfl (fin_bl I q (congrArg not (bool_beq a b).symm))
end
end Cl

set_option maxHeartbeats 0
namespace Cl
open PySem PySem.Spec PyProof.Rows L2
open GxR (TabB TabG)


def papD (w : PW2) : PyData := .tuple (.str w.1 :: w.2.map PyData.int)
def papUD (ws : List PW2) : PyData := .tuple (ws.map papD)
theorem papV_dp {K : PySem.W.Frag} {H : Hp} {v : V} {w : PW2} (h : PapV K H v w) : Dp K H v (papD w) := by
  obtain ⟨a, rfl, h⟩ := h
  exact .tup h (.cons (.str _) (dps_ints _))
theorem papVs_dp {K : PySem.W.Frag} {H : Hp} : ∀ {us : List V} {ws : List PW2}, AllAt (PapV K H) us ws → DpAll K H us (ws.map papD)
  | _, _, .nil => .nil
  | _, _, .cons h t => .cons (papV_dp h) (papVs_dp t)
theorem papU_dp {K : PySem.W.Frag} {H : Hp} {v : V} {ws : List PW2} (h : PapU K H v ws) : Dp K H v (papUD ws) := by
  obtain ⟨a, us, rfl, h1, h2⟩ := h
  exact .tup h1 (papVs_dp h2)
theorem paper_word {l r : Ln} {wd : Str} {ns : List Int} (h : PaperOk l r wd ns) : wd = "along" ∨ wd = "apart" ∨ wd = "meets" := by
  rcases h with ⟨_, e, _⟩ | ⟨_, ⟨_, e, _⟩ | ⟨_, _, _, e, _⟩⟩
  · exact .inl e
  · exact .inr (.inl e)
  · exact .inr (.inr e)
theorem fi_word {wd : Str} (h : wd = "along" ∨ wd = "apart" ∨ wd = "meets") : Fi (.str wd) 0 5 := by
  rcases h with rfl | rfl | rfl <;> exact ⟨by decide +kernel, rfl, rfl, Nat.le_refl _, by decide +kernel⟩
theorem fi_pap {l r : Ln} {w : PW2} (hl : GoodLn 2000000 l) (hr : GoodLn 2000000 r) (h : PaperOk l r w.1 w.2) : Fi (papD w) 1 60 := by
  have ft := paper_fit hl hr h
  have := ft.len
  refine (Fi.tup (dep := 0) (blk := 5) fun x hx => ?_).up (Nat.le_refl _) (by rw [List.length_cons, List.length_map]; omega)
  rcases List.mem_cons.mp hx with rfl | hx
  · exact fi_word (paper_word h)
  · obtain ⟨n, hn, rfl⟩ := List.mem_map.mp hx
    exact (Fi.int (ft.b n hn)).up (Nat.le_refl _) (Nat.zero_le _)
theorem fine_unw {ls : List Ln} {ws : List PW2} (l12 : ls.length ≤ 12) (good : ∀ r ∈ ls, GoodLn 2000000 r) (h : UnwOk ls ws) : Fine (papUD ws) := by
  have lp := prs_len l12
  refine (Fi.tup (dep := 1) (blk := 60) fun x hx => ?_).fine (by decide) (by rw [List.length_map, h.1]; omega)
  obtain ⟨w, hw, rfl⟩ := List.mem_map.mp hx
  obtain ⟨i, hi, rfl⟩ := List.getElem_of_mem hw
  have hp : i < (prs ls.length).length := by rw [← h.1]; exact hi
  have e1 := List.getElem?_eq_getElem hp
  obtain ⟨p1, p2⟩ := prs_mem (List.mem_of_getElem? e1)
  exact fi_pap (good _ (gl_mem (by omega))) (good _ (gl_mem p2)) (h.2 i _ _ e1 (List.getElem?_eq_getElem hi))
def spToldR (K : PySem.W.Frag) (Ps : List Addr) (PL : Addr) : Sp := fun vs H Q _ => ∃ g u v ls c b, vs = [.int g, u, v, .bl b] ∧ Lns K H g u ls ∧ At2 K H v c ∧ TbS Ps PL H ∧ (b = true ↔ Wtd g ls c) ∧ ∀ H', SameX PL H H' → LT H' PL qL → Q (.bl true) H'

section
variable {P : Program} {w : World} {K : PySem.W.Frag} {mg : Str → Option Value} {base : Heap}

theorem ok_law_told_right {f Pt Pe Pw Pa Pl PL : Addr} {fd : FuncData} (F : Fun K "_law_told_right" "_law_told_right" s_law_told_right f fd) (T : Bt mg) (Dunwanted_paper : Def P w K mg base 9 "unwanted_paper" ["grain", "lines", "corner"] (spUnwP K Pl PL)) (D_law_is_unwanted : Def P w K mg base 4 "_law_is_unwanted" ["_law_grain_here", "_law_lines_here", "_law_corner", "_law_thing"] (spUnwL K)) (Dunwanted_holds : Def P w K mg base 9 "unwanted_holds" ["grain", "lines", "corner", "thing"] (spUnwH K Pt Pe Pw Pa Pl)) :
    FnG P w K mg base CX0 10 f fd ["_law_grain_here", "_law_lines_here", "_law_corner", "_law_wanted"] (spToldR K [Pt, Pe, Pw, Pa, Pl] PL) := by
  refine okG (k := 9) F sc_law_told_right (fun vs H Q E h => ?_) (fun cdv A outer s H vs Q E hr h => ?_)
  · obtain ⟨gg, u, v, ls, c, b, rfl, _⟩ := h
    rfl
  · obtain ⟨gg, u, v, ls, c, b, rfl, hL, hc, hT, hb, q⟩ := h
    refine ⟨_, (pss_cons (ps_set (i := 4) sc_law_told_right.nd rfl (.inl rfl) (callD Dunwanted_paper (hr.mono (by decide)) (pa_cons (pv 0) (pa_cons (pv 1) (pa_cons (pv 2) pa_nil)))))
      (pss_cons (ps_if (pt_val (pv 3)) (pss_one (ps_ret (pe_cmpR op_isN (pv 4) pe_non (nomark _)))) pss_nil)
      (pss_cons (ps_if (PW.pt (pw_or (pt_not (pt_val (callD D_law_is_unwanted (hr.mono (by decide)) (pa_cons (pv 0) (pa_cons (pv 1) (pa_cons (pv 2) (pa_cons (pv 4) pa_nil))))))) (pw_or1 (pt_cmpR op_isNotB (callD Dunwanted_holds (hr.mono (by decide)) (pa_cons (pv 0) (pa_cons (pv 1) (pa_cons (pv 2) (pa_cons (pv 4) pa_nil))))) pe_bl (nomark _))))) (pss_one (ps_ret pe_bl)) pss_nil)
      (pss_one (ps_ret (pe_cmpR op_eq (pe_callB (call_repr hr.gd hr.room.units) (by rfl) T.repr (by decide +kernel) (pa_cons (callD Dunwanted_paper (hr.mono (by decide)) (pa_cons (pv 0) (pa_cons (pv 1) (pa_cons (pv 2) pa_nil)))) pa_nil)) (pe_callB (call_repr hr.gd hr.room.units) (by rfl) T.repr (by decide +kernel) (pa_cons (pv 4) pa_nil)) (nomark _))))))), ?_⟩
    have hP : ∀ {H' : Hp}, TbS [Pt, Pe, Pw, Pa, Pl] PL H' → TabG H' Pt ∧ TabG H' Pe ∧ TabG H' Pw ∧ TabG H' Pa ∧ TabG H' Pl := fun h => ⟨(h.1 Pt (by simp)).1, (h.1 Pe (by simp)).1, (h.1 Pw (by simp)).1, (h.1 Pa (by simp)).1, (h.1 Pl (by simp)).1⟩
    have hne := (hT.1 Pl (by simp)).2
    refine ⟨_, rfl, _, rfl, _, rfl, gg, u, v, ls, c, rfl, hL, hc, (hP hT).2.2.2.2, hne, hT.2, fun wt H1 s1 => ?_, fun nw w H1 ws sx1 lt1 pu1 ok1 => ?_⟩
    · have eb := hb.mpr wt
      subst eb
      refine ⟨_, rfl, _, rfl, iteT ⟨_, rfl, rfl, ?_⟩⟩
      rw [show decide (V.non = V.non) = true from decide_eq_true rfl]
      exact q H1 s1.x (s1.lt hT.2)
    · have eb : b = false := Bool.eq_false_iff.mpr fun z => nw (hb.mp z)
      subst eb
      have hT1 := hT.sameX sx1 lt1
      have hL1 := hL.sameX hT.2 sx1
      have hc1 := hc.sameX hT.2 sx1
      have so := told_unw hL.2.2.2 ok1 nw
      refine ⟨_, rfl, _, rfl, iteF ?_⟩
      refine ⟨_, rfl, _, rfl, _, rfl, _, rfl, gg, u, v, w, ls, c, some ws, rfl, hL1, hc1, pu1, ok1, fun H2 s2 => ?_⟩
      rw [so]
      refine ⟨true, rfl, iteF ?_⟩
      have hT2 := hT1.same s2
      obtain ⟨t1, t2, t3, t4, t5⟩ := hP hT2
      refine ⟨_, rfl, _, rfl, _, rfl, _, rfl, gg, u, v, w, ls, c, some ws, rfl, hL1.same s2, hc1.same s2, ⟨t1, t2, t3, t4, t5⟩, PapU.same pu1 s2, ok1, fun H3 s3 => ?_⟩
      rw [so]
      have hT3 := hT2.same s3
      have s13 := s2.trans s3
      refine ⟨true, true, rfl, rfl, _, rfl, iteF ?_⟩
      refine ⟨_, rfl, _, rfl, _, rfl, gg, u, v, ls, c, rfl, hL1.same s13, hc1.same s13, (hP hT3).2.2.2.2, hne, hT3.2, fun z => absurd z nw, fun _ w7 H7 ws7 sx7 lt7 pu7 ok7 => ?_⟩
      have ew := unw_one ok1 ok7
      subst ew
      have fn := fine_unw hL.2.2.1 hL.2.2.2 ok1
      refine ⟨w7, papUD ws, rfl, papU_dp pu7, fn, _, rfl, w, papUD ws, rfl, papU_dp (PapU.sameX (PapU.same pu1 s13) hT3.2 sx7), fn, rfl, ?_⟩
      rw [show decide (V.str (papUD ws).shown = V.str (papUD ws).shown) = true from decide_eq_true rfl]
      exact q H7 (sx1.trans (s13.x.trans sx7)) lt7

end
end Cl

set_option maxHeartbeats 0
namespace Cl
open PySem PySem.Spec PyProof.Rows L2
open GxR (TabB TabG)

theorem stepTab {d l : Addr} {H H' : Hp} {Pt : Addr} (D : Deck H d l) (S : Step d l H H') (h : TabG H Pt) : TabG H' Pt := by
  obtain ⟨ns, s, c, h1, h2, _⟩ := D.ex
  obtain ⟨ps, e, t⟩ := h
  exact (S.at (ne_of e h1 (by intro z; cases z)) (ne_of e h2 (by intro z; cases z)) e) t |>.elim fun ps' q => ⟨ps', q.1, q.2⟩
theorem stepLT {d l : Addr} {H H' : Hp} {P : Addr} {q : Str} (D : Deck H d l) (S : Step d l H H') (h : LT H P q) : LT H' P q := by
  obtain ⟨ns, s, c, h1, h2, _⟩ := D.ex
  obtain ⟨cs, e, t⟩ := h
  have k : ∀ {b : Addr} {φ : Heap → Prop}, H b = some (.ext φ) → H' b = some (.ext φ) := fun {b φ} z => S.at (ne_of z h1 (by intro z; cases z)) (ne_of z h2 (by intro z; cases z)) z
  exact ⟨cs, k e, fun c hc => ⟨(t c hc).1, k (t c hc).2⟩⟩


theorem TbS.step {d l : Addr} {Ps : List Addr} {PL : Addr} {H H' : Hp} (h : TbS Ps PL H) (D : Deck H d l) (S : Step d l H H') : TbS Ps PL H' := ⟨fun P z => ⟨stepTab D S (h.1 P z).1, (h.1 P z).2⟩, stepLT D S h.2⟩
theorem AtT.step {K : PySem.W.Frag} {d l : Addr} {H H' : Hp} {v : V} {ls : List Ln} (h : AtT K H v ls) (S : Step d l H H') (D : Deck H d l) : AtT K H' v ls := by
  obtain ⟨a, vs, e, h1, h2⟩ := h
  exact ⟨a, vs, e, stT S D h1, h2.map fun _ _ z => z.step S D⟩
theorem Lns.step {K : PySem.W.Frag} {d l : Addr} {H H' : Hp} {g : Int} {v : V} {ls : List Ln} (h : Lns K H g v ls) (S : Step d l H H') (D : Deck H d l) : Lns K H' g v ls := ⟨h.1, h.2.1.step S D, h.2.2.1, h.2.2.2⟩
theorem cutV_take (xs : List V) (k : Nat) : cutV xs none (some (k : Nat)) = xs.take k := by
  unfold cutV
  rw [HT.sIx_none, show HT.sIx xs.length xs.length (some ((k : Nat) : Int)) = min k xs.length from HT.sIx_nat _ _ k, List.drop_zero, Nat.sub_zero]
  by_cases h : k ≤ xs.length
  · rw [Nat.min_eq_left h]
  · rw [Nat.min_eq_right (by omega), List.take_of_length_le (Nat.le_refl _), List.take_of_length_le (by omega)]
theorem take_get {α : Type} {l : List α} {k i : Nat} {x : α} (h : (l.take k)[i]? = some x) : l[i]? = some x := by
  have hi := (List.getElem?_eq_some_iff.mp h).1
  rw [List.length_take] at hi
  rw [List.getElem?_take_of_lt (by omega)] at h
  exact h
def ThV (K : PySem.W.Frag) (H : Hp) (v : V) (o : Option (List PW2)) : Prop := ThU K H v o
def spLawT (K : PySem.W.Frag) (Ps : List Addr) (PL : Addr) : Sp := fun vs H Q _ => ∃ (a : Addr) (ns : List Int), vs = [.ref a] ∧ SqL K H a (ns.map V.int) ∧ ns.length ≤ 63 ∧ TbS Ps PL H ∧ ∀ H', LT H' PL qL → Q (.bl true) H'

section
variable {P : Program} {w : World} {K : PySem.W.Frag} {mg : Str → Option Value} {base : Heap}

theorem oklaw {f Pt Pe Pw Pa Pl PL : Addr} {fd : FuncData} (F : Fun K "law" "law" slaw f fd) (T : Bt mg) (D_law_deck : Def P w K mg base 1 "_law_deck" ["_law_script"] (spDeck K)) (D_law_draw : Def P w K mg base 1 "_law_draw" ["_law_deck_here", "_law_most"] spDraw) (D_law_many : Def P w K mg base 2 "_law_many" ["_law_deck_here", "_law_most"] spMany) (D_law_grain : Def P w K mg base 2 "_law_grain" ["_law_deck_here"] spGrainW) (D_law_lines : Def P w K mg base 4 "_law_lines" ["_law_deck_here", "_law_grain_here", "_law_many_here"] (spLinesX K)) (D_law_corners_asked : Def P w K mg base 5 "_law_corners_asked" ["_law_deck_here", "_law_grain_here", "_law_lines_here"] (spAskedL K)) (D_law_wants : Def P w K mg base 4 "_law_wants" ["_law_grain_here", "_law_lines_here"] (spWantsL K)) (Dunwanted_paper : Def P w K mg base 9 "unwanted_paper" ["grain", "lines", "corner"] (spUnwP K Pl PL)) (D_law_is_unwanted : Def P w K mg base 4 "_law_is_unwanted" ["_law_grain_here", "_law_lines_here", "_law_corner", "_law_thing"] (spUnwL K)) (Dunwanted_holds : Def P w K mg base 9 "unwanted_holds" ["grain", "lines", "corner", "thing"] (spUnwH K Pt Pe Pw Pa Pl)) (D_law_told_right : Def P w K mg base 10 "_law_told_right" ["_law_grain_here", "_law_lines_here", "_law_corner", "_law_wanted"] (spToldR K [Pt, Pe, Pw, Pa, Pl] PL)) :
    FnG P w K mg base CX0 11 f fd ["_law_script"] (spLawT K [Pt, Pe, Pw, Pa, Pl] PL) := by
  refine okG (k := 10) F sclaw (fun vs H Q E h => ?_) (fun cdv A outer s H vs Q E hr h => ?_)
  · obtain ⟨a, ns, rfl, _⟩ := h
    rfl
  · obtain ⟨a, ns, rfl, hS, hlen, hT, q⟩ := h
    refine ⟨_, (pss_cons (ps_set (i := 1) sclaw.nd rfl (.inl rfl) (callD D_law_deck (hr.mono (by decide)) (pa_cons (pv 0) pa_nil)))
      (pss_cons (ps_set (i := 2) sclaw.nd rfl (.inl rfl) (callD D_law_many (hr.mono (by decide)) (pa_cons (pv 1) (pa_cons pe_int pa_nil))))
      (pss_cons (ps_set (i := 3) sclaw.nd rfl (.inr rfl) (callD D_law_grain (hr.mono (by decide)) (pa_cons (pv 1) pa_nil)))
      (pss_cons (ps_set (i := 4) sclaw.nd rfl (.inr rfl) (callD D_law_lines (hr.mono (by decide)) (pa_cons (pv 1) (pa_cons (pv 3) (pa_cons (pv 2) pa_nil)))))
      (pss_cons (ps_set (i := 5) sclaw.nd rfl (.inl rfl) (callD D_law_corners_asked (hr.mono (by decide)) (pa_cons (pv 1) (pa_cons (pv 3) (pa_cons (pv 4) pa_nil)))))
      (pss_cons (ps_setLc (i := 6) (own := [("_law_corner", 7), ("_law_wants_here", 8)]) (g := gTup K 2 (gCons (gName 7) (gCons (gName 8) gNil))) (tt := tYes) (by rfl) sclaw.nd rfl rfl (sw_true rfl rfl rfl (by decide +kernel)) (pi_tup (callD D_law_wants (hr.mono (by decide)) (pa_cons (pv 3) (pa_cons (pv 4) pa_nil)))) (blkOk_by (own := [("_law_corner", 7), ("_law_wants_here", 8)]) (N := ["_law_script", "_law_deck_here", "_law_many_here", "_law_grain_here", "_law_lines_here", "_law_corners", "_law_some", "_law_corner", "_law_wants_here", "_law_papers", "_law_paper", "_law_held"]) (sc := defScope slaw) (by decide +kernel)) (fun _ _ _ _ _ => (pg_tup (by rfl) (pgs_cons (pg_name (i := 7) sclaw.nd rfl (.inl rfl)) (pgs_cons (pg_name (i := 8) sclaw.nd rfl (.inl rfl)) pgs_nil)))) (fun _ _ _ _ _ => pts_nil) (fun _ _ _ _ _ => (pv 7)))
      (pss_cons (ps_setLc (i := 9) (own := [("_law_corner", 7)]) (g := gName 7) (tt := tYes) (by rfl) sclaw.nd rfl rfl (sw_true rfl rfl rfl (by decide +kernel)) (pi_list (pv 5)) (blkOk_by (own := [("_law_corner", 7)]) (N := ["_law_script", "_law_deck_here", "_law_many_here", "_law_grain_here", "_law_lines_here", "_law_corners", "_law_some", "_law_corner", "_law_wants_here", "_law_papers", "_law_paper", "_law_held"]) (sc := defScope slaw) (by decide +kernel)) (fun _ _ _ _ _ => (pg_name (i := 7) sclaw.nd rfl (.inl rfl))) (fun _ _ _ _ _ => pts_nil) (fun _ _ _ _ _ => (callD Dunwanted_paper (hr.mono (by decide)) (pa_cons (pv 3) (pa_cons (pv 4) (pa_cons (pv 7) pa_nil))))))
      (pss_cons (ps_for PassesOwn.never rfl (pi_list (pv 5)) (pg_name (i := 7) sclaw.nd rfl (.inl rfl)) (pss_cons (ps_if (pt_not (pt_val (callD D_law_told_right (hr.mono (by decide)) (pa_cons (pv 3) (pa_cons (pv 4) (pa_cons (pv 7) (pa_cons (pe_cmpR (op_inP hr.room.units) (pv 7) (pv 6) (by rfl)) pa_nil))))))) (pss_one (ps_ret pe_bl)) pss_nil)
      (pss_one (ps_for PassesOwn.never rfl (pi_list (pe_slice sl_listN (pv 9) po_none (po_some pe_int))) (pg_name (i := 10) sclaw.nd rfl (.inl rfl)) (pss_cons (ps_set (i := 11) sclaw.nd rfl (.inl rfl) (callD Dunwanted_holds (hr.mono (by decide)) (pa_cons (pv 3) (pa_cons (pv 4) (pa_cons (pv 7) (pa_cons (pv 10) pa_nil))))))
      (pss_one (ps_if (PW.pt (pw_or (pt_not (pt_val (pe_callB call_isi (by rfl) T.isinstance (by decide +kernel) (pa_cons (pv 11) (pa_cons (pe_bltn (v := .ty "bool") (by rfl) T.bool (by decide +kernel) rfl) pa_nil))))) (pw_or1 (pt_cmpR op_ne (pv 11) (callD D_law_is_unwanted (hr.mono (by decide)) (pa_cons (pv 3) (pa_cons (pv 4) (pa_cons (pv 7) (pa_cons (pv 10) pa_nil))))) (nomark _))))) (pss_one (ps_ret pe_bl)) pss_nil)))))))
      (pss_one (ps_ret pe_bl)))))))))), ?_⟩
    have hP : ∀ {H' : Hp}, TbS [Pt, Pe, Pw, Pa, Pl] PL H' → TabG H' Pt ∧ TabG H' Pe ∧ TabG H' Pw ∧ TabG H' Pa ∧ TabG H' Pl := fun h => ⟨(h.1 Pt (by simp)).1, (h.1 Pe (by simp)).1, (h.1 Pw (by simp)).1, (h.1 Pa (by simp)).1, (h.1 Pl (by simp)).1⟩
    have hne := (hT.1 Pl (by simp)).2
    refine ⟨.ref a, rfl, a, ns, rfl, hS, hlen, fun d l H1 s1 D1 => ?_⟩
    refine ⟨.ref d, rfl, d, l, 4, rfl, by decide, by decide, D1, fun n H3 hn S3 => ?_⟩
    refine ⟨.ref d, rfl, d, l, rfl, S3.deck, fun g H4 g0 g1 S4 => ?_⟩
    refine ⟨.ref d, rfl, _, rfl, _, rfl, d, l, g, n, rfl, g0, g1, hn, S4.deck, fun w H5 ls S5 e5 l5 good => ?_⟩
    have hL5 : Lns K H5 g w ls := ⟨⟨g0, g1⟩, e5, by omega, good⟩
    have hT5 := (hT.same s1).step D1 ((S3.trans S4).trans S5)
    refine ⟨.ref d, rfl, _, rfl, _, rfl, d, l, g, w, ls, rfl, S5.deck, hL5, fun L H6 cu cs S6 nLd nLl eL allC lC => ?_⟩
    have hL6 := hL5.step S6 S5.deck
    have hT6 := hT5.step S5.deck S6
    refine ⟨_, rfl, _, rfl, g, w, ls, rfl, hL6, fun u H7 LL s7 e7 d7 => ?_⟩
    obtain ⟨a7, vs7, rfl, hS7, all7⟩ := e7
    have lL := d7.len
    have lR := rowsL_len g ls ls.length
    have l12 := hL5.2.2.1
    have lR2 : ls.length * (2 + ls.length) ≤ 12 * 14 := Nat.mul_le_mul l12 (by omega)
    refine ⟨a7, rfl, ⟨_, hS7⟩, fun pS nS => ?_⟩
    refine lcT (K := K) (a := a7) (xs := vs7) (fun i H' => Same H7 H' ∧ ∃ ws, H' pS = some (.lst ws) ∧ AllAt (At2 K H') ws ((LL.take i).map (·.1))) nS (fun H' e1 e2 => ⟨e1, [], e2, .nil⟩) (fun i H' _ z => seT z.1 hS7) (fun i z H' hz w => ?_) (fun H8 z => ?_)
    · obtain ⟨t1, ws, t2, t3⟩ := w
      obtain ⟨e, he, b, u, c, us, rfl, h1, h2, h3, h4⟩ := all7.get hz
      refine ⟨b, _, rfl, seT t1 h1, rfl, _, _, rfl, _, _, rfl, rfl, ?_⟩
      refine ⟨rfl, _, rfl, ws, t2, by rw [t3.length, List.length_map, List.length_take]; exact small1000 (by omega), fun b' o z => ?_, ws ++ [u], upd_same, ?_⟩
      · rw [upd_ne (ne_of_none z nS)]; exact t1 _ _ z
      · rw [List.take_add_one, he, List.map_append]
        exact (t3.map fun _ _ z => At2.upd z t2).app (.cons (At2.upd (h2.same t1) t2) .nil)
    obtain ⟨t1, ws, eS, hW⟩ := z
    rw [all7.length, List.take_length] at hW
    have s68 := s7.trans t1
    have hL8 := hL6.same s68
    have hT8 := hT6.same s68
    have eL8 : H8 L = some (.lst cu) := s68 _ _ eL
    have allC8 := allC.map fun _ _ z => At2.same z s68
    have lc8 := allC8.length
    have wtd : ∀ c, c ∈ LL.map (·.1) ↔ Wtd g ls c := fun c => by
      have pm := rows_perm g ls
      rw [d7.mem]
      exact ⟨fun ⟨r, hr, z⟩ => ⟨r, pm.mem_iff.mp hr, z⟩, fun ⟨r, hr, z⟩ => ⟨r, pm.mem_iff.mpr hr, z⟩⟩
    refine ⟨_, rfl, L, rfl, ⟨_, .inl (.inl eL8)⟩, fun pP nP => ?_⟩
    refine lcL (K := K) (a := L) (xs := cu) (fun i H' => SameX PL H8 H' ∧ LT H' PL qL ∧ ∃ us ows, H' pP = some (.lst us) ∧ AllAt (ThV K H') us ows ∧ ows.length = i ∧ ∀ o ∈ ows, OkU ls o) nP (fun H' e1 e2 => ⟨e1.x, e1.lt hT8.2, [], [], e2, .nil, rfl, fun _ z => nomatch z⟩) (fun i H' _ z => seLX hT8.2 z.1 (.inl (.inl eL8))) (fun i x H' hx z => ?_) (fun H9 z => ?_)
    · obtain ⟨z1, z2, us, ows, z3, z4, z5, z6⟩ := z
      obtain ⟨c, hc, hx2⟩ := allC8.get hx
      have hi := (List.getElem?_eq_some_iff.mp hx).1
      have hT' := hT8.sameX z1 z2
      refine ⟨rfl, _, rfl, _, rfl, _, rfl, g, w, x, ls, c, rfl, hL8.sameX hT8.2 z1, hx2.sameX hT8.2 z1, (hP hT').2.2.2.2, hne, z2, fun wt H10 s10 => ?_, fun nw v H10 wz sx10 lt10 pu ok => ?_⟩
      · have e10 := s10 _ _ z3
        refine ⟨us, e10, by rw [z4.length, z5]; exact small1000 (by omega), (z1.trans s10.x).updN nP, (s10.lt z2).upd e10, us ++ [.non], ows ++ [none], upd_same, (z4.map fun _ _ y => ThU.upd (ThU.same y s10) e10).app (AllAt.cons (v := V.non) (show ThU K _ V.non none from rfl) .nil), by rw [List.length_append, z5]; rfl, fun o ho => ?_⟩
        rcases List.mem_append.mp ho with h | h
        · exact z6 o h
        · rw [List.mem_singleton.mp h]; trivial
      · have e10 := lstX z2 sx10 z3
        refine ⟨us, e10, by rw [z4.length, z5]; exact small1000 (by omega), (z1.trans sx10).updN nP, lt10.upd e10, us ++ [v], ows ++ [some wz], upd_same, (z4.map fun _ _ y => ThU.upd (ThU.sameX y z2 sx10) e10).app (.cons (ThU.upd (ow := some wz) pu e10) .nil), by rw [List.length_append, z5]; rfl, fun o ho => ?_⟩
        rcases List.mem_append.mp ho with h | h
        · exact z6 o h
        · rw [List.mem_singleton.mp h]; exact ok
    obtain ⟨z1, z2, us, ows, z3, z4, z5, z6⟩ := z
    have hL9 := hL8.sameX hT8.2 z1
    have hT9 := hT8.sameX z1 z2
    have eL9 := lstX hT8.2 z1 eL8
    have eS9 := lstX hT8.2 z1 eS
    have allC9 := allC8.map fun _ _ y => At2.sameX y hT8.2 z1
    have hW9 := hW.map fun _ _ y => At2.sameX y hT8.2 z1
    refine ⟨_, rfl, L, rfl, ⟨_, .inl (.inl eL9)⟩, for_list (K := K) (a := L) (xs := cu) (fun i σ H' => ∃ y7 y8 y10 y11, σ = [some (.ref a), some (.ref d), some (.int n), some (.int g), some w, some (.ref L), some (.ref pS), y7, y8, some (.ref pP), y10, y11] ∧ SameX PL H9 H' ∧ LT H' PL qL) ⟨_, _, _, _, rfl, .refl _, z2⟩ (fun i σ H' _ z => by obtain ⟨_, _, _, _, _, z, _⟩ := z; exact seLX z2 z (.inl (.inl eL9))) (fun i x σ H' hx z => ?_) (fun σ H' z => ?_)⟩
    · obtain ⟨y7, y8, y10, y11, rfl, x1, x2⟩ := z
      obtain ⟨c, hc, hx2⟩ := allC9.get hx
      have hT' := hT9.sameX x1 x2
      have hx' := hx2.sameX hT9.2 x1
      have hW' := hW9.map fun _ _ y => At2.sameX y hT9.2 x1
      have eS' := lstX hT9.2 x1 eS9
      have hL' := hL9.sameX hT9.2 x1
      refine ⟨_, rfl, _, rfl, _, rfl, _, rfl, _, rfl, c, _, pS, ws, hx', rfl, .inl (.inl (.inl eS')), hW', g, w, x, ls, c, _, rfl, hL', hx', hT', by rw [decide_eq_true_eq]; exact wtd c, fun H10 sx10 lt10 => ⟨true, rfl, iteF ?_⟩⟩
      have x9 := x1.trans sx10
      have hT10 := hT9.sameX x9 lt10
      have eP10 := lstX hT9.2 x9 z3
      have hL10 := hL9.sameX hT9.2 x9
      have hx10 := hx2.sameX hT9.2 x9
      have z10 := z4.map fun _ _ y => ThU.sameX y hT9.2 x9
      refine ⟨_, rfl, _, rfl, pP, us, rfl, .inl (.inl eP10), fun p11 H11 n11 s11 e11 => ?_⟩
      rw [show cutV us none (some 3) = us.take 3 from cutV_take us 3] at e11
      refine ⟨p11, rfl, ⟨_, .inl (.inl e11)⟩, for_list (K := K) (a := p11) (xs := us.take 3) (fun _ σ H' => ∃ y8 y10 y11, σ = [some (.ref a), some (.ref d), some (.int n), some (.int g), some w, some (.ref L), some (.ref pS), some x, y8, some (.ref pP), y10, y11] ∧ Same H11 H') ⟨_, _, _, rfl, .refl _⟩ (fun i σ H' _ z => by obtain ⟨_, _, _, _, z⟩ := z; exact .inl (.inl (z _ _ e11))) (fun j v σ H' hv z => ?_) (fun σ H' z => ?_)⟩
      · obtain ⟨y8, y10, y11, rfl, s12⟩ := z
        have s1012 := s11.trans s12
        obtain ⟨o, ho, hth⟩ := z10.get (take_get hv)
        have ok := z6 o (List.mem_of_getElem? ho)
        refine ⟨_, rfl, _, rfl, _, rfl, _, rfl, g, w, x, v, ls, c, o, rfl, hL10.same s1012, hx10.same s1012, hP (hT10.same s1012), ThU.same hth s1012, ok, fun H13 s13 => ?_⟩
        have kb : Kd K H13 (.bl (unwB g ls c o)) "bool" := .bl _
        have s1013 := s1012.trans s13
        refine ⟨_, rfl, _, _, _, _, _, rfl, .ty _, kb.ty, kit_ty kb.bool?, _, rfl, iteF ?_⟩
        refine ⟨_, rfl, _, rfl, _, rfl, _, rfl, _, rfl, g, w, x, v, ls, c, o, rfl, hL10.same s1013, hx10.same s1013, ThU.same hth s1013, ok, fun H14 s14 => ⟨rfl, false, by simp, iteF ?_⟩⟩
        exact ⟨_, _, _, rfl, s12.trans (s13.trans s14)⟩
      · obtain ⟨y8, y10, y11, rfl, s12⟩ := z
        exact ⟨_, _, _, _, rfl, x9.trans (s11.trans s12).x, (s11.trans s12).lt lt10⟩
    · obtain ⟨y7, y8, y10, y11, rfl, x1, x2⟩ := z
      exact q H' x2

end
end Cl

set_option maxHeartbeats 0
namespace Cl
open PySem PySem.Spec PyProof.Rows L2
open GxR (TabB TabG)

section
variable {P : Program} {w : World} {K : PySem.W.Frag} {mg : Str → Option Value} {base : Heap}

theorem ok_law_due_along {f : Addr} {fd : FuncData} (F : Fun K "_law_due_along" "_law_due_along" s_law_due_along f fd) (T : Bt mg) :
    FnG P w K mg base CX0 1 f fd ["_law_one", "_law_other"] (spTwo K alo fun _ _ => True) := by
  refine okG (k := 0) F sc_law_due_along (fun vs H Q E h => ?_) (fun cdv A outer s H vs Q E hr h => ?_)
  · obtain ⟨u, v, l, r, rfl, _⟩ := h
    rfl
  · obtain ⟨u, v, l, r, rfl, hL, hR, bl, br, _, q⟩ := h
    refine ⟨_, (pss_cons (ps_set (i := 2) sc_law_due_along.nd rfl (.inl rfl) (pe_op op_catLN (pe_lc (own := [("_law_p", 3)]) (g := gName 3) (by rfl) sc_law_due_along.nd (pi_tup (pv 0)) (blkOk_by (own := [("_law_p", 3)]) (N := ["_law_one", "_law_other", "_law_some", "_law_p"]) (sc := defScope s_law_due_along) (by decide +kernel)) (fun _ _ _ _ _ => (pg_name (i := 3) sc_law_due_along.nd rfl (.inl rfl))) (fun _ _ _ _ _ => (pts_one (pt_chain (op_le2k (K := K) rfl hr.room.units) (op_le2k (K := K) rfl hr.room.units) (pe_callB (cr_min1k (K := K) rfl rfl hr.room.units) (by rfl) T.min (by decide +kernel) (pa_cons (pv 1) pa_nil)) (pv 3) (pe_callB (cr_max1k (K := K) rfl rfl hr.room.units) (by rfl) T.max (by decide +kernel) (pa_cons (pv 1) pa_nil))))) (fun _ _ _ _ _ => (pv 3))) (pe_lc (own := [("_law_p", 3)]) (g := gName 3) (by rfl) sc_law_due_along.nd (pi_tup (pv 1)) (blkOk_by (own := [("_law_p", 3)]) (N := ["_law_one", "_law_other", "_law_some", "_law_p"]) (sc := defScope s_law_due_along) (by decide +kernel)) (fun _ _ _ _ _ => (pg_name (i := 3) sc_law_due_along.nd rfl (.inl rfl))) (fun _ _ _ _ _ => (pts_one (pt_chain (op_le2k (K := K) rfl hr.room.units) (op_le2k (K := K) rfl hr.room.units) (pe_callB (cr_min1k (K := K) rfl rfl hr.room.units) (by rfl) T.min (by decide +kernel) (pa_cons (pv 0) pa_nil)) (pv 3) (pe_callB (cr_max1k (K := K) rfl rfl hr.room.units) (by rfl) T.max (by decide +kernel) (pa_cons (pv 0) pa_nil))))) (fun _ _ _ _ _ => (pv 3)))))
      (pss_cons (ps_set (i := 2) sc_law_due_along.nd rfl (.inl rfl) (pe_callB (cr_sortedS2 rfl hr.room.units) (by rfl) T.sorted (by decide +kernel) (pa_cons (pe_callTy (cr_setN rfl hr.room.units) (by rfl) T.set (by decide +kernel) (pa_cons (pv 2) pa_nil)) pa_nil)))
      (pss_one (ps_ret (pe_callTy call_tuple_ofN (by rfl) T.tuple (by decide +kernel) (pa_cons (pe_lc (own := [("_law_p", 3)]) (g := gName 3) (tt := tYes) (by rfl) sc_law_due_along.nd (pi_list (pe_op op_catLN (pe_slice sl_listN (pv 2) po_none (po_some pe_int)) (pe_slice sl_listN (pe_slice sl_listN (pv 2) (po_some pe_int) po_none) (po_some (pe_un un_neg pe_int)) po_none))) (blkOk_by (own := [("_law_p", 3)]) (N := ["_law_one", "_law_other", "_law_some", "_law_p"]) (sc := defScope s_law_due_along) (by decide +kernel)) (fun _ _ _ _ _ => (pg_name (i := 3) sc_law_due_along.nd rfl (.inl rfl))) (fun _ _ _ _ _ => pts_nil) (fun _ _ _ _ _ => (pe_op (op_catTNk (K := K) rfl) (pv 3) (tupN (pa_cons pe_int pa_nil))))) pa_nil)))))), ?_⟩
    obtain ⟨a, x, y, rfl, hS, hx, hy⟩ := hL
    obtain ⟨b, x', y', rfl, hS', hx', hy'⟩ := hR
    have aL : AllAt (At2 K H) [x, y] [l.1, l.2] := .cons hx (.cons hy .nil)
    refine ⟨_, rfl, a, rfl, ⟨_, hS⟩, fun pA npA => ?_⟩
    refine lcT (K := K) (a := a) (xs := _) (fun i Hx => Same H Hx ∧ ∃ ks, Hx pA = some (.lst (ks.map fun q => V.ref q.1)) ∧ Sel K H [l.1, l.2] r i ks) npA (fun Hx e1 e2 => ⟨e1, [], e2, .nil⟩) (fun i Hx _ z => seT z.1 hS) (fun i z Hx hz w => ?_) (fun HA z => ?_)
    · obtain ⟨t1, ks, t2, t3⟩ := w
      obtain ⟨pt, hpt, c, rfl, hc⟩ := AllAt.get aL hz
      have zc : At2 K Hx (.ref c) pt := ⟨c, rfl, seT t1 hc⟩
      have keep : ple (mn r.1 r.2) pt → ple pt (mx r.1 r.2) → ∃ acc, Hx pA = some (.lst acc) ∧ acc.length < sizeLine ∧
          (Same H (upd Hx pA (.lst (acc ++ [.ref c]))) ∧ ∃ ks, (upd Hx pA (.lst (acc ++ [.ref c]))) pA = some (.lst (ks.map fun q => V.ref q.1)) ∧ Sel K H [l.1, l.2] r (i + 1) ks) := fun k1 k2 => by
        have li : i < 2 := by
          have := (List.getElem?_eq_some_iff.mp hpt).1
          exact this
        refine ⟨_, t2, by rw [List.length_map]; exact small1000 (by have := t3.len; omega), fun b o e => ?_, ks ++ [(c, [pt.1, pt.2])], ?_, t3.keep hpt ⟨k1, k2⟩ hc⟩
        · rw [upd_ne (ne_of_none e npA)]; exact t1 _ _ e
        · rw [upd_same, List.map_append]; rfl
      refine ⟨rfl, _, rfl, b, x', y', _, _, rfl, seT t1 hS', hx'.same t1, hy'.same t1, fun w1 _ e1 => ⟨_, rfl, _, _, e1, zc, _, rfl, ite2 (fun c1 => ?_) (fun c1 => ⟨_, rfl, iteF ?_⟩)⟩⟩
      · have c1' : ple (mn r.1 r.2) pt := by unfold ple; simpa using c1
        refine ⟨_, rfl, b, x', y', _, _, rfl, seT t1 hS', hx'.same t1, hy'.same t1, fun w2 _ e2 => ⟨_, _, zc, e2, _, rfl, ite2 (fun c2 => ?_) (fun c2 => ?_)⟩⟩
        · have c2' : ple pt (mx r.1 r.2) := by unfold ple; simpa using c2
          exact ⟨_, rfl, keep c1' c2'⟩
        · refine ⟨t1, ks, t2, t3.drop hpt fun k => c2 ?_⟩
          have k2 := k.2
          unfold ple at k2
          show (!llt (mx r.1 r.2) pt) = true
          rw [k2]; rfl
      · refine ⟨t1, ks, t2, t3.drop hpt fun k => c1 ?_⟩
        have k1 := k.1
        unfold ple at k1
        show (!llt pt (mn r.1 r.2)) = true
        rw [k1]; rfl
    obtain ⟨tpA, kspA, epA, spA⟩ := z
    have aR : AllAt (At2 K HA) [x', y'] [r.1, r.2] := .cons (hx'.same tpA) (.cons (hy'.same tpA) .nil)
    have hSr := seT tpA hS'
    have hSl := seT tpA hS
    have hx2 := hx.same tpA
    have hy2 := hy.same tpA
    refine ⟨_, rfl, b, rfl, ⟨_, hSr⟩, fun pB npB => ?_⟩
    refine lcT (K := K) (a := b) (xs := _) (fun i Hx => Same HA Hx ∧ ∃ ks, Hx pB = some (.lst (ks.map fun q => V.ref q.1)) ∧ Sel K HA [r.1, r.2] l i ks) npB (fun Hx e1 e2 => ⟨e1, [], e2, .nil⟩) (fun i Hx _ z => seT z.1 hSr) (fun i z Hx hz w => ?_) (fun HB z => ?_)
    · obtain ⟨t1, ks, t2, t3⟩ := w
      obtain ⟨pt, hpt, c, rfl, hc⟩ := AllAt.get aR hz
      have zc : At2 K Hx (.ref c) pt := ⟨c, rfl, seT t1 hc⟩
      have keep : ple (mn l.1 l.2) pt → ple pt (mx l.1 l.2) → ∃ acc, Hx pB = some (.lst acc) ∧ acc.length < sizeLine ∧
          (Same HA (upd Hx pB (.lst (acc ++ [.ref c]))) ∧ ∃ ks, (upd Hx pB (.lst (acc ++ [.ref c]))) pB = some (.lst (ks.map fun q => V.ref q.1)) ∧ Sel K HA [r.1, r.2] l (i + 1) ks) := fun k1 k2 => by
        have li : i < 2 := by
          have := (List.getElem?_eq_some_iff.mp hpt).1
          exact this
        refine ⟨_, t2, by rw [List.length_map]; exact small1000 (by have := t3.len; omega), fun b o e => ?_, ks ++ [(c, [pt.1, pt.2])], ?_, t3.keep hpt ⟨k1, k2⟩ hc⟩
        · rw [upd_ne (ne_of_none e npB)]; exact t1 _ _ e
        · rw [upd_same, List.map_append]; rfl
      refine ⟨rfl, _, rfl, a, x, y, _, _, rfl, seT t1 hSl, hx2.same t1, hy2.same t1, fun w1 _ e1 => ⟨_, rfl, _, _, e1, zc, _, rfl, ite2 (fun c1 => ?_) (fun c1 => ⟨_, rfl, iteF ?_⟩)⟩⟩
      · have c1' : ple (mn l.1 l.2) pt := by unfold ple; simpa using c1
        refine ⟨_, rfl, a, x, y, _, _, rfl, seT t1 hSl, hx2.same t1, hy2.same t1, fun w2 _ e2 => ⟨_, _, zc, e2, _, rfl, ite2 (fun c2 => ?_) (fun c2 => ?_)⟩⟩
        · have c2' : ple pt (mx l.1 l.2) := by unfold ple; simpa using c2
          exact ⟨_, rfl, keep c1' c2'⟩
        · refine ⟨t1, ks, t2, t3.drop hpt fun k => c2 ?_⟩
          have k2 := k.2
          unfold ple at k2
          show (!llt (mx l.1 l.2) pt) = true
          rw [k2]; rfl
      · refine ⟨t1, ks, t2, t3.drop hpt fun k => c1 ?_⟩
        have k1 := k.1
        unfold ple at k1
        show (!llt pt (mn l.1 l.2)) = true
        rw [k1]; rfl
    obtain ⟨tpB, kspB, epB, spB⟩ := z
    have selA : ∀ p, (∃ q ∈ kspA, pr q = p) ↔ (p = l.1 ∨ p = l.2) ∧ within p r := spA.two
    have selB : ∀ p, (∃ q ∈ kspB, pr q = p) ↔ (p = r.1 ∨ p = r.2) ∧ within p l := spB.two
    have lA := spA.len
    have lB := spB.len
    have lA2 : kspA.length ≤ 2 := lA
    have lB2 : kspB.length ≤ 2 := lB
    refine ⟨pA, pB, _, _, rfl, rfl, tpB _ _ epA, epB, by rw [List.length_map, List.length_map]; exact Nat.le_of_lt (small1000 (by omega)), fun p3 H3 n3 s3 g3 => ?_⟩
    have tup3 : ∀ q ∈ kspA ++ kspB, SqT K H3 q.1 (q.2.map V.int) ∧ q.2.length = 2 := fun q hq => by
      rcases List.mem_append.mp hq with z | z
      · exact ⟨seT ((tpA.trans tpB).trans s3) (spA.tup q z).1, (spA.tup q z).2⟩
      · exact ⟨seT (tpB.trans s3) (spB.tup q z).1, (spB.tup q z).2⟩
    -- sorted(set(..))
    refine ⟨_, rfl, p3, kspA ++ kspB, rfl, .inl (.inl (by rw [List.map_append]; exact g3)), fun q hq => (tup3 q hq).1, by rw [List.length_append]; omega, fun p4 H4 L4 s4 n4 e4 sub all => ?_⟩
    have tup4 : ∀ q ∈ L4, SqT K H4 q.1 (q.2.map V.int) ∧ q.2.length = 2 := fun q hq => ⟨seT s4 (tup3 q (sub q hq)).1, (tup3 q (sub q hq)).2⟩
    refine ⟨p4, L4, rfl, e4, fun q hq => (tup4 q hq).1, fun q hq => (tup4 q hq).2, fun L5 pm nd pw p5 H5 n5 s5 g5 => ?_⟩
    have tup5 : ∀ q ∈ L5, SqT K H5 q.1 (q.2.map V.int) ∧ q.2.length = 2 := fun q hq => ⟨seT s5 (tup4 q (pm.mem_iff.mp hq)).1, (tup4 q (pm.mem_iff.mp hq)).2⟩
    have memT : ∀ p, p ∈ L5.map pr ↔ inBoth l r p := fun p => by
      have e1 : p ∈ L5.map pr ↔ ∃ q ∈ kspA ++ kspB, pr q = p := by
        rw [List.mem_map]
        constructor
        · rintro ⟨q, hq, e⟩
          exact ⟨q, sub q (pm.mem_iff.mp hq), e⟩
        · rintro ⟨q, hq, e⟩
          obtain ⟨q2, hq2, e2⟩ := List.mem_map.mp (all q hq)
          refine ⟨q2, pm.mem_iff.mpr hq2, ?_⟩
          rw [← e]
          unfold pr
          rw [e2]
      rw [e1]
      unfold inBoth
      rw [← selA p, ← selB p]
      constructor
      · rintro ⟨q, hq, e⟩
        rcases List.mem_append.mp hq with z | z
        · exact .inl ⟨q, z, e⟩
        · exact .inr ⟨q, z, e⟩
      · rintro (⟨q, hq, e⟩ | ⟨q, hq, e⟩)
        · exact ⟨q, List.mem_append.mpr (.inl hq), e⟩
        · exact ⟨q, List.mem_append.mpr (.inr hq), e⟩
    have due := along_due l r (L5.map pr) (List.pairwise_map.mpr (pw.imp fun h => h)) (nodup_pr (fun q hq => (tup5 q hq).2) nd) memT
    rw [← due] at q
    clear due memT selA selB
    -- the first and the last
    refine ⟨_, rfl, 1, rfl, p5, _, rfl, .inl (.inl g5), fun p6 H6 n6 s6 g6 => ⟨_, rfl, 1, rfl, p5, _, rfl, .inl (.inl (s6 _ _ g5)), fun p7 H7 n7 s7 g7 => ⟨1, rfl, -1, rfl, p7, _, rfl, .inl (.inl g7), fun p8 H8 n8 s8 g8 => ?_⟩⟩⟩
    rw [cut_rest] at g7 g8
    rw [cut_last] at g8
    rw [cut_first] at g6
    obtain ⟨S, eS⟩ : ∃ S, S = L5.take 1 ++ (L5.drop 1).drop ((L5.drop 1).length - 1) := ⟨_, rfl⟩
    have lenS : S.length ≤ 8 := by
      rw [eS, List.length_append, List.length_take, List.length_drop, List.length_drop]
      omega
    have q : ∀ w H', Same H H' → AtS K H' w ((S.map pr).map one3) → Q w H' := by
      have e : S.map pr = (L5.map pr).take 1 ++ ((L5.map pr).drop 1).drop (((L5.map pr).drop 1).length - 1) := by
        rw [eS, List.map_append, List.map_take, List.map_drop, List.map_drop, List.length_drop, List.length_drop, List.length_map]
      rw [e]
      exact q
    refine ⟨p6, p8, _, _, rfl, rfl, (s7.trans s8) _ _ g6, g8, ?_, fun p9 H9 n9 s9 g9 => ?_⟩
    · rw [List.length_take, List.length_drop, List.length_drop, List.length_map]
      exact Nat.le_of_lt (small1000 (by omega))
    have eL : (L5.map fun q => V.ref q.1).take 1 ++ ((L5.map fun q => V.ref q.1).drop 1).drop (((L5.map fun q => V.ref q.1).drop 1).length - 1) = S.map fun q => V.ref q.1 := by
      rw [eS, List.map_append, List.map_take, List.map_drop, List.map_drop, List.length_drop, List.length_drop, List.length_map]
    rw [eL] at g9
    have t9 := (((s6.trans s7).trans s8).trans s9)
    have tup9 : ∀ q ∈ S, SqT K H9 q.1 (q.2.map V.int) ∧ q.2.length = 2 := fun q hq => by
      have hm : q ∈ L5 := by
        rw [eS] at hq
        rcases List.mem_append.mp hq with z | z
        · exact List.mem_of_mem_take z
        · exact List.mem_of_mem_drop (List.mem_of_mem_drop z)
      exact ⟨seT t9 (tup5 q hm).1, (tup5 q hm).2⟩
    refine ⟨p9, rfl, ⟨_, .inl (.inl g9)⟩, fun pD nD => ?_⟩
    refine lcL (K := K) (a := p9) (xs := S.map fun q => V.ref q.1) (fun i H' => Same H9 H' ∧ ∃ ws, H' pD = some (.lst ws) ∧ AllAt (At3 K H') ws (((S.map pr).take i).map one3)) nD (fun H' e1 e2 => ⟨e1, [], e2, .nil⟩) (fun i H' _ z => .inl (.inl (by exact z.1 _ _ g9))) (fun i z H' hz w => ?_) (fun H10 z => ?_)
    · obtain ⟨t1, ws, t2, t3⟩ := w
      rw [List.getElem?_map] at hz
      cases hq : S[i]? with
      | none => rw [hq] at hz; cases hz
      | some k =>
        rw [hq] at hz
        cases hz
        obtain ⟨c1, c2⟩ := tup9 k (List.mem_of_getElem? hq)
        rw [pr_ints c2] at c1
        refine ⟨rfl, _, rfl, (by show 1 ≤ sizeLine; decide), fun p11 H11 n11 s11 g11 => ⟨k.1, p11, _, _, rfl, rfl, seT (t1.trans s11) c1, .inl (.inl g11), by simp, by simp, (by show 3 ≤ sizeLine; decide), fun p12 H12 n12 s12 g12 => ?_⟩⟩
        have := acc3 (K := K) (t := one3 (pr k)) nD (t1.trans s11) (s11 _ _ t2) (t3.map fun v s h => h.same s11) s12 n12 g12 (by rw [List.length_map, List.length_take, List.length_map]; omega)
        rw [List.take_add_one, List.getElem?_map, hq, List.map_append]
        exact this
    · obtain ⟨t1, ws, t2, t3⟩ := z
      rw [List.length_map, show S.length = (S.map pr).length from (List.length_map _).symm, List.take_length] at t3
      exact ⟨pD, ws, rfl, .inl (.inl t2), fun p13 H13 n13 s13 g13 => q _ _ (((((((tpA.trans tpB).trans s3).trans s4).trans s5).trans t9).trans t1).trans s13) ⟨p13, ws, rfl, .inl (.inl g13), t3.map fun _ _ z => z.same s13⟩⟩

theorem ok_law_due {f : Addr} {fd : FuncData} (F : Fun K "_law_due" "_law_due" s_law_due f fd) (T : Bt mg) (D_law_less : Def P w K mg base 1 "_law_less" ["_law_one", "_law_other"] (spLess K)) (D_law_turn : Def P w K mg base 1 "_law_turn" ["_law_one", "_law_other"] (spTurn K)) (D_law_lowest : Def P w K mg base 2 "_law_lowest" ["_law_n", "_law_m", "_law_d"] (spLowest K)) (D_law_due_along : Def P w K mg base 1 "_law_due_along" ["_law_one", "_law_other"] (spTwo K alo fun _ _ => True)) :
    FnG P w K mg base CX0 3 f fd ["_law_one", "_law_other"] (spTwo K cmn fun _ _ => True) := by
  refine okG (k := 2) F sc_law_due (fun vs H Q E h => ?_) (fun cdv A outer s H vs Q E hr h => ?_)
  · obtain ⟨u, v, l, r, rfl, _⟩ := h
    rfl
  · obtain ⟨u, v, l, r, rfl, hL, hR, bl, br, _, q⟩ := h
    refine ⟨_, (pss_cons (ps_asg (tupN (pa_cons (pv 0) (pa_cons (pv 1) pa_nil))) (pg_tup (by rfl) (pgs_cons (pg_tup (by rfl) (pgs_cons (pg_name (i := 2) sc_law_due.nd rfl (.inl rfl)) (pgs_cons (pg_name (i := 3) sc_law_due.nd rfl (.inl rfl)) pgs_nil))) (pgs_cons (pg_tup (by rfl) (pgs_cons (pg_name (i := 4) sc_law_due.nd rfl (.inl rfl)) (pgs_cons (pg_name (i := 5) sc_law_due.nd rfl (.inl rfl)) pgs_nil))) pgs_nil))))
      (pss_cons (ps_par3 (i := 6) (j := 7) (l := 8) (by rfl) sc_law_due.nd rfl rfl rfl (by decide) (by decide) (by decide) rfl rfl rfl (pa_cons (callD D_law_less (hr.mono (by decide)) (pa_cons (pv 3) (pa_cons (pv 2) pa_nil))) (pa_cons (callD D_law_less (hr.mono (by decide)) (pa_cons (pv 5) (pa_cons (pv 4) pa_nil))) (pa_cons (callD D_law_less (hr.mono (by decide)) (pa_cons (pv 4) (pa_cons (pv 2) pa_nil))) pa_nil))) (by rfl))
      (pss_cons (ps_set (i := 9) sc_law_due.nd rfl (.inl rfl) (callD D_law_turn (hr.mono (by decide)) (pa_cons (pv 6) (pa_cons (pv 7) pa_nil))))
      (pss_cons (ps_if (pt_cmpR op_eq (pv 9) pe_int (nomark _)) (pss_one (ps_ret (pe_ifExp (pt_cmpR op_eq (callD D_law_turn (hr.mono (by decide)) (pa_cons (pv 8) (pa_cons (pv 6) pa_nil))) pe_int (nomark _)) (callD D_law_due_along (hr.mono (by decide)) (pa_cons (pv 0) (pa_cons (pv 1) pa_nil))) (tupN pa_nil)))) pss_nil)
      (pss_cons (ps_set (i := 10) sc_law_due.nd rfl (.inl rfl) (pe_ix ix_list (lstN (pa_cons (pe_un un_neg pe_int) (pa_cons pe_int pa_nil))) (pe_callTy call_int1 (by rfl) T.int (by decide +kernel) (pa_cons (pe_cmpR op_gt (pv 9) pe_int (nomark _)) pa_nil)) (fun _ _ => rfl)))
      (pss_cons (ps_set (i := 9) sc_law_due.nd rfl (.inl rfl) (pe_op op_mul (pv 9) (pv 10)))
      (pss_cons (ps_set (i := 11) sc_law_due.nd rfl (.inl rfl) (pe_op op_mul (callD D_law_turn (hr.mono (by decide)) (pa_cons (pv 8) (pa_cons (pv 7) pa_nil))) (pv 10)))
      (pss_cons (ps_if (PW.pt (pw_or (pt_not (pt_chain op_le op_le pe_int (pv 11) (pv 9))) (pw_or1 (pt_not (pt_chain op_le op_le pe_int (pe_op op_mul (callD D_law_turn (hr.mono (by decide)) (pa_cons (pv 8) (pa_cons (pv 6) pa_nil))) (pv 10)) (pv 9)))))) (pss_one (ps_ret (tupN pa_nil))) pss_nil)
      (pss_one (ps_ret (tupN (pa_cons (callD D_law_lowest (hr.mono (by decide)) (pa_cons (pe_op op_add (pe_op op_mul (pe_ix ix_tup (pv 2) pe_int (fun _ _ => rfl)) (pv 9)) (pe_op op_mul (pe_ix ix_tup (pv 6) pe_int (fun _ _ => rfl)) (pv 11))) (pa_cons (pe_op op_add (pe_op op_mul (pe_ix ix_tup (pv 2) pe_int (fun _ _ => rfl)) (pv 9)) (pe_op op_mul (pe_ix ix_tup (pv 6) pe_int (fun _ _ => rfl)) (pv 11))) (pa_cons (pv 9) pa_nil)))) pa_nil)))))))))))), ?_⟩
    have b1 := bd_less bl.2 bl.1
    have b2 := bd_less br.2 br.1
    have b3 := bd_less br.1 bl.1
    have t1 := trn_lt b1 b2
    have ba := bl.1
    obtain ⟨a, x, y, ea, hS, hx, hy⟩ := id hL
    obtain ⟨b, x', y', eb, hS', hx', hy'⟩ := id hR
    subst ea eb
    refine ⟨_, rfl, _, rfl, (by show 2 ≤ sizeLine; decide), fun p1 H1 n1 s1 g1 => ⟨p1, _, rfl, .inl (.inl g1), rfl, _, _, rfl, a, _, rfl, seT s1 hS, rfl, _, _, rfl, _, _, rfl, rfl, _, _, rfl, b, _, rfl, seT s1 hS', rfl, _, _, rfl, _, _, rfl, rfl, rfl, ?_⟩⟩
    refine ⟨_, rfl, _, rfl, y, x, l.2, l.1, rfl, hy.same s1, hx.same s1, fun w1 H2 s2 e2 => ⟨_, rfl, _, rfl, y', x', r.2, r.1, rfl, (hy'.same s1).same s2, (hx'.same s1).same s2, fun w2 H3 s3 e3 => ?_⟩⟩
    have s13 := (s1.trans s2).trans s3
    refine ⟨_, rfl, _, rfl, x', x, r.1, l.1, rfl, hx'.same s13, hx.same s13, fun w3 H4 s4 e4 => ⟨_, _, _, rfl, ?_⟩⟩
    have s14 := s13.trans s4
    have f1 := (e2.same s3).same s4
    have f2 := e3.same s4
    have hL4 := hL.same s14
    have hR4 := hR.same s14
    refine ⟨_, rfl, _, rfl, w1, w2, _, _, rfl, f1, f2, b1, ?_⟩
    refine ⟨_, rfl, rfl, _, rfl, ?_⟩
    unfold cmn at q
    by_cases h0 : trn (less l.2 l.1) (less r.2 r.1) = 0
    · rw [if_neg (fun z => z h0)] at q
      rw [h0]
      refine iteT ⟨_, rfl, _, rfl, w3, w1, _, _, rfl, e4, f1, b3, rfl, _, rfl, ?_⟩
      rw [trn_neg]
      by_cases h1 : trn (less l.2 l.1) (less r.1 l.1) = 0
      · rw [if_neg (fun z => z h1)] at q
        rw [h1]
        exact iteT ⟨_, rfl, _, rfl, .ref a, .ref b, l, r, rfl, hL4, hR4, bl, br, trivial, fun w H' s e => q w H' (s14.trans s) e⟩
      · rw [if_pos h1] at q
        have e0 : decide (V.int (-trn (less l.2 l.1) (less r.1 l.1)) = V.int 0) = false := decide_eq_false (fun z => h1 (by have := V.int.inj z; omega))
        rw [e0]
        exact iteF ⟨Nat.zero_le _, fun p6 H6 n6 s6 g6 => q _ _ (s14.trans s6) ⟨p6, _, rfl, .inl (.inl g6), .nil⟩⟩
    · rw [if_pos h0] at q
      have e0 : decide (V.int (trn (less l.2 l.1) (less r.2 r.1)) = V.int 0) = false := decide_eq_false (fun z => h0 (V.int.inj z))
      rw [e0]
      refine iteF ⟨1, rfl, (by show 2 ≤ sizeLine; decide), fun pm H5 n5 s5 g5 => ⟨_, rfl, _, _, rfl, rfl, .inr ⟨_, rfl, pm, _, _, .int (kfs l r), rfl, rfl, .inl (.inl g5), ?_, ?_⟩⟩⟩
      · by_cases hp : 0 < trn (less l.2 l.1) (less r.2 r.1)
        · have ek : kfs l r = 1 := if_neg (by omega)
          rw [decide_eq_true hp, ek]
          rfl
        · have ek : kfs l r = -1 := if_pos (by omega)
          rw [decide_eq_false hp, ek]
          rfl
      have kb : -(2 ^ 64) < kfs l r ∧ kfs l r < 2 ^ 64 := by unfold kfs; split <;> omega
      have s15 := s14.trans s5
      have hpos : 0 < trn (less l.2 l.1) (less r.2 r.1) * kfs l r := klm_pos l r h0
      have hb : (trn (less l.2 l.1) (less r.2 r.1) * kfs l r).natAbs < 2 ^ 200 := by
        unfold kfs
        split <;> omega
      have key : ∀ (M N L S : Int), M = trn (less l.2 l.1) (less r.2 r.1) → N = trn (less r.1 l.1) (less r.2 r.1) → L = trn (less r.1 l.1) (less l.2 l.1) → S = kfs l r →
          ((0 ≤ N * S ∧ N * S ≤ M * S) ∧ (0 ≤ L * S ∧ L * S ≤ M * S) → acr l r = [sp3 (M * S * l.1.1 + N * S * (l.2.1 - l.1.1)) (M * S * l.1.2 + N * S * (l.2.2 - l.1.2)) (M * S)]) ∧
          (¬ ((0 ≤ N * S ∧ N * S ≤ M * S) ∧ (0 ≤ L * S ∧ L * S ≤ M * S)) → acr l r = []) := by
        rintro _ _ _ _ rfl rfl rfl rfl
        exact ⟨fun z => if_pos z, fun z => if_neg z⟩
      clear e0 t1
      generalize hS : kfs l r = S at kb hpos hb ⊢
      generalize hM : trn (less l.2 l.1) (less r.2 r.1) = M at hpos hb h0 ⊢
      refine ⟨_, rfl, _, rfl, _, _, rfl, rfl, .inr (by omega), ?_⟩
      refine ⟨_, rfl, _, rfl, w3, w2, _, _, rfl, e4.same s5, f2.same s5, b3, ?_⟩
      generalize hN : trn (less r.1 l.1) (less r.2 r.1) = N
      refine ⟨_, rfl, _, _, rfl, rfl, .inr (by omega), ?_⟩
      have fin : ∀ {H6 : Hp}, H6 = H5 → acr l r = [] → (0 : Nat) ≤ sizeLine ∧ New H6 (.tup []) Q := fun {H6} e ea => ⟨Nat.zero_le _, fun p6 H7 n6 s6 g6 => q _ _ (s15.trans (by rw [← e]; exact s6)) (by rw [ea]; exact ⟨p6, _, rfl, .inl (.inl g6), .nil⟩)⟩
      have key2 := fun L (hL : L = trn (less r.1 l.1) (less l.2 l.1)) => key M N L S hM.symm hN.symm hL hS.symm
      clear key
      by_cases c1 : 0 ≤ N * S ∧ N * S ≤ M * S
      · refine ⟨_, rfl, _, _, rfl, rfl, _, rfl, ?_⟩
        rw [decide_eq_true c1.1]
        refine iteT ⟨_, rfl, _, _, rfl, rfl, _, rfl, ?_⟩
        rw [decide_eq_true c1.2]
        refine iteF ⟨_, rfl, _, rfl, w3, w1, _, _, rfl, e4.same s5, f1.same s5, b3, ?_⟩
        have key3 := key2 _ rfl
        revert key3
        generalize trn (less r.1 l.1) (less l.2 l.1) = L
        intro key3
        refine ⟨_, rfl, _, _, rfl, rfl, .inr (by omega), _, _, rfl, rfl, _, rfl, ?_⟩
        by_cases c2 : 0 ≤ L * S ∧ L * S ≤ M * S
        · have ea := key3.1 ⟨c1, c2⟩
          rw [ea] at q
          clear fin key3 key2
          rw [decide_eq_true c2.1]
          refine iteT ⟨_, rfl, _, _, rfl, rfl, _, rfl, ?_⟩
          rw [decide_eq_true c2.2]
          refine iteF ?_
          obtain ⟨c, ec, hc⟩ := (hx.same s15)
          obtain ⟨w, ew, hw⟩ := (f1.same s5)
          subst ec ew
          clear c1 c2 hN hM hS kb h0
          unfold BdP at b1
          unfold BdC at ba
          have m1 : CMul l.1.1 (M * S) := .inl (by omega)
          have m2 : CMul l.1.2 (M * S) := .inl (by omega)
          have m3 : CMul (less l.2 l.1).1 (N * S) := .inl (by omega)
          have m4 : CMul (less l.2 l.1).2 (N * S) := .inl (by omega)
          refine ⟨_, rfl, c, _, 0, _, rfl, rfl, hc, rfl, ?_⟩
          refine ⟨_, rfl, _, _, rfl, rfl, m1, ?_⟩
          refine ⟨_, rfl, w, _, 0, _, rfl, rfl, hw, rfl, ?_⟩
          refine ⟨_, rfl, _, _, rfl, rfl, m3, ?_⟩
          refine ⟨_, _, rfl, rfl, ?_⟩
          refine ⟨_, rfl, c, _, 1, _, rfl, rfl, hc, rfl, ?_⟩
          refine ⟨_, rfl, _, _, rfl, rfl, m2, ?_⟩
          refine ⟨_, rfl, w, _, 1, _, rfl, rfl, hw, rfl, ?_⟩
          refine ⟨_, rfl, _, _, rfl, rfl, m4, ?_⟩
          refine ⟨_, _, rfl, rfl, ?_⟩
          refine ⟨_, rfl, _, _, M * S, rfl, hpos, hb, fun w6 H6 s6 e6 => ⟨(by show 1 ≤ sizeLine; decide), fun p7 H7 n7 s7 g7 => q _ _ ((s15.trans s6).trans s7) ⟨p7, _, rfl, .inl (.inl g7), .cons (At3.same ?_ s7) .nil⟩⟩⟩
          have e7 : sp3 (l.1.1 * (M * S) + (l.2.1 - l.1.1) * (N * S)) (l.1.2 * (M * S) + (l.2.2 - l.1.2) * (N * S)) (M * S) = sp3 (M * S * l.1.1 + N * S * (l.2.1 - l.1.1)) (M * S * l.1.2 + N * S * (l.2.2 - l.1.2)) (M * S) := by
            rw [Int.mul_comm l.1.1, Int.mul_comm l.1.2, Int.mul_comm _ (N * S), Int.mul_comm _ (N * S)]
          rw [← e7]
          exact e6
        · have ea := key3.2 (fun z => c2 z.2)
          refine ite2 (fun e => ⟨_, rfl, _, _, rfl, rfl, _, rfl, ?_⟩) (fun e => ⟨_, rfl, iteT (fin rfl ea)⟩)
          rw [decide_eq_false (fun z => c2 ⟨of_decide_eq_true e, z⟩)]
          exact iteT (fin rfl ea)
      · have ea := (key2 _ rfl).2 (fun z => c1 z.1)
        refine ⟨_, rfl, _, _, rfl, rfl, _, rfl, ite2 (fun e => ⟨_, rfl, _, _, rfl, rfl, _, rfl, ?_⟩) (fun e => ⟨_, rfl, iteT (iteT (fin rfl ea))⟩)⟩
        rw [decide_eq_false (fun z => c1 ⟨of_decide_eq_true e, z⟩)]
        exact iteT (iteT (fin rfl ea))

end
end Cl

set_option maxHeartbeats 0
namespace Cl
open PySem PySem.Spec PyProof.Rows L2
open GxR (TabB TabG)

section
variable {P : Program} {w : World} {K : PySem.W.Frag} {mg : Str → Option Value} {base : Heap}

theorem ok_law_line {f : Addr} {fd : FuncData} (F : Fun K "_law_line" "_law_line" s_law_line f fd) (T : Bt mg) (D_law_draw : Def P w K mg base 1 "_law_draw" ["_law_deck_here", "_law_most"] spDraw) (D_law_unlike : Def P w K mg base 1 "_law_unlike" ["_law_one", "_law_other"] (spUnlike K)) (D_law_point : Def P w K mg base 2 "_law_point" ["_law_deck_here", "_law_grain_here"] (spPointX K)) (D_law_beside : Def P w K mg base 2 "_law_beside" ["_law_deck_here", "_law_line_here", "_law_one", "_law_other"] (spBesideX K)) :
    FnG P w K mg base CX0 3 f fd ["_law_deck_here", "_law_grain_here", "_law_lines_here"] (spLineX K) := by
  refine okG (k := 2) F sc_law_line (fun vs H Q E h => ?_) (fun cdv A outer s H vs Q E hr h => ?_)
  · obtain ⟨d, l, g, L, ws, ls, rfl, _⟩ := h
    rfl
  · obtain ⟨d, l, g, L, ws, ls, rfl, h0, h1, D, nd_, nl_, hL, hall, hlen, hgood, q⟩ := h
    refine ⟨_, (pss_cons (ps_set (i := 3) sc_law_line.nd rfl (.inl rfl) (callD D_law_draw (hr.mono (by decide)) (pa_cons (pv 0) (pa_cons pe_int pa_nil))))
      (pss_cons (ps_par (i := 4) (j := 5) (by rfl) sc_law_line.nd rfl rfl (by decide) rfl rfl (pa_cons (callD D_law_point (hr.mono (by decide)) (pa_cons (pv 0) (pa_cons (pv 1) pa_nil))) (pa_cons (callD D_law_point (hr.mono (by decide)) (pa_cons (pv 0) (pa_cons (pv 1) pa_nil))) pa_nil)) (by rfl))
      (pss_cons (ps_if (PW.pt (pw_or (pt_cmpR (op_eqD hr.room.units) (pv 2) (lstN pa_nil) (nomark _)) (pw_or1 (pt_cmpR op_eq (pv 3) pe_int (nomark _))))) (pss_one (ps_ret (callD D_law_unlike (hr.mono (by decide)) (pa_cons (pv 4) (pa_cons (pv 5) pa_nil))))) pss_nil)
      (pss_cons (ps_set (i := 6) sc_law_line.nd rfl (.inl rfl) (pe_ix ix_list (pv 2) (callD D_law_draw (hr.mono (by decide)) (pa_cons (pv 0) (pa_cons (pe_callB call_len_seq (by rfl) T.len (by decide +kernel) (pa_cons (pv 2) pa_nil)) pa_nil))) (fun _ _ => rfl)))
      (pss_cons (ps_if (pt_cmpR op_gt (pe_callB (cr_max rfl) (by rfl) T.max (by decide +kernel) (pa_cons (pe_lc (own := [("_law_number", 7)]) (g := gName 7) (tt := tYes) (by rfl) sc_law_line.nd (pi_tup (pe_op op_catTN (pe_ix ix_tup (pv 6) pe_int (fun _ _ => rfl)) (pe_ix ix_tup (pv 6) pe_int (fun _ _ => rfl)))) (blkOk_by (own := [("_law_number", 7)]) (N := ["_law_deck_here", "_law_grain_here", "_law_lines_here", "_law_way", "_law_one", "_law_other", "_law_line_here", "_law_number"]) (sc := defScope s_law_line) (by decide +kernel)) (fun _ _ _ _ _ => (pg_name (i := 7) sc_law_line.nd rfl (.inl rfl))) (fun _ _ _ _ _ => pts_nil) (fun _ _ _ _ _ => (pe_callB call_abs (by rfl) T.abs (by decide +kernel) (pa_cons (pv 7) pa_nil)))) pa_nil)) (pe_op op_mul pe_int (pv 1)) (nomark _)) (pss_one (ps_ret (callD D_law_unlike (hr.mono (by decide)) (pa_cons (pv 4) (pa_cons (pv 5) pa_nil))))) pss_nil)
      (pss_one (ps_ret (callD D_law_beside (hr.mono (by decide)) (pa_cons (pv 0) (pa_cons (pv 6) (pa_cons (pv 4) (pa_cons (pv 5) pa_nil)))))))))))), ?_⟩
    have lw := hall.length
    refine ⟨.ref d, rfl, d, l, 2, rfl, by decide, by decide, D, fun way H1 w0 w1 S1 => ?_⟩
    refine ⟨.ref d, rfl, _, rfl, d, l, g, rfl, h0, h1, S1.deck, fun m1 H2 p S2 e2 b2 => ⟨.ref d, rfl, _, rfl, d, l, g, rfl, h0, h1, S2.deck, fun m2 H3 p2 S3 e3 b3 => ⟨_, _, rfl, ?_⟩⟩⟩
    have S := (S1.trans S2).trans S3
    have D3 := S3.deck
    have f2 := e2.step S3 S2.deck
    have hL3 := S.at nd_ nl_ hL
    have all3 : AllAt (AtL K H3) ws ls := hall.map fun _ _ z => z.step S D
    have un : ∀ {H4 : Hp}, Step d l H3 H4 → spUnlike K [m1, m2] H4 Q E0 := fun {H4} S4 =>
      ⟨m1, m2, p, p2, rfl, f2.step S4 D3, e3.step S4 D3, fun w H5 r' s5 e5 r1 r2 r3 => q _ _ _ ((S.trans S4).trans (Step.of S4.deck s5)) e5 ⟨by rw [r1]; unfold BdN at *; omega, by rcases r3 with z | z <;> rw [z] <;> unfold BdN at * <;> (try simp only) <;> omega, r2⟩⟩
    refine ⟨_, rfl, Nat.zero_le _, fun pe He ne se ge => ?_⟩
    have Se := Step.of D3 se
    refine ⟨_, _, .lst (.inl (.inl (se _ _ hL3))) (lines_dp (all3.map fun _ _ z => z.same se)), .lst (.inl (.inl ge)) .nil, shapedLines ls, rfl, _, rfl, ?_⟩
    show if PyData.eqv (.list (ls.map dl)) (.list []) = true then _ else _
    rw [eqvNilL]
    refine ite2 (fun e => iteT ⟨_, rfl, _, rfl, un Se⟩) (fun e => ?_)
    have npos : 0 < ls.length := by
      cases ls with
      | nil => exact absurd rfl e
      | cons a b => simp
    refine ⟨_, rfl, rfl, _, rfl, ite2 (fun e => ⟨_, rfl, _, rfl, un Se⟩) (fun e => ?_)⟩
    -- line = lines[draw(len(lines))]
    refine ⟨_, rfl, .ref d, rfl, _, rfl, L, _, rfl, .inl (.inl (.inl (se _ _ hL3))), d, l, _, rfl, by omega, by omega, Se.deck, fun i H4 i0 i1 S4 => ?_⟩
    have Sx := Se.trans S4
    have hL4 := S4.at nd_ nl_ (se _ _ hL3)
    have i2 : i.toNat < ws.length := by omega
    obtain ⟨v, hv⟩ : ∃ v, ws[i.toNat]? = some v := ⟨_, List.getElem?_eq_getElem i2⟩
    obtain ⟨r, hr_, hvr⟩ := (all3.map fun _ _ z => z.step Sx D3).get hv
    have gr := hgood r (List.mem_of_getElem? hr_)
    have ei : i = (i.toNat : Int) := by omega
    refine ⟨L, ws, i, v, rfl, rfl, .inl (.inl hL4), by rw [ei]; exact atI_nat hv, ?_⟩
    obtain ⟨a, _, _, ea, hS, ⟨b, rfl, hb⟩, ⟨c, rfl, hc⟩⟩ := id hvr
    subst ea
    -- max(abs ..)
    refine ⟨_, rfl, a, _, 0, _, rfl, rfl, hS, rfl, _, rfl, a, _, 1, _, rfl, rfl, hS, rfl, b, c, _, _, rfl, rfl, hb, hc, by simp, by simp, (by show 4 ≤ sizeLine; decide), fun p5 H5 n5 s5 g5 => ⟨p5, rfl, ⟨_, .inl (.inl g5)⟩, fun pD nD => ?_⟩⟩
    refine lcT (K := K) (a := p5) (xs := [.int r.1.1, .int r.1.2, .int r.2.1, .int r.2.2]) (fun i H' => Same H5 H' ∧ H' pD = some (.lst ((([r.1.1, r.1.2, r.2.1, r.2.2].take i).map fun z : Int => if z < 0 then -z else z).map V.int))) nD (fun H' e1 e2 => ⟨e1, e2⟩) (fun i H' _ z => seT z.1 (.inl (.inl g5))) (fun i z H' hz w => ?_) (fun H6 z => ?_)
    · obtain ⟨t1, t2⟩ := w
      have hk : ∃ k : Int, z = .int k ∧ [r.1.1, r.1.2, r.2.1, r.2.2][i]? = some k := by
        match i, hz with
        | 0, hz => exact ⟨_, (Option.some.inj hz).symm, rfl⟩
        | 1, hz => exact ⟨_, (Option.some.inj hz).symm, rfl⟩
        | 2, hz => exact ⟨_, (Option.some.inj hz).symm, rfl⟩
        | 3, hz => exact ⟨_, (Option.some.inj hz).symm, rfl⟩
        | i + 4, hz => cases hz
      obtain ⟨k, rfl, hk⟩ := hk
      refine ⟨rfl, _, rfl, _, rfl, _, t2, ?_, ?_, ?_⟩
      · rw [List.length_map, List.length_map, List.length_take]; exact small1000 (by show min i 4 ≤ 1000; omega)
      · intro b o e
        rw [upd_ne (ne_of_none e nD)]
        exact t1 _ _ e
      · rw [upd_same, List.take_add_one, hk, List.map_append, List.map_append]
        rfl
    · obtain ⟨t1, t2⟩ := z
      refine ⟨pD, _, rfl, .inl (.inl t2), by simp, fun m hm hle => ?_⟩
      have S6 := Sx.trans (Step.of S4.deck (s5.trans t1))
      refine ⟨_, rfl, _, _, rfl, rfl, .inl (by decide), _, _, rfl, rfl, _, rfl, ite2 (fun e => ⟨_, rfl, _, rfl, un S6⟩) (fun e => ?_)⟩
      have em : ¬ (20 * g < m) := fun z => e (decide_eq_true z)
      have bd : ∀ z ∈ [r.1.1, r.1.2, r.2.1, r.2.2], -20000 ≤ z ∧ z ≤ 20000 := fun z hz => by
        have := hle _ (List.mem_map.mpr ⟨z, hz, rfl⟩)
        split at this <;> omega
      have c1 := bd r.1.1 (by simp)
      have c2 := bd r.1.2 (by simp)
      have c3 := bd r.2.1 (by simp)
      have c4 := bd r.2.2 (by simp)
      exact ⟨.ref d, rfl, _, rfl, _, rfl, _, rfl, d, l, .ref a, m1, m2, r, p, p2, rfl, S6.deck, hvr.same (s5.trans t1), ⟨⟨c1, c2⟩, ⟨c3, c4⟩, gr.2.2⟩, f2.step S6 D3, b2, e3.step S6 D3, b3, fun w H7 r' S7 e7 g7 => q _ _ _ ((S.trans S6).trans S7) e7 g7⟩

theorem ok_law_lines {f : Addr} {fd : FuncData} (F : Fun K "_law_lines" "_law_lines" s_law_lines f fd) (T : Bt mg) (D_law_draw : Def P w K mg base 1 "_law_draw" ["_law_deck_here", "_law_most"] spDraw) (D_law_line : Def P w K mg base 3 "_law_line" ["_law_deck_here", "_law_grain_here", "_law_lines_here"] (spLineX K)) :
    FnG P w K mg base CX0 4 f fd ["_law_deck_here", "_law_grain_here", "_law_many_here"] (spLinesX K) := by
  refine okG (k := 3) F sc_law_lines (fun vs H Q E h => ?_) (fun cdv A outer s H vs Q E hr h => ?_)
  · obtain ⟨d, l, g, n, rfl, _⟩ := h
    rfl
  · obtain ⟨d, l, g, n, rfl, h0, h1, hn, D, q⟩ := h
    refine ⟨_, (pss_cons (ps_set (i := 3) sc_law_lines.nd rfl (.inl rfl) (pe_cmpR op_eq (callD D_law_draw (hr.mono (by decide)) (pa_cons (pv 0) (pa_cons pe_int pa_nil))) pe_int (nomark _)))
      (pss_cons (ps_set (i := 4) sc_law_lines.nd rfl (.inl rfl) (lstN pa_nil))
      (pss_cons (ps_for PassesOwn.never rfl (pi_range1 (by rfl) T.range (pa_cons pe_int pa_nil)) (pg_name (i := 5) sc_law_lines.nd rfl (.inl rfl)) (pss_cons (ps_par (i := 6) (j := 7) (by rfl) sc_law_lines.nd rfl rfl (by decide) rfl rfl (pa_cons (pe_op op_sub (callD D_law_draw (hr.mono (by decide)) (pa_cons (pv 0) (pa_cons (pe_op op_add (pe_op op_mul pe_int (pv 1)) pe_int) pa_nil))) (pe_op op_mul pe_int (pv 1))) (pa_cons (pe_op op_add (pe_op op_mul (callD D_law_draw (hr.mono (by decide)) (pa_cons (pv 0) (pa_cons pe_int pa_nil))) pe_int) (callD D_law_draw (hr.mono (by decide)) (pa_cons (pv 0) (pa_cons pe_int pa_nil)))) pa_nil)) (by rfl))
      (pss_one (ps_expr (pe_bm PySem.F.plainAttrs_list PySem.F.slot_list_append PySem.F.type_list_append mt_append (pv 4) (pa_cons (pe_ix ix_list (lstN (pa_cons (pv 6) (pa_cons (pe_ix ix_list (lstN (pa_cons (pv 7) (pa_cons (pe_op op_sub pe_int (pv 7)) pa_nil))) (callD D_law_draw (hr.mono (by decide)) (pa_cons (pv 0) (pa_cons pe_int pa_nil))) (fun _ _ => rfl)) pa_nil))) (pe_callTy call_int1 (by rfl) T.int (by decide +kernel) (pa_cons (pv 3) pa_nil)) (fun _ _ => rfl)) pa_nil))))))
      (pss_cons (ps_set (i := 8) sc_law_lines.nd rfl (.inl rfl) (lstN pa_nil))
      (pss_cons (ps_for PassesOwn.never rfl (pi_range1 (by rfl) T.range (pa_cons (pv 2) pa_nil)) (pg_name (i := 5) sc_law_lines.nd rfl (.inl rfl)) (pss_one (ps_expr (pe_bm PySem.F.plainAttrs_list PySem.F.slot_list_append PySem.F.type_list_append mt_append (pv 8) (pa_cons (callD D_law_line (hr.mono (by decide)) (pa_cons (pv 0) (pa_cons (pv 1) (pa_cons (pv 8) pa_nil)))) pa_nil)))))
      (pss_cons (ps_asg (pv 4) (pg_lst (by rfl) (pgs_cons (pg_name (i := 9) sc_law_lines.nd rfl (.inr rfl)) (pgs_cons (pg_name (i := 10) sc_law_lines.nd rfl (.inr rfl)) pgs_nil))))
      (pss_one (ps_ret (pe_callTy call_tuple_ofN (by rfl) T.tuple (by decide +kernel) (pa_cons (pe_lc (own := [("_law_x", 11), ("_law_y", 12), ("_law_u", 13), ("_law_v", 14)]) (g := gTup K 2 (gCons (gTup K 2 (gCons (gName 11) (gCons (gName 12) gNil))) (gCons (gTup K 2 (gCons (gName 13) (gCons (gName 14) gNil))) gNil))) (tt := tYes) (by rfl) sc_law_lines.nd (pi_list (pv 8)) (blkOk_by (own := [("_law_x", 11), ("_law_y", 12), ("_law_u", 13), ("_law_v", 14)]) (N := ["_law_deck_here", "_law_grain_here", "_law_many_here", "_law_away", "_law_moves", "_law_k", "_law_near", "_law_far", "_law_lines_here", "_law_dx", "_law_dy", "_law_x", "_law_y", "_law_u", "_law_v"]) (sc := defScope s_law_lines) (by decide +kernel)) (fun _ _ _ _ _ => (pg_tup (by rfl) (pgs_cons (pg_tup (by rfl) (pgs_cons (pg_name (i := 11) sc_law_lines.nd rfl (.inl rfl)) (pgs_cons (pg_name (i := 12) sc_law_lines.nd rfl (.inl rfl)) pgs_nil))) (pgs_cons (pg_tup (by rfl) (pgs_cons (pg_name (i := 13) sc_law_lines.nd rfl (.inl rfl)) (pgs_cons (pg_name (i := 14) sc_law_lines.nd rfl (.inl rfl)) pgs_nil))) pgs_nil)))) (fun _ _ _ _ _ => pts_nil) (fun _ _ _ _ _ => (tupN (pa_cons (tupN (pa_cons (pe_op op_add (pv 11) (pv 9)) (pa_cons (pe_op op_add (pv 12) (pv 10)) pa_nil))) (pa_cons (tupN (pa_cons (pe_op op_add (pv 13) (pv 9)) (pa_cons (pe_op op_add (pv 14) (pv 10)) pa_nil))) pa_nil))))) pa_nil)))))))))), ?_⟩
    refine ⟨.ref d, rfl, d, l, 8, rfl, by decide, by decide, D, fun aw H1 a0 a1 S1 => ⟨rfl, ?_⟩⟩
    generalize decide (V.int aw = V.int 5) = away
    refine ⟨Nat.zero_le _, fun M H2 n2 s2 g2 => ?_⟩
    have nMd := (S1.deck.nd n2).1
    have nMl := (S1.deck.nd n2).2
    refine ⟨2, rfl, by decide, by decide, for_range (n := 2) (fun i σ H' => ∃ y5 y6 y7 y8 y9 y10 y11 y12 y13 y14, σ = [some (.ref d), some (.int g), some (.int (n : Int)), some (.bl away), some (.ref M), y5, y6, y7, y8, y9, y10, y11, y12, y13, y14] ∧ Step d l H1 H' ∧
      ∃ ms : List Int, H' M = some (.lst (ms.map V.int)) ∧ ms.length = i ∧ ∀ m ∈ ms, -1000000 ≤ m ∧ m ≤ 1000000) ?_ ?_ ?_⟩
    · exact ⟨_, _, _, _, _, _, _, _, _, _, rfl, Step.of S1.deck s2, [], g2, rfl, fun m hm => nomatch hm⟩
    · rintro i σ H3 hi ⟨y5, y6, y7, y8, y9, y10, y11, y12, y13, y14, rfl, S3, ms, eM, lM, bM⟩
      refine ⟨.ref d, rfl, _, rfl, _, _, rfl, rfl, .inl (by decide), _, _, rfl, rfl, d, l, _, rfl, by omega, by omega, S3.deck, fun nx H4 b0 b1 S4 => ⟨_, rfl, _, _, rfl, rfl, .inl (by decide), _, _, rfl, rfl, ?_⟩⟩
      refine ⟨.ref d, rfl, d, l, 800, rfl, by decide, by decide, S4.deck, fun f1 H5 c0 c1 S5 => ⟨_, _, rfl, rfl, .inr (by decide), .ref d, rfl, d, l, 1000, rfl, by decide, by decide, S5.deck, fun f2 H6 d0 d1 S6 => ⟨_, _, rfl, rfl, _, _, rfl, ?_⟩⟩⟩
      have S36 := (S4.trans S5).trans S6
      have eM6 := S36.at nMd nMl eM
      refine ⟨.ref M, rfl, .inl ⟨rfl, _, .inl (.inl eM6)⟩, _, rfl, _, rfl, _, rfl, _, _, rfl, rfl, (by show 2 ≤ sizeLine; decide), fun p7 H7 n7 s7 g7 => ⟨.ref d, rfl, d, l, 2, rfl, by decide, by decide, (Step.of S6.deck s7).deck, fun i8 H8 i80 i81 S8 => ?_⟩⟩
      have np7 := S6.deck.nd n7
      have e7 := S8.at np7.1 np7.2 g7
      obtain ⟨x, hx, hx1⟩ : ∃ x : Int, atI [V.int (f1 * 1000 + f2), .int (0 - (f1 * 1000 + f2))] i8 = some (.int x) ∧ (-1000000 ≤ x ∧ x ≤ 1000000) := by
        obtain rfl | rfl : i8 = 0 ∨ i8 = 1 := by omega
        · exact ⟨_, rfl, by omega⟩
        · exact ⟨_, rfl, by omega⟩
      refine ⟨p7, _, i8, _, rfl, rfl, .inl (.inl e7), hx, (by show 2 ≤ sizeLine; decide), fun p9 H9 n9 s9 g9 => ?_⟩
      obtain ⟨y, hy, hy1⟩ : ∃ y : Int, atI [V.int (nx - 3 * g), .int x] (if away = true then 1 else 0) = some (.int y) ∧ (-1000000 ≤ y ∧ y ≤ 1000000) := by
        cases away
        · exact ⟨_, rfl, by omega⟩
        · exact ⟨_, rfl, hx1⟩
      have S39 := ((S36.trans (Step.of S6.deck s7)).trans S8).trans (Step.of S8.deck s9)
      have eM9 := S39.at nMd nMl eM
      refine ⟨_, rfl, .inr ⟨_, rfl, p9, _, _, _, rfl, rfl, .inl (.inl g9), hy, M, _, _, rfl, rfl, eM9, by rw [List.length_map, lM]; exact small1000 (by omega), ?_⟩⟩
      refine ⟨_, _, _, _, _, _, _, _, _, _, rfl, (S3.trans S39).updN nMd nMl n2, ms ++ [y], by rw [upd_same, List.map_append]; rfl, by rw [List.length_append, lM]; rfl, fun m hm => ?_⟩
      rcases List.mem_append.mp hm with z | z
      · exact bM m z
      · rw [List.mem_singleton.mp z]; exact hy1
    · rintro σ H3 ⟨y5, y6, y7, y8, y9, y10, y11, y12, y13, y14, rfl, S3, ms, eM, lM, bM⟩
      refine ⟨Nat.zero_le _, fun L H4 n4 s4 g4 => ?_⟩
      have nL := S3.deck.nd n4
      have nML : M ≠ L := ne_of_none eM n4
      refine ⟨_, rfl, n, rfl, by omega, by omega, for_range (n := n) (fun i σ H' => ∃ y5 y6 y7 y9 y10 y11 y12 y13 y14, σ = [some (.ref d), some (.int g), some (.int (n : Int)), some (.bl away), some (.ref M), y5, y6, y7, some (.ref L), y9, y10, y11, y12, y13, y14] ∧ Step d l H3 H' ∧
        H' M = some (.lst (ms.map V.int)) ∧ ∃ ws ls, H' L = some (.lst ws) ∧ AllAt (AtL K H') ws ls ∧ ls.length = i ∧ ∀ r ∈ ls, GoodLn 300000 r) ?_ ?_ ?_⟩
      · exact ⟨_, _, _, _, _, _, _, _, _, rfl, Step.of S3.deck s4, s4 _ _ eM, [], [], g4, .nil, rfl, fun r hr => nomatch hr⟩
      · rintro i σ H5 hi ⟨y5, y6, y7, y9, y10, y11, y12, y13, y14, rfl, S5, eM5, ws, ls, eL, hall, hlen, hgood⟩
        refine ⟨.ref L, rfl, .inl ⟨rfl, _, .inl (.inl eL)⟩, .ref d, rfl, _, rfl, _, rfl, d, l, g, L, ws, ls, rfl, h0, h1, S5.deck, nL.1, nL.2, eL, hall, by omega, hgood, fun w H6 r S6 e6 g6 => ?_⟩
        have eL6 := S6.at nL.1 nL.2 eL
        have eM6 := S6.at nMd nMl eM5
        refine ⟨L, _, w, rfl, rfl, eL6, by rw [hall.length, hlen]; exact small1000 (by omega), ?_⟩
        refine ⟨_, _, _, _, _, _, _, _, _, rfl, (S5.trans S6).updN nL.1 nL.2 n4, by rw [upd_ne nML]; exact eM6, ws ++ [w], ls ++ [r], upd_same, AllAt.app (hall.map fun _ _ z => AtL.upd (z.step S6 S5.deck) eL6) (.cons (AtL.upd e6 eL6) .nil), by rw [List.length_append, hlen]; rfl, fun r' hr => ?_⟩
        rcases List.mem_append.mp hr with z | z
        · exact hgood r' z
        · rw [List.mem_singleton.mp z]; exact g6
      · rintro σ H5 ⟨y5, y6, y7, y9, y10, y11, y12, y13, y14, rfl, S5, eM5, ws, ls, eL, hall, hlen, hgood⟩
        obtain ⟨m1, m2, rfl⟩ := two lM
        have b1 := bM m1 (by simp)
        have b2 := bM m2 (by simp)
        refine ⟨_, rfl, M, _, rfl, .inl (.inl eM5), rfl, _, _, rfl, _, _, rfl, rfl, ?_⟩
        refine ⟨_, rfl, L, rfl, ⟨_, .inl (.inl eL)⟩, fun pD nD => ?_⟩
        refine lcL (K := K) (a := L) (xs := ws) (fun i H' => Same H5 H' ∧ ∃ vs, H' pD = some (.lst vs) ∧ AllAt (AtL K H') vs ((ls.take i).map fun r : Ln => ((r.1.1 + m1, r.1.2 + m2), (r.2.1 + m1, r.2.2 + m2)))) nD (fun H' e1 e2 => ⟨e1, [], e2, .nil⟩) (fun i H' _ z => .inl (.inl (z.1 _ _ eL))) (fun i z H' hz w => ?_) (fun H6 z => ?_)
        · obtain ⟨t1, vs, t2, t3⟩ := w
          obtain ⟨r, hr_, a, _, _, rfl, hS, ⟨b, rfl, hb⟩, ⟨c, rfl, hc⟩⟩ := hall.get hz
          refine ⟨a, _, rfl, seT t1 hS, rfl, _, _, rfl, b, _, rfl, seT t1 hb, rfl, _, _, rfl, _, _, rfl, rfl, _, _, rfl, c, _, rfl, seT t1 hc, rfl, _, _, rfl, _, _, rfl, rfl, rfl, ?_⟩
          refine ⟨rfl, _, rfl, _, rfl, _, _, rfl, rfl, _, rfl, _, rfl, _, _, rfl, rfl, (by show 2 ≤ sizeLine; decide), fun p7 H7 n7 s7 g7 => ?_⟩
          refine ⟨_, rfl, _, rfl, _, _, rfl, rfl, _, rfl, _, rfl, _, _, rfl, rfl, (by show 2 ≤ sizeLine; decide), fun p8 H8 n8 s8 g8 => ⟨(by show 2 ≤ sizeLine; decide), fun p9 H9 n9 s9 g9 => ?_⟩⟩
          have s79 := (s7.trans s8).trans s9
          have k9 := s79 _ _ t2
          refine ⟨vs, k9, by rw [t3.length, List.length_map, List.length_take]; exact small1000 (by omega), fun b o z => ?_, vs ++ [.ref p9], upd_same, ?_⟩
          · rw [upd_ne (ne_of_none z nD)]; exact (t1.trans s79) _ _ z
          · rw [List.take_add_one, hr_, List.map_append]
            exact AllAt.app (t3.map fun _ _ z => AtL.upd (z.same s79) k9) (.cons (AtL.upd ⟨p9, _, _, rfl, .inl (.inl g9), ⟨p7, rfl, .inl (.inl ((s8.trans s9) _ _ g7))⟩, ⟨p8, rfl, .inl (.inl (s9 _ _ g8))⟩⟩ k9) .nil)
        · obtain ⟨t1, vs, t2, t3⟩ := z
          rw [hall.length, List.take_length] at t3
          refine ⟨pD, vs, rfl, .inl (.inl t2), fun p8 H8 n8 s8 g8 => ?_⟩
          have St := ((S1.trans S3).trans S5).trans (Step.of S5.deck (t1.trans s8))
          refine q _ _ (ls.map fun r : Ln => ((r.1.1 + m1, r.1.2 + m2), (r.2.1 + m1, r.2.2 + m2))) St ⟨p8, vs, rfl, .inl (.inl g8), t3.map fun _ _ z => z.same s8⟩ (by rw [List.length_map]; exact hlen) fun r' hr => ?_
          obtain ⟨r, hr2, rfl⟩ := List.mem_map.mp hr
          obtain ⟨c1, c2, c3⟩ := hgood r hr2
          unfold BdN at c1 c2
          refine ⟨?_, ?_, fun z => c3 ?_⟩
          · unfold BdN; simp only; omega
          · unfold BdN; simp only; omega
          · have z1 := congrArg Prod.fst z
            have z2 := congrArg Prod.snd z
            simp only at z1 z2
            exact Prod.ext (by omega) (by omega)

end
end Cl

set_option maxHeartbeats 0
namespace Cl
open PySem PySem.Spec PyProof.Rows L2
open GxR (TabB TabG)

section
variable {P : Program} {w : World} {K : PySem.W.Frag} {mg : Str → Option Value} {base : Heap}

theorem okpairs_below {f : Addr} {fd : FuncData} (F : Fun K "pairs_below" "pairs_below" spairs_below f fd) (T : Bt mg) :
    FnG P w K mg base CX0 1 f fd ["many"] (spPairs K) := by
  refine okG (k := 0) F scpairs_below (fun vs H Q E h => ?_) (fun cdv A outer s H vs Q E hr h => ?_)
  · obtain ⟨n, rfl, _⟩ := h
    rfl
  · obtain ⟨n, rfl, hn, q⟩ := h
    refine ⟨_, (pss_one (ps_ret (pe_lc2 (own := [("k", 1), ("l", 2)]) (vs1 := [2]) (g := gName 1) (g1 := gName 2) (tt := tYes) (tt1 := tYes) (by rfl) scpairs_below.nd (pi_range1 (by rfl) T.range (pa_cons (pv 0) pa_nil)) (blkOk_by (own := [("k", 1), ("l", 2)]) (N := ["many", "k", "l"]) (sc := defScope spairs_below) (by decide +kernel)) (by decide) (fun _ _ _ _ _ => (pg_name (i := 1) scpairs_below.nd rfl (.inl rfl))) (fun _ _ _ _ _ => pts_nil) (fun _ _ _ _ _ => (pi_range2 (by rfl) T.range (pa_cons (pe_op op_add (pv 1) pe_int) (pa_cons (pv 0) pa_nil)))) (fun _ _ _ _ _ => (pg_name (i := 2) scpairs_below.nd rfl (.inl rfl))) (fun _ _ _ _ _ => pts_nil) (fun _ _ _ _ _ => (tupN (pa_cons (pv 1) (pa_cons (pv 2) pa_nil))))))), ?_⟩
    refine ⟨_, rfl, _, rfl, by omega, by omega, fun pD nD => ?_⟩
    refine genR (n := n) (fun i H' => Same H H' ∧ ∃ ws, H' pD = some (.lst ws) ∧ AllAt (AtKL K H') ws ((List.range i).flatMap fun k => (List.range (n - (k + 1))).map fun j => (k, k + 1 + j))) ⟨same_new nD, [], upd_same, .nil⟩ (fun i H1 hi z => ?_) (fun H1 z => ?_)
    · obtain ⟨t1, ws, t2, t3⟩ := z
      refine ⟨rfl, _, rfl, _, _, rfl, rfl, _, rfl, _, _, rfl, ⟨by omega, by omega, by omega, by omega⟩, ?_⟩
      rw [show ((n : Int) - ((0 + (i : Int)) + 1)).toNat = n - (i + 1) from by omega]
      refine genR (n := n - (i + 1)) (fun j H' => Same H H' ∧ ∃ ws, H' pD = some (.lst ws) ∧ AllAt (AtKL K H') ws (((List.range i).flatMap fun k => (List.range (n - (k + 1))).map fun j => (k, k + 1 + j)) ++ (List.range j).map fun j => (i, i + 1 + j))) ⟨t1, ws, t2, by rw [List.range_zero, List.map_nil, List.append_nil]; exact t3⟩ (fun j H2 hj z2 => ?_) (fun H2 z2 => ?_)
      · obtain ⟨u1, us, u2, u3⟩ := z2
        refine ⟨rfl, _, rfl, _, rfl, (by show 2 ≤ sizeLine; decide), fun p7 H7 n7 s7 g7 => ?_⟩
        have k7 := s7 _ _ u2
        refine ⟨us, k7, ?_, fun b o e => ?_, us ++ [.ref p7], upd_same, ?_⟩
        · have lu := u3.length
          have lp := prs_pre_len n i
          rw [List.length_append, List.length_map, List.length_range] at lu
          have : i * n ≤ 12 * 12 := Nat.mul_le_mul (by omega) hn
          rw [lu]
          exact small1000 (by omega)
        · rw [upd_ne (ne_of_none e nD)]; exact (u1.trans s7) _ _ e
        · rw [List.range_succ, List.map_append, ← List.append_assoc]
          refine (u3.map fun _ _ z => AtKL.upd (z.same s7) k7).app (.cons (AtKL.upd ⟨p7, rfl, .inl (.inl ?_)⟩ k7) .nil)
          rw [g7]
          show some (HO.tup [V.int (0 + (i : Int)), V.int (0 + (i : Int) + 1 + (j : Int))]) = some (HO.tup [V.int ((i : Nat) : Int), V.int ((i + 1 + j : Nat) : Int)])
          rw [show (0 + (i : Int)) = ((i : Nat) : Int) from by omega, show ((i : Nat) : Int) + 1 + (j : Int) = ((i + 1 + j : Nat) : Int) from by omega]
      · obtain ⟨u1, us, u2, u3⟩ := z2
        refine ⟨u1, us, u2, ?_⟩
        rw [List.range_succ, List.flatMap_append, List.flatMap_singleton]
        exact u3
    · obtain ⟨t1, ws, t2, t3⟩ := z
      exact q _ _ _ nD t1 t2 t3

end
end Cl

set_option maxHeartbeats 0
namespace Cl
open PySem PySem.Spec PyProof.Rows L2
open GxR (TabB TabG)

section
variable {P : Program} {w : World} {K : PySem.W.Frag} {mg : Str → Option Value} {base : Heap}

theorem okend_wants {f : Addr} {fd : FuncData} (F : Fun K "end_wants" "end_wants" send_wants f fd) (T : Bt mg) (Dcorner_of : Def P w K mg base 2 "corner_of" ["grain", "point"] (spCorner K)) :
    FnG P w K mg base CX0 3 f fd ["grain", "lines"] (spEnds K) := by
  refine okG (k := 2) F scend_wants (fun vs H Q E h => ?_) (fun cdv A outer s H vs Q E hr h => ?_)
  · obtain ⟨g, v, ls, rfl, _⟩ := h
    rfl
  · obtain ⟨g, _, ls, rfl, ⟨⟨h0, h1⟩, ⟨a, vs, rfl, hS, hall⟩, hlen, hgood⟩, q⟩ := h
    refine ⟨_, (pss_cons (ps_set (i := 2) scend_wants.nd rfl (.inl rfl) (lstN pa_nil))
      (pss_cons (ps_for PassesOwn.never rfl (pi_enumT (by rfl) T.enumerate (pa_cons (pv 1) pa_nil)) (pg_tup (by rfl) (pgs_cons (pg_name (i := 3) scend_wants.nd rfl (.inl rfl)) (pgs_cons (pg_name (i := 4) scend_wants.nd rfl (.inl rfl)) pgs_nil))) (pss_one (ps_for PassesOwn.never rfl (pi_enumT (by rfl) T.enumerate (pa_cons (pv 4) pa_nil)) (pg_tup (by rfl) (pgs_cons (pg_name (i := 5) scend_wants.nd rfl (.inl rfl)) (pgs_cons (pg_name (i := 6) scend_wants.nd rfl (.inl rfl)) pgs_nil))) (pss_one (ps_expr (pe_bm PySem.F.plainAttrs_list PySem.F.slot_list_append PySem.F.type_list_append mt_append (pv 2) (pa_cons (tupN (pa_cons (callD Dcorner_of (hr.mono (by decide)) (pa_cons (pv 0) (pa_cons (pv 6) pa_nil))) (pa_cons (tupN (pa_cons pe_str (pa_cons (pv 3) (pa_cons (pv 5) pa_nil)))) pa_nil))) pa_nil)))))))
      (pss_one (ps_ret (pv 2))))), ?_⟩
    have lv := hall.length
    refine ⟨Nat.zero_le _, fun pR H1 n1 s1 g1 => ?_⟩
    refine ⟨_, rfl, a, vs, rfl, seT s1 hS, for_enumT (xs := vs) (fun i σ H' => ∃ y3 y4 y5 y6, σ = [some (.int g), some (.ref a), some (.ref pR), y3, y4, y5, y6] ∧ Same H H' ∧ ∃ ws, H' pR = some (.lst ws) ∧ AllAt (AtRw H') ws (ends g ls i)) ?_ (fun i σ H' z => ?_) ?_ ?_⟩
    · exact ⟨_, _, _, _, rfl, s1, [], g1, .nil⟩
    · obtain ⟨_, _, _, _, _, z, _⟩ := z
      exact seT z hS
    · rintro i x T1 σ H2 hx ⟨y3, y4, y5, y6, rfl, t1, ws, t2, t3⟩ nT
      obtain ⟨r, hr_, al, _, _, rfl, hSl, ⟨b, rfl, hb⟩, ⟨c, rfl, hc⟩⟩ := hall.get hx
      have hi : i < 12 := by have := (List.getElem?_eq_some_iff.mp hr_).1; omega
      have eR : endRow g ls i = [(crn g r.1, (("end" : Str), (i : Int), 0)), (crn g r.2, (("end" : Str), (i : Int), 1))] := by
        unfold endRow
        rw [hr_]
      have sT : Same H2 (upd H2 T1 (.tup [.int (i : Nat), .ref al])) := same_new nT
      refine ⟨T1, _, rfl, .inl (.inl upd_same), rfl, _, _, rfl, _, _, rfl, rfl, ?_⟩
      refine ⟨_, rfl, al, _, rfl, seT (t1.trans sT) hSl, for_enumT (xs := [.ref b, .ref c]) (fun j σ H' => ∃ y5 y6, σ = [some (.int g), some (.ref a), some (.ref pR), some (.int (i : Nat)), some (.ref al), y5, y6] ∧ Same H H' ∧ ∃ ws, H' pR = some (.lst ws) ∧ AllAt (AtRw H') ws (ends g ls i ++ (endRow g ls i).take j)) ?_ (fun j σ H' z => ?_) ?_ ?_⟩
      · exact ⟨_, _, rfl, t1.trans sT, ws, sT _ _ t2, by rw [List.take_zero, List.append_nil]; exact t3.map fun _ _ z => z.same sT⟩
      · obtain ⟨_, _, _, z, _⟩ := z
        exact seT z hSl
      · rintro j x T2 σ H3 hx ⟨y5, y6, rfl, u1, us, u2, u3⟩ nT2
        have sT2 : Same H3 (upd H3 T2 (.tup [.int (j : Nat), x])) := same_new nT2
        obtain ⟨bp, p, rfl, hp, hj⟩ : ∃ (bp : Addr) (p : Pt), x = .ref bp ∧ SqT K H bp [.int p.1, .int p.2] ∧ (endRow g ls i)[j]? = some (crn g p, (("end" : Str), (i : Int), (j : Int))) := by
          rw [eR]
          match j, hx with
          | 0, hx => exact ⟨b, r.1, (Option.some.inj hx).symm, hb, rfl⟩
          | 1, hx => exact ⟨c, r.2, (Option.some.inj hx).symm, hc, rfl⟩
          | j + 2, hx => cases hx
        refine ⟨T2, _, rfl, .inl (.inl upd_same), rfl, _, _, rfl, _, _, rfl, rfl, ?_⟩
        have u2' := sT2 _ _ u2
        have S3 := u1.trans sT2
        generalize upd H3 T2 (.tup [.int (j : Nat), .ref bp]) = H4 at sT2 u2' S3 ⊢
        refine ⟨.ref pR, rfl, .inl ⟨rfl, _, .inl (.inl u2')⟩, _, rfl, _, rfl, g, bp, p.1, p.2, rfl, seT S3 hp, h0, by omega, fun pc Hc nc sc gc => ⟨_, rfl, _, rfl, (by show 3 ≤ sizeLine; decide), fun pw Hw nw sw gw => ⟨(by show 2 ≤ sizeLine; decide), fun pp Hp np sp gp => ?_⟩⟩⟩
        have s4 := sc.trans (sw.trans sp)
        have u2'' := s4 _ _ u2'
        have lu := u3.length
        have le := ends_len g ls i
        rw [List.length_append, List.length_take] at lu
        refine ⟨pR, us, .ref pp, rfl, rfl, u2'', small1000 (by rw [eR] at lu; simp at lu; omega), ?_⟩
        refine ⟨_, _, rfl, fun b o e => ?_, us ++ [.ref pp], upd_same, ?_⟩
        · rw [upd_ne (ne_of_none e n1)]; exact (S3.trans s4) _ _ e
        · rw [List.take_add_one, hj, ← List.append_assoc]
          refine ((u3.map fun _ _ z => AtRw.upd (z.same (sT2.trans s4)) u2'')).app (.cons (AtRw.upd ⟨pp, pc, pw, rfl, gp, (sw.trans sp) _ _ gc, sp _ _ gw⟩ u2'') .nil)
      · rintro σ H3 ⟨y5, y6, rfl, u1, us, u2, u3⟩
        refine ⟨_, _, _, _, rfl, u1, us, u2, ?_⟩
        unfold ends
        rw [List.range_succ, List.flatMap_append, List.flatMap_singleton]
        rw [show (endRow g ls i).take ([V.ref b, V.ref c].length) = endRow g ls i from by rw [eR]; rfl] at u3
        exact u3
    · rintro σ H2 ⟨y3, y4, y5, y6, rfl, t1, ws, t2, t3⟩
      rw [lv] at t3
      exact ⟨_, rfl, q _ _ t1 ⟨pR, ws, rfl, t2, t3⟩⟩

end
end Cl

set_option maxHeartbeats 0
namespace Cl
open PySem PySem.Spec PyProof.Rows L2
open GxR (TabB TabG)

section
variable {P : Program} {w : World} {K : PySem.W.Frag} {mg : Str → Option Value} {base : Heap}

theorem okcross_wants {f : Addr} {fd : FuncData} (F : Fun K "cross_wants" "cross_wants" scross_wants f fd) (T : Bt mg) (Dcorner_at : Def P w K mg base 2 "corner_at" ["grain", "spot"] (spCornerAtN K)) (Dpairs_below : Def P w K mg base 1 "pairs_below" ["many"] (spPairs K)) (Dcommon : Def P w K mg base 5 "common" ["one", "other"] (spTwo K cmn fun _ _ => True)) :
    FnG P w K mg base CX0 6 f fd ["grain", "lines"] (spCrosses K) := by
  refine okG (k := 5) F sccross_wants (fun vs H Q E h => ?_) (fun cdv A outer s H vs Q E hr h => ?_)
  · obtain ⟨g, v, ls, rfl, _⟩ := h
    rfl
  · obtain ⟨g, _, ls, rfl, ⟨⟨h0, h1⟩, ⟨a, vs, rfl, hS, hall⟩, hlen, hgood⟩, q⟩ := h
    refine ⟨_, (pss_cons (ps_set (i := 2) sccross_wants.nd rfl (.inl rfl) (lstN pa_nil))
      (pss_cons (ps_for PassesOwn.never rfl (pi_list (callD Dpairs_below (hr.mono (by decide)) (pa_cons (pe_callB call_len_seq (by rfl) T.len (by decide +kernel) (pa_cons (pv 1) pa_nil)) pa_nil))) (pg_tup (by rfl) (pgs_cons (pg_name (i := 3) sccross_wants.nd rfl (.inl rfl)) (pgs_cons (pg_name (i := 4) sccross_wants.nd rfl (.inl rfl)) pgs_nil))) (pss_cons (ps_set (i := 5) sccross_wants.nd rfl (.inl rfl) (callD Dcommon (hr.mono (by decide)) (pa_cons (pe_ix ix_tup (pv 1) (pv 3) (fun _ _ => rfl)) (pa_cons (pe_ix ix_tup (pv 1) (pv 4) (fun _ _ => rfl)) pa_nil))))
      (pss_one (ps_if (pt_cmpR op_eq (pe_callB call_len_seq (by rfl) T.len (by decide +kernel) (pa_cons (pv 5) pa_nil)) pe_int (nomark _)) (pss_one (ps_expr (pe_bm PySem.F.plainAttrs_list PySem.F.slot_list_append PySem.F.type_list_append mt_append (pv 2) (pa_cons (tupN (pa_cons (callD Dcorner_at (hr.mono (by decide)) (pa_cons (pv 0) (pa_cons (pe_ix ix_tup (pv 5) pe_int (fun _ _ => rfl)) pa_nil))) (pa_cons (tupN (pa_cons pe_str (pa_cons (pv 3) (pa_cons (pv 4) pa_nil)))) pa_nil))) pa_nil)))) pss_nil))))
      (pss_one (ps_ret (pv 2))))), ?_⟩
    have lv := hall.length
    refine ⟨Nat.zero_le _, fun pR H1 n1 s1 g1 => ?_⟩
    refine ⟨_, rfl, a, vs, rfl, .inr (seT s1 hS), vs.length, rfl, by omega, fun P H2 ps nP s2 e2 a2 => ?_⟩
    have lp := a2.length
    have lp2 := prs_len (n := vs.length) (by omega)
    have S2 := s1.trans s2
    refine ⟨P, rfl, ⟨ps, .inl (.inl e2)⟩, for_list (K := K) (a := P) (xs := ps) (fun i σ H' => ∃ y3 y4 y5, σ = [some (.int g), some (.ref a), some (.ref pR), y3, y4, y5] ∧ Same H H' ∧ H' P = some (.lst ps) ∧ AllAt (AtKL K H') ps (prs vs.length) ∧ ∃ ws, H' pR = some (.lst ws) ∧ AllAt (AtRw H') ws (crosses g ls ((prs vs.length).take i))) ?_ (fun i σ H' _ z => ?_) ?_ ?_⟩
    · exact ⟨_, _, _, rfl, S2, e2, a2, [], s2 _ _ g1, .nil⟩
    · obtain ⟨_, _, _, _, _, z, _⟩ := z
      exact .inl (.inl z)
    · rintro i x σ H3 hx ⟨y3, y4, y5, rfl, t1, t0, t4, ws, t2, t3⟩
      obtain ⟨⟨k, l⟩, hp, at_, rfl, hT⟩ := t4.get hx
      obtain ⟨m1, m2⟩ := prs_mem (List.mem_of_getElem? hp)
      have m1 : k < l := m1
      have m2 : l < vs.length := m2
      obtain ⟨vk, hvk⟩ : ∃ y, vs[k]? = some y := ⟨_, List.getElem?_eq_getElem (by omega)⟩
      obtain ⟨vl, hvl⟩ : ∃ y, vs[l]? = some y := ⟨_, List.getElem?_eq_getElem (by omega)⟩
      obtain ⟨rk, hrk, ak⟩ := hall.get hvk
      obtain ⟨rl, hrl, al⟩ := hall.get hvl
      have gk := hgood rk (List.mem_of_getElem? hrk)
      have gl := hgood rl (List.mem_of_getElem? hrl)
      have eT : crosses g ls ((prs vs.length).take (i + 1)) = crosses g ls ((prs vs.length).take i) ++ rowS g k l (cmn rk rl) := by
        rw [List.take_add_one, hp]
        unfold crosses
        rw [List.flatMap_append]
        show _ ++ [(k, l)].flatMap _ = _
        rw [List.flatMap_singleton]
        congr 1
        unfold crossRow
        rw [hrk, hrl]
      refine ⟨at_, _, rfl, hT, rfl, _, _, rfl, _, _, rfl, rfl, ?_⟩
      refine ⟨_, rfl, _, rfl, a, _, _, vk, rfl, rfl, seT t1 hS, atI_nat hvk, _, rfl, _, rfl, a, _, _, vl, rfl, rfl, seT t1 hS, atI_nat hvl, vk, vl, rk, rl, rfl, ak.same t1, al.same t1, good_L gk, good_L gl, trivial, fun wS H4 s4 e4 => ?_⟩
      obtain ⟨sp, ss, rfl, hss, all⟩ := e4
      have lss := all.length
      refine ⟨_, rfl, sp, ss, rfl, .inr hss, rfl, _, rfl, ite2 (fun e => ?_) (fun e => ?_)⟩
      · have e1 : ss.length = 1 := by have := V.int.inj (of_decide_eq_true e); omega
        obtain ⟨u, t, rfl, et, hu⟩ := all.lone e1
        have hden := cmn_den gk gl t (by rw [et]; exact List.mem_singleton.mpr rfl)
        rw [et] at eT
        clear all lss e1 e
        have t2' := s4 _ _ t2
        have mg : t.2.2 * g ≤ 2 ^ 46 * 1000 := Int.mul_le_mul hden.2 h1 (by omega) (by decide)
        refine ⟨.ref pR, rfl, .inl ⟨rfl, _, .inl (.inl t2')⟩, _, rfl, _, rfl, sp, _, 0, u, rfl, rfl, hss, rfl, g, u, t, rfl, hu, h0, by omega, hden.1, by omega, fun pc Hc nc sc gc => ⟨_, rfl, _, rfl, (by show 3 ≤ sizeLine; decide), fun pw Hw nw sw gw => ⟨(by show 2 ≤ sizeLine; decide), fun pp Hp np sp' gp => ?_⟩⟩⟩
        have s5 := sc.trans (sw.trans sp')
        have t2'' := s5 _ _ t2'
        have lw := t3.length
        have lc := crosses_len g ls ((prs vs.length).take i)
        rw [List.length_take] at lc
        refine ⟨pR, ws, .ref pp, rfl, rfl, t2'', small1000 (by omega), ?_⟩
        refine ⟨_, _, _, rfl, fun b o e => ?_, ?_, t4.map fun _ _ z => AtKL.upd (z.same (s4.trans s5)) t2'', ws ++ [.ref pp], upd_same, ?_⟩
        · rw [upd_ne (ne_of_none e n1)]; exact (t1.trans (s4.trans s5)) _ _ e
        · rw [upd_ne (ne_of_none g1 nP).symm]
          exact (s4.trans s5) _ _ t0
        · rw [eT]
          exact ((t3.map fun _ _ z => AtRw.upd (z.same (s4.trans s5)) t2'')).app (.cons (AtRw.upd ⟨pp, pc, pw, rfl, gp, (sw.trans sp') _ _ gc, sp' _ _ gw⟩ t2'') .nil)
      · have e0 : rowS g k l (cmn rk rl) = [] := rowS_not fun z => e (decide_eq_true (congrArg (fun n : Nat => V.int (n : Int)) (lss.trans z)))
        rw [e0, List.append_nil] at eT
        refine ⟨_, _, _, rfl, t1.trans s4, s4 _ _ t0, t4.map fun _ _ z => z.same s4, ws, s4 _ _ t2, ?_⟩
        rw [eT]
        exact t3.map fun _ _ z => z.same s4
    · rintro σ H3 ⟨y3, y4, y5, rfl, t1, t0, t4, ws, t2, t3⟩
      rw [lp, List.take_length, lv] at t3
      exact ⟨_, rfl, q _ _ t1 ⟨pR, ws, rfl, t2, t3⟩⟩

end
end Cl

set_option maxHeartbeats 0
namespace Cl
open PySem PySem.Spec PyProof.Rows L2
open GxR (TabB TabG)

section
variable {P : Program} {w : World} {K : PySem.W.Frag} {mg : Str → Option Value} {base : Heap}

theorem okcommon_across {f : Addr} {fd : FuncData} (F : Fun K "common_across" "common_across" scommon_across f fd) (T : Bt mg) (Dstep_of : Def P w K mg base 1 "step_of" ["line"] (spStep K)) (Dturn_of : Def P w K mg base 1 "turn_of" ["one", "other"] (spTurn K)) (Dspot_at : Def P w K mg base 3 "spot_at" ["line", "k", "m"] (spSpotAt K)) :
    FnG P w K mg base CX0 4 f fd ["one", "other"] (spTwo K acr fun l r => trn (less l.2 l.1) (less r.2 r.1) ≠ 0) := by
  refine okG (k := 3) F sccommon_across (fun vs H Q E h => ?_) (fun cdv A outer s H vs Q E hr h => ?_)
  · obtain ⟨u, v, l, r, rfl, _⟩ := h
    rfl
  · obtain ⟨u, v, l, r, rfl, hL, hR, bl, br, hne, q⟩ := h
    refine ⟨_, (pss_cons (ps_par (i := 2) (j := 3) (by rfl) sccommon_across.nd rfl rfl (by decide) rfl rfl (pa_cons (callD Dstep_of (hr.mono (by decide)) (pa_cons (pv 0) pa_nil)) (pa_cons (callD Dstep_of (hr.mono (by decide)) (pa_cons (pv 1) pa_nil)) pa_nil)) (by rfl))
      (pss_cons (ps_set (i := 4) sccommon_across.nd rfl (.inl rfl) (callD Dstep_of (hr.mono (by decide)) (pa_cons (tupN (pa_cons (pe_ix ix_tup (pv 0) pe_int (fun _ _ => rfl)) (pa_cons (pe_ix ix_tup (pv 1) pe_int (fun _ _ => rfl)) pa_nil))) pa_nil)))
      (pss_cons (ps_set (i := 5) sccommon_across.nd rfl (.inl rfl) (callD Dturn_of (hr.mono (by decide)) (pa_cons (pv 2) (pa_cons (pv 3) pa_nil))))
      (pss_cons (ps_par (i := 6) (j := 7) (by rfl) sccommon_across.nd rfl rfl (by decide) rfl rfl (pa_cons (callD Dturn_of (hr.mono (by decide)) (pa_cons (pv 4) (pa_cons (pv 3) pa_nil))) (pa_cons (callD Dturn_of (hr.mono (by decide)) (pa_cons (pv 4) (pa_cons (pv 2) pa_nil))) pa_nil)) (by rfl))
      (cutS (ps_if (pt_cmpR op_lt (pv 5) pe_int (nomark _)) (pss_one (ps_par3 (i := 6) (j := 7) (l := 5) (by rfl) sccommon_across.nd rfl rfl rfl (by decide) (by decide) (by decide) rfl rfl rfl (pa_cons (pe_un un_neg (pv 6)) (pa_cons (pe_un un_neg (pv 7)) (pa_cons (pe_un un_neg (pv 5)) pa_nil))) (by rfl))) pss_nil)
      (pss_cons (ps_if (PW.pt (pw_and (pt_chain op_le op_le pe_int (pv 6) (pv 5)) (pw_and1 (pt_chain op_le op_le pe_int (pv 7) (pv 5))))) (pss_one (ps_ret (tupN (pa_cons (callD Dspot_at (hr.mono (by decide)) (pa_cons (pv 0) (pa_cons (pv 6) (pa_cons (pv 5) pa_nil)))) pa_nil)))) pss_nil)
      (pss_one (ps_ret (tupN pa_nil))))))))), ?_⟩
    have b1 := bd_less bl.2 bl.1
    have b2 := bd_less br.2 br.1
    have b3 := bd_less br.1 bl.1
    have t1 := trn_lt b1 b2
    have t2 := trn_lt b3 b2
    have t3 := trn_lt b3 b1
    -- way, across, between
    refine ⟨_, rfl, u, l, rfl, hL, fun w1 H1 s1 e1 => ⟨_, rfl, v, r, rfl, hR.same s1, fun w2 H2 s2 e2 => ⟨_, _, rfl, ?_⟩⟩⟩
    have s12 := s1.trans s2
    obtain ⟨a, x, y, ea, hS, hx, hy⟩ := hL.same s12
    obtain ⟨b, x', y', eb, hS', hx', hy'⟩ := hR.same s12
    subst ea eb
    refine ⟨_, rfl, a, _, 0, x, rfl, rfl, hS, rfl, _, rfl, b, _, 0, x', rfl, rfl, hS', rfl, (by show 2 ≤ sizeLine; decide), fun p3 H3 n3 s3 g3 => ?_⟩
    refine ⟨.ref p3, (l.1, r.1), rfl, ⟨p3, x, x', rfl, .inl (.inl g3), hx.same s3, hx'.same s3⟩, fun w4 H4 s4 e4 => ?_⟩
    have s34 := s3.trans s4
    have f1 := e1.same (s2.trans s34)
    have f2 := e2.same s34
    -- m, k, l
    refine ⟨_, rfl, _, rfl, w1, w2, _, _, rfl, f1, f2, b1, ?_⟩
    refine ⟨_, rfl, _, rfl, w4, w2, _, _, rfl, e4, f2, b3, _, rfl, _, rfl, w4, w1, _, _, rfl, e4, f1, b3, _, _, rfl, ?_⟩
    refine ⟨fun σ' H' => σ' = [some (.ref a), some (.ref b), some w1, some w2, some w4, some (.int (klm l r).2.2), some (.int (klm l r).1), some (.int (klm l r).2.1)] ∧ H' = H4, ?_, ?_⟩
    · refine ⟨_, rfl, _, _, rfl, rfl, _, rfl, ite2 (fun e => ?_) (fun e => ?_)⟩
      · have e' : trn (less l.2 l.1) (less r.2 r.1) < 0 := of_decide_eq_true e
        have ek : kfs l r = -1 := if_pos e'
        refine ⟨_, rfl, _, rfl, _, rfl, _, rfl, _, rfl, _, rfl, _, _, _, rfl, ?_, rfl⟩
        unfold klm
        rw [ek]
        simp only [Int.mul_neg, Int.mul_one]
        rfl
      · have e' : ¬ trn (less l.2 l.1) (less r.2 r.1) < 0 := fun z => e (decide_eq_true z)
        have ek : kfs l r = 1 := if_neg e'
        refine ⟨?_, rfl⟩
        unfold klm
        rw [ek]
        simp only [Int.mul_one]
        rfl
    · rintro σ' H' ⟨rfl, rfl⟩
      have hpos := klm_pos l r hne
      have hb : (klm l r).2.2.natAbs < 2 ^ 200 := by
        show (trn (less l.2 l.1) (less r.2 r.1) * kfs l r).natAbs < 2 ^ 200
        unfold kfs
        split <;> omega
      by_cases c1 : 0 ≤ (klm l r).1 ∧ (klm l r).1 ≤ (klm l r).2.2
      · by_cases c2 : 0 ≤ (klm l r).2.1 ∧ (klm l r).2.1 ≤ (klm l r).2.2
        · have ea : acr l r = [sp3 ((klm l r).2.2 * l.1.1 + (klm l r).1 * (l.2.1 - l.1.1)) ((klm l r).2.2 * l.1.2 + (klm l r).1 * (l.2.2 - l.1.2)) (klm l r).2.2] := if_pos ⟨c1, c2⟩
          rw [ea] at q
          refine ⟨_, rfl, _, _, rfl, rfl, _, rfl, ?_⟩
          rw [decide_eq_true c1.1]
          refine iteT ⟨_, rfl, _, _, rfl, rfl, _, rfl, ?_⟩
          rw [decide_eq_true c1.2]
          refine iteT ⟨_, rfl, _, _, rfl, rfl, _, rfl, ?_⟩
          rw [decide_eq_true c2.1]
          refine iteT ⟨_, rfl, _, _, rfl, rfl, _, rfl, ?_⟩
          rw [decide_eq_true c2.2]
          refine iteT ⟨_, rfl, _, rfl, _, rfl, .ref a, l, _, _, rfl, hL.same (s12.trans s34), bl, by omega, hb, fun w5 H5 s5 e5 => ⟨(by show 1 ≤ sizeLine; decide), fun p6 H6 n6 s6 g6 => ?_⟩⟩
          exact q _ _ (((s12.trans s34).trans s5).trans s6) ⟨p6, _, rfl, .inl (.inl g6), .cons (e5.same s6) .nil⟩
        · have ea : acr l r = [] := if_neg (fun z => c2 z.2)
          rw [ea] at q
          refine ⟨_, rfl, _, _, rfl, rfl, _, rfl, ?_⟩
          rw [decide_eq_true c1.1]
          refine iteT ⟨_, rfl, _, _, rfl, rfl, _, rfl, ?_⟩
          rw [decide_eq_true c1.2]
          refine iteT ⟨_, rfl, _, _, rfl, rfl, _, rfl, ?_⟩
          have fin : ∀ {H5 : Hp}, H5 = H' → (0 : Nat) ≤ sizeLine ∧ New H5 (.tup []) Q := fun {H5} e => ⟨Nat.zero_le _, fun p6 H6 n6 s6 g6 => q _ _ ((s12.trans s34).trans (by rw [← e]; exact s6)) ⟨p6, _, rfl, .inl (.inl g6), .nil⟩⟩
          refine ite2 (fun e => ⟨_, rfl, _, _, rfl, rfl, _, rfl, ite2 (fun e2 => ?_) (fun e2 => fin rfl)⟩) (fun e => ⟨_, rfl, iteF (fin rfl)⟩)
          exact absurd ⟨of_decide_eq_true e, of_decide_eq_true e2⟩ c2
      · have ea : acr l r = [] := if_neg (fun z => c1 z.1)
        rw [ea] at q
        have fin : ∀ {H5 : Hp}, H5 = H' → (0 : Nat) ≤ sizeLine ∧ New H5 (.tup []) Q := fun {H5} e => ⟨Nat.zero_le _, fun p6 H6 n6 s6 g6 => q _ _ ((s12.trans s34).trans (by rw [← e]; exact s6)) ⟨p6, _, rfl, .inl (.inl g6), .nil⟩⟩
        refine ⟨_, rfl, _, _, rfl, rfl, _, rfl, ite2 (fun e => ⟨_, rfl, _, _, rfl, rfl, _, rfl, ite2 (fun e2 => ?_) (fun e2 => iteF (fin rfl))⟩) (fun e => ⟨_, rfl, iteF (iteF (fin rfl))⟩)⟩
        exact absurd ⟨of_decide_eq_true e, of_decide_eq_true e2⟩ c1

theorem okcommon_along {f : Addr} {fd : FuncData} (F : Fun K "common_along" "common_along" scommon_along f fd) (T : Bt mg) :
    FnG P w K mg base CX0 1 f fd ["one", "other"] (spTwo K alo fun _ _ => True) := by
  refine okG (k := 0) F sccommon_along (fun vs H Q E h => ?_) (fun cdv A outer s H vs Q E hr h => ?_)
  · obtain ⟨u, v, l, r, rfl, _⟩ := h
    rfl
  · obtain ⟨u, v, l, r, rfl, hL, hR, bl, br, _, q⟩ := h
    refine ⟨_, (pss_cons (ps_set (i := 2) sccommon_along.nd rfl (.inl rfl) (pe_callB (cr_max2 rfl hr.room.units) (by rfl) T.max (by decide +kernel) (pa_cons (pe_callB (cr_min1 rfl hr.room.units) (by rfl) T.min (by decide +kernel) (pa_cons (pv 0) pa_nil)) (pa_cons (pe_callB (cr_min1 rfl hr.room.units) (by rfl) T.min (by decide +kernel) (pa_cons (pv 1) pa_nil)) pa_nil))))
      (pss_cons (ps_set (i := 3) sccommon_along.nd rfl (.inl rfl) (pe_callB (cr_min2 rfl hr.room.units) (by rfl) T.min (by decide +kernel) (pa_cons (pe_callB (cr_max1 rfl hr.room.units) (by rfl) T.max (by decide +kernel) (pa_cons (pv 0) pa_nil)) (pa_cons (pe_callB (cr_max1 rfl hr.room.units) (by rfl) T.max (by decide +kernel) (pa_cons (pv 1) pa_nil)) pa_nil))))
      (pss_cons (ps_if (pt_cmpR (op_gt2 hr.room.units) (pv 2) (pv 3) (nomark _)) (pss_one (ps_ret (tupN pa_nil))) pss_nil)
      (pss_cons (ps_set (i := 4) sccommon_along.nd rfl (.inl rfl) (cutE (pe_ifExp (pt_cmpR (op_eqD hr.room.units) (pv 2) (pv 3) (nomark _)) (tupN (pa_cons (pv 2) pa_nil)) (tupN (pa_cons (pv 2) (pa_cons (pv 3) pa_nil))))))
      (pss_one (ps_ret (pe_callTy call_tuple_ofN (by rfl) T.tuple (by decide +kernel) (pa_cons (pe_lc (own := [("x", 5), ("y", 6)]) (g := gTup K 2 (gCons (gName 5) (gCons (gName 6) gNil))) (tt := tYes) (by rfl) sccommon_along.nd (pi_tup (pv 4)) (blkOk_by (own := [("x", 5), ("y", 6)]) (N := ["one", "other", "low", "high", "ends", "x", "y"]) (sc := defScope scommon_along) (by decide +kernel)) (fun _ _ _ _ _ => (pg_tup (by rfl) (pgs_cons (pg_name (i := 5) sccommon_along.nd rfl (.inl rfl)) (pgs_cons (pg_name (i := 6) sccommon_along.nd rfl (.inl rfl)) pgs_nil)))) (fun _ _ _ _ _ => pts_nil) (fun _ _ _ _ _ => (tupN (pa_cons (pv 5) (pa_cons (pv 6) (pa_cons pe_int pa_nil)))))) pa_nil)))))))), ?_⟩
    obtain ⟨a, x, y, rfl, hS, hx, hy⟩ := hL
    obtain ⟨b, x', y', rfl, hS', hx', hy'⟩ := hR
    refine ⟨_, rfl, a, x, y, _, _, rfl, hS, hx, hy, fun w1 _ e1 => ⟨_, rfl, b, x', y', _, _, rfl, hS', hx', hy', fun w2 _ e2 => ⟨w1, w2, _, _, rfl, e1, e2, fun wl _ el => ?_⟩⟩⟩
    refine ⟨_, rfl, a, x, y, _, _, rfl, hS, hx, hy, fun w3 _ e3 => ⟨_, rfl, b, x', y', _, _, rfl, hS', hx', hy', fun w4 _ e4 => ⟨w3, w4, _, _, rfl, e3, e4, fun wh _ eh => ?_⟩⟩⟩
    have el : At2 K H wl (lo l r) := el
    have eh : At2 K H wh (hi l r) := eh
    unfold alo at q
    refine ⟨_, rfl, _, rfl, _, _, el, eh, _, rfl, ?_⟩
    show if llt (hi l r) (lo l r) = true then _ else _
    cases hlt : llt (hi l r) (lo l r) with
    | true =>
      rw [hlt] at q
      exact iteT ⟨Nat.zero_le _, fun p6 H6 n6 s6 g6 => q _ _ s6 ⟨p6, _, rfl, .inl (.inl g6), .nil⟩⟩
    | false =>
      rw [hlt] at q
      refine iteF ⟨fun v5 H5 => Same H H5 ∧ ∃ ps : List Pt, AtP K H5 v5 ps ∧ ps.length ≤ 2 ∧ ∀ w H', Same H H' → AtS K H' w (ps.map one3) → Q w H', ?_, ?_⟩
      · refine ⟨_, rfl, _, rfl, _, _, el.dp, eh.dp, rfl, rfl, _, rfl, ?_⟩
        by_cases heq : lo l r = hi l r
        · rw [heq, SeqAt.eqv_refl _ rfl]
          refine iteT ⟨_, rfl, (by show 1 ≤ sizeLine; decide), fun p6 H6 n6 s6 g6 => ⟨s6, [lo l r], ⟨p6, _, rfl, .inl (.inl g6), .cons (el.same s6) .nil⟩, by simp, fun w H' s e => ?_⟩⟩
          rw [if_neg (by decide), if_pos heq] at q
          exact q w H' s e
        · have hne : PyData.eqv (pd (lo l r)) (pd (hi l r)) = false := by
            cases hz : PyData.eqv (pd (lo l r)) (pd (hi l r)) with
            | false => rfl
            | true =>
              exfalso
              apply heq
              simp [pd, PyData.eqv, PyData.eqvAll] at hz
              exact Prod.ext hz.1 hz.2
          rw [hne]
          refine iteF ⟨_, rfl, _, rfl, (by show 2 ≤ sizeLine; decide), fun p6 H6 n6 s6 g6 => ⟨s6, [lo l r, hi l r], ⟨p6, _, rfl, .inl (.inl g6), .cons (el.same s6) (.cons (eh.same s6) .nil)⟩, by simp, fun w H' s e => ?_⟩⟩
          rw [if_neg (by decide), if_neg heq] at q
          exact q w H' s e
      · rintro v5 H5 ⟨s5, ps, ⟨p, vs, rfl, hp, hall⟩, hlen, q'⟩
        have hlv := hall.length
        refine ⟨_, rfl, p, rfl, ⟨_, hp⟩, fun pD nD => ?_⟩
        refine lcT (K := K) (a := p) (xs := vs) (fun i H' => Same H5 H' ∧ ∃ ws, H' pD = some (.lst ws) ∧ AllAt (At3 K H') ws ((ps.take i).map one3)) nD (fun H' e1 e2 => ⟨e1, [], e2, .nil⟩) (fun i H' _ z => seT z.1 hp) (fun i z H' hz w => ?_) (fun H6 z => ?_)
        · obtain ⟨t1, ws, t2, t3⟩ := w
          obtain ⟨pt, hpt, c, rfl, hc⟩ := hall.get hz
          refine ⟨c, _, rfl, seT t1 hc, rfl, _, _, rfl, _, _, rfl, rfl, ?_⟩
          refine ⟨rfl, _, rfl, _, rfl, (by show 3 ≤ sizeLine; decide), fun p7 H7 n7 s7 g7 => ?_⟩
          have lw := t3.length
          rw [List.length_map, List.length_take] at lw
          have npD : pD ≠ p7 := ne_of_none t2 n7
          have sD : Same H7 (upd H7 pD (.lst (ws ++ [.ref p7]))) → True := fun _ => trivial
          have k7 := s7 _ _ t2
          have g7' : ∀ {o : HO}, (upd H7 pD o) p7 = some (.tup [.int pt.1, .int pt.2, .int 1]) := fun {o} => by rw [upd_ne npD.symm]; exact g7
          have st : ∀ {o : HO}, ∀ b xs, H7 b = some (.tup xs) → (upd H7 pD o) b = some (.tup xs) := fun {o} b xs e => by
            rw [upd_ne (ne_of e k7 (by intro z; cases z))]; exact e
          have sT : ∀ {o : HO} {b : Addr} {xs : List V}, SqT K H7 b xs → SqT K (upd H7 pD o) b xs := fun {o b xs} e => by
            rcases e with (e | ⟨oo, e⟩) | e
            · exact .inl (.inl (st _ _ e))
            · exact .inl (.inr ⟨oo, by rw [upd_ne (ne_of e k7 (by intro z; cases z))]; exact e⟩)
            · exact .inr e
          refine ⟨ws, k7, by rw [lw]; exact small1000 (by omega), fun b o e => ?_, ws ++ [.ref p7], upd_same, ?_⟩
          · rw [upd_ne (ne_of_none e nD)]; exact (t1.trans s7) _ _ e
          · rw [List.take_add_one, hpt, List.map_append]
            refine AllAt.app ((t3.map fun _ _ z => z.same s7).map fun v s h => ?_) (.cons ⟨p7, rfl, .inl (.inl g7')⟩ .nil)
            obtain ⟨b, rfl, h⟩ := h
            exact ⟨b, rfl, sT h⟩
        · obtain ⟨t1, ws, t2, t3⟩ := z
          rw [hlv, List.take_length] at t3
          exact ⟨pD, ws, rfl, .inl (.inl t2), fun p8 H8 n8 s8 g8 => q' _ _ ((s5.trans t1).trans s8) ⟨p8, ws, rfl, .inl (.inl g8), t3.map fun _ _ z => z.same s8⟩⟩

theorem okcommon {f : Addr} {fd : FuncData} (F : Fun K "common" "common" scommon f fd) (T : Bt mg) (Dstep_of : Def P w K mg base 1 "step_of" ["line"] (spStep K)) (Dturn_of : Def P w K mg base 1 "turn_of" ["one", "other"] (spTurn K)) (Dside_of : Def P w K mg base 2 "side_of" ["line", "point"] (spSide K)) (Dcommon_across : Def P w K mg base 4 "common_across" ["one", "other"] (spTwo K acr fun l r => trn (less l.2 l.1) (less r.2 r.1) ≠ 0)) (Dcommon_along : Def P w K mg base 1 "common_along" ["one", "other"] (spTwo K alo fun _ _ => True)) :
    FnG P w K mg base CX0 5 f fd ["one", "other"] (spTwo K cmn fun _ _ => True) := by
  refine okG (k := 4) F sccommon (fun vs H Q E h => ?_) (fun cdv A outer s H vs Q E hr h => ?_)
  · obtain ⟨u, v, l, r, rfl, _⟩ := h
    rfl
  · obtain ⟨u, v, l, r, rfl, hL, hR, bl, br, _, q⟩ := h
    refine ⟨_, (pss_cons (ps_if (pt_cmpR op_ne (callD Dturn_of (hr.mono (by decide)) (pa_cons (callD Dstep_of (hr.mono (by decide)) (pa_cons (pv 0) pa_nil)) (pa_cons (callD Dstep_of (hr.mono (by decide)) (pa_cons (pv 1) pa_nil)) pa_nil))) pe_int (nomark _)) (pss_one (ps_ret (callD Dcommon_across (hr.mono (by decide)) (pa_cons (pv 0) (pa_cons (pv 1) pa_nil))))) pss_nil)
      (pss_cons (ps_if (pt_cmpR op_ne (callD Dside_of (hr.mono (by decide)) (pa_cons (pv 0) (pa_cons (pe_ix ix_tup (pv 1) pe_int (fun _ _ => rfl)) pa_nil))) pe_int (nomark _)) (pss_one (ps_ret (tupN pa_nil))) pss_nil)
      (pss_one (ps_ret (callD Dcommon_along (hr.mono (by decide)) (pa_cons (pv 0) (pa_cons (pv 1) pa_nil))))))), ?_⟩
    have b1 := bd_less bl.2 bl.1
    refine ⟨_, rfl, u, l, rfl, hL, fun w1 H1 s1 e1 => ⟨_, rfl, v, r, rfl, hR.same s1, fun w2 H2 s2 e2 => ⟨w1, w2, _, _, rfl, e1.same s2, e2, b1, rfl, _, rfl, ?_⟩⟩⟩
    have s12 := s1.trans s2
    unfold cmn at q
    by_cases h0 : trn (less l.2 l.1) (less r.2 r.1) = 0
    · rw [if_neg (fun z => z h0)] at q
      rw [h0]
      refine iteF ?_
      obtain ⟨b, x', y', eb, hS', hx', hy'⟩ := hR.same s12
      subst eb
      refine ⟨_, rfl, _, rfl, b, _, 0, x', rfl, rfl, hS', rfl, u, x', l, r.1, rfl, hL.same s12, hx', bl, fun H3 s3 => ⟨rfl, _, rfl, ?_⟩⟩
      by_cases h1 : trn (less l.2 l.1) (less r.1 l.1) = 0
      · rw [if_neg (fun z => z h1)] at q
        rw [h1]
        refine iteF ?_
        exact ⟨_, rfl, _, rfl, u, .ref b, l, r, rfl, hL.same (s12.trans s3), hR.same (s12.trans s3), bl, br, trivial, fun w H' s e => q w H' ((s12.trans s3).trans s) e⟩
      · rw [if_pos h1] at q
        have e0 : (!decide (V.int (trn (less l.2 l.1) (less r.1 l.1)) = V.int 0)) = true := by
          rw [decide_eq_false (fun z => h1 (V.int.inj z))]; rfl
        rw [e0]
        exact iteT ⟨Nat.zero_le _, fun p6 H6 n6 s6 g6 => q _ _ ((s12.trans s3).trans s6) ⟨p6, _, rfl, .inl (.inl g6), .nil⟩⟩
    · rw [if_pos h0] at q
      have e0 : (!decide (V.int (trn (less l.2 l.1) (less r.2 r.1)) = V.int 0)) = true := by
        rw [decide_eq_false (fun z => h0 (V.int.inj z))]; rfl
      rw [e0]
      exact iteT ⟨_, rfl, _, rfl, u, v, l, r, rfl, hL.same s12, hR.same s12, bl, br, h0, fun w H' s e => q w H' (s12.trans s) e⟩

end
end Cl

set_option maxHeartbeats 0
namespace Cl
open PySem PySem.Spec PyProof.Rows L2
open GxR (TabB TabG)
/-! ### the end where a def makes a lambda too -/
def tabA (K : PySem.W.Frag) : Value → Option Addr
  | .ref c => match K.lookup c with
    | some o => match o.data with
      | .fields (vs : Array Value) => match (vs[11]? : Option Value) with
        | some (Value.ref P) => some P
        | _ => none
      | _ => none
    | none => none
  | _ => none
def tabDis (K : PySem.W.Frag) (x y : Value) : Bool := match tabA K x, tabA K y with
  | some a, some b => a != b
  | _, _ => false
theorem tabA_at {K : PySem.W.Frag} {h : Heap} {c P P' : Addr} (X : K.In h) (C : PySem.W.CodeHd h c P) (e : tabA K (.ref c) = some P') : P' = P := by
  obtain ⟨o, vs, _, _, _, _, _, _, _, h1, _, h3, h4, _⟩ := C
  unfold tabA at e
  simp only at e
  split at e
  · rename_i o' ho
    have := X _ _ ho
    rw [h1] at this
    cases this
    rw [h3] at e
    simp only [h4] at e
    exact (Option.some.inj e).symm
  · cases e
theorem tabDis_ne {K : PySem.W.Frag} {h : Heap} {c c' P P' : Addr} (X : K.In h) (C : PySem.W.CodeHd h c P) (C' : PySem.W.CodeHd h c' P') (d : tabDis K (.ref c) (.ref c') = true) : P ≠ P' := by
  unfold tabDis at d
  split at d
  · rename_i a b e1 e2
    rw [← tabA_at X C e1, ← tabA_at X C' e2]
    exact of_decide_eq_true (by simpa using d)
  · cases d
theorem endGL {l : PySem.W.OpenLaw} {n k : Nat} {q : Program} {loose : List Str} {XP : (Str → Option Value) → Heap → Prop}
    {YP : World → Heap → Prop} {d : DefRec} {K : Params → PySem.W.Frag} {sp : PySem.W.Frag → List (Addr × Addr) → List (Addr × Addr) → Sp} {x : Str} {ts : List Str}
    (hn : l.most = some n) (hn2 : n ≤ sizeLine) (hdf : d.params.defaults = []) (hr : RG k callerA) (hrec : (ts.all fun n => (recsOf q).any fun e => e.name == n) = true)
    (hY : ∀ (w : World) (h : Heap), YP w h → (K w.params).In h)
    (F : ∀ (w : World) (mg : Str → Option Value) (fa : Addr) (h : Heap), (K w.params).In h → h.Ns mainGlobals mg →
      mg d.name = some (.ref fa) → (∀ n ∈ ts, TabN mg h n) → ∃ (fd : FuncData) (cs1 cs2 : List (Addr × Addr)), (∀ p ∈ cs1 ++ cs2, PySem.W.CodeHd h p.1 p.2 ∧ h.TableAt p.1 p.2 #[] ∧ (K w.params).lookup p.2 = none) ∧ (∀ p ∈ cs1, ∀ p' ∈ cs2, p.2 ≠ p'.2) ∧ (∀ (s : Shared) (u : Value), BindsTo s fd ⟨[u], []⟩ [(x, u)]) ∧
        ∀ base : Heap, (K w.params).In base → base.Ns mainGlobals mg → (∀ p ∈ cs1 ++ cs2, TabB base mg p.1 p.2) → FnG l.prog w (K w.params) mg base CX0 k fa fd [x] (sp (K w.params) cs1 cs2))
    (hsp : ∀ (w : World) (cs1 cs2 : List (Addr × Addr)) (H : Hp) (a : Addr) (ns : List Int), ns.length ≤ n → (∀ z ∈ ns, Builtin.Int.intBits z ≤ 1048576) →
      (∀ p ∈ cs1, H p.2 = some (.tbl #[])) → (∀ p ∈ cs2, H p.2 = some (TabAt p.2 [])) → (∀ p ∈ cs1, ∀ p' ∈ cs2, p.2 ≠ p'.2) → SqL (K w.params) H a (ns.map V.int) → sp (K w.params) cs1 cs2 [.ref a] H (fun v H' => v = .bl true ∧ ∀ p ∈ cs2, ∃ cs' : List Addr, H' p.2 = some (TabAt p.2 cs')) E0) :
    PySem.W.WalkO q loose XP YP l.row.toRowW d [] (fun f vs => PySem.call f vs) := by
  refine Att.attach_callB hn hdf fun w s₀ s1 mg mb fa o pm cd doc a us ns G Y ho hd hcd hmg obj hints nlen bits gens => ?_
  have inK : (K w.params).In s1.heap := hY w _ Y
  have tn : ∀ n ∈ ts, TabN mg s1.heap n := fun n hn => by
    obtain ⟨dL, h1, h2⟩ := List.any_eq_true.mp (List.all_eq_true.mp hrec n hn)
    have h2 : dL.name = n := beq_iff_eq.mp h2
    obtain ⟨f, o, fd, c, P, t1, t2, t3, t4, t5, t6⟩ := G.T.tab dL h1
    exact ⟨f, o, fd, c, P, by rw [← h2]; exact t1, t2, t3, t4, .of t5 t6, t6⟩
  obtain ⟨fd, cs1, cs2, hcs, hne, bind, hF⟩ := F w mg fa _ inK G.T.g hmg tn
  have rv := vals_ints hints
  have nv : us.length = ns.length := hints.length
  obtain ⟨T, hT⟩ : ∃ T, T = (cs1 ++ cs2).map (·.2) := ⟨_, rfl⟩
  obtain ⟨T2, hT2⟩ : ∃ T2, T2 = cs2.map (·.2) := ⟨_, rfl⟩
  have isT : ∀ b ∈ T, s1.heap.get? b = some { cls := .none, data := .fields #[] } := fun b hb => by
    rw [hT] at hb
    obtain ⟨p, hp, e⟩ := List.mem_map.mp hb
    rw [← e]
    exact (hcs p hp).2.1.2
  have memT : ∀ p ∈ cs1 ++ cs2, p.2 ∈ T := fun p hp => by rw [hT]; exact List.mem_map.mpr ⟨p, hp, rfl⟩
  have memT2 : ∀ p ∈ cs2, p.2 ∈ T2 := fun p hp => by rw [hT2]; exact List.mem_map.mpr ⟨p, hp, rfl⟩
  have subT : ∀ b ∈ T2, b ∈ T := fun b hb => by
    rw [hT2] at hb
    obtain ⟨p, hp, e⟩ := List.mem_map.mp hb
    rw [← e]
    exact memT p (List.mem_append_right _ hp)
  have offT : ∀ p ∈ cs1, p.2 ∉ T2 := fun p hp z => by
    rw [hT2] at z
    obtain ⟨p', hp', e⟩ := List.mem_map.mp z
    exact hne p hp p' hp' e.symm
  have aT : a ∉ T := fun z => by
    have q := isT a z
    rw [obj] at q
    have z' : Data.seq us.toArray _ = Data.fields #[] := congrArg Obj.data (Option.some.inj q)
    cases z'
  have small : ns.length ≤ sizeLine := Nat.le_trans nlen hn2
  have go : ∀ H : Hp, (∀ b ∈ T, b ∉ T2 → H b = some (.tbl #[])) → (∀ b ∈ T2, H b = some (TabAt b [])) → (∀ b, b ∉ T → H b = none ∨ ∃ ob xs, H b = some (.frz ob (.lst xs))) → SqL (K w.params) H a (ns.map V.int) → HOk l.prog w H s1.heap → (∀ b, H b ≠ none → b = a ∨ b ∈ T) →
      (H a ≠ none → (K w.params).lookup a = none) → codeAny (model l.prog w) callerA (.call (.ref fa) ⟨[.ref a], []⟩)
        (fun r s' => r = .ok (.ret (.bool true)) ∧ OldK s1.heap s'.heap ∧ s'.os = s1.os ∧ AllBare s'.gens) s1 := by
    intro H hTb hTb2 only hS hok atA offK
    have left : ∀ {b : Addr} {o : Obj}, s1.heap.get? b = some o → H b = none → (hidT s1.heap H).get? b = some o :=
      fun e z => hidT_get e z
    -- what is no list and no empty table is not tracked
    have nothing : ∀ {b : Addr} {o : Obj}, s1.heap.get? b = some o → (∀ vs n, o.data ≠ .seq vs n) → o.data ≠ .fields #[] → H b = none := fun {b o} e h1 h2 => by
      cases z : H b with
      | none => rfl
      | some u =>
        rcases atA b (by rw [z]; intro y; cases y) with y | y
        · rw [y, obj] at e
          cases e
          exact absurd rfl (h1 _ _)
        · rw [isT b y] at e
          cases e
          exact absurd rfl h2
    have spaces : ∀ {b : Addr} {m : Str → Option Value}, s1.heap.Ns b m → (hidT s1.heap H).Ns b m :=
      fun {b m} ⟨o, es, ep, e, z, r⟩ => ⟨o, es, ep, left e (nothing e (fun vs n y => by rw [z] at y; cases y) (fun y => by rw [z] at y; cases y)), z, r⟩
    have inB : (K w.params).In (hidT s1.heap H) := fun b o e => left (inK b o e) (by
      cases z : H b with
      | none => rfl
      | some u =>
        rcases atA b (by rw [z]; intro y; cases y) with y | y
        · subst y
          rw [offK (by rw [z]; intro y; cases y)] at e
          cases e
        · rw [hT] at y
          obtain ⟨p, hp, ep⟩ := List.mem_map.mp y
          rw [← ep, (hcs p hp).2.2] at e
          cases e)
    have md : Mod (K w.params) mg (hidT s1.heap H) := by
      obtain ⟨mc, c1, c2⟩ := G.T.nolimit
      exact ⟨inB, spaces G.T.g, ⟨mb, spaces G.T.b, G.T.builtins⟩, ⟨mc, spaces c1, c2⟩⟩
    have TB : ∀ p ∈ cs1 ++ cs2, TabB (hidT s1.heap H) mg p.1 p.2 := fun p hp => by
      have hTp := isT _ (memT p hp)
      refine ⟨?_, ?_, fun z => ?_⟩
      · obtain ⟨o, us', file, tf, flags, tg, inF, text, tt, e1, r1, r2, r3, r⟩ := (hcs p hp).1
        refine ⟨o, us', file, tf, flags, tg, inF, text, tt, left e1 (nothing e1 (fun vs n z => ?_) fun z => ?_), r1, r2, r3, r⟩
        · rw [r2] at z
          cases z
        · rw [r2] at z
          cases z
          simp at r3
      · obtain ⟨bm, ob, b1, b2, b3, b4, b5, b6⟩ := G.T.bmain
        have nG : bm ≠ mainGlobals := fun y => by
          obtain ⟨o, es, ep, e, z, _⟩ := G.T.g
          rw [y, e] at b3
          cases b3
          rw [z] at b6
          cases b6
        have nP : bm ≠ p.2 := fun y => by
          rw [y, hTp] at b3
          cases b3
          cases b6
        refine ⟨bm, ob, b1, b2, nG, nP, left b3 (nothing b3 (fun vs n z => ?_) fun z => ?_), b4, b5, b6⟩
        · rw [b6] at z
          cases z
        · rw [b6] at z
          cases z
      · obtain ⟨o, es, ep, e, y, _⟩ := G.T.g
        rw [z, hTp] at e
        cases e
        cases y
    have e0 : Env0 l.prog w (K w.params) mg (hidT s1.heap H) callerA [] s1 H :=
      ⟨rfl, md, fun b o e => of_hidT e, Nat.le_of_eq (hidT_size _ _), trivial, fun b z => (nomatch z), hok, .of_eq gens⟩
    have run := (hF _ inB (spaces G.T.g) TB).run callerA [] s1 H ⟨[.ref a], []⟩ [.ref a] [.ref a] _ _ hr e0
      (bind s1 (.ref a)) (.cons rfl .nil) (hsp w cs1 cs2 H a ns nlen bits (fun p hp => hTb _ (memT p (List.mem_append_left _ hp)) (offT p hp)) (fun p hp => hTb2 _ (memT2 p hp)) hne hS)
    refine codeAny_mono run fun res s' h => ?_
    match res, h with
    | .error e, h => exact h.elim
    | .ok .next, h => exact h.elim
    | .ok .brk, h => exact h.elim
    | .ok .cont, h => exact h.elim
    | .ok (.ret u), ⟨v, H', os, bare, un, hok', r', q⟩ =>
      obtain ⟨q', qT⟩ := q
      subst q'
      have r2 : u = Value.bool true := r'
      subst r2
      have stays : ∀ b o, b ∉ T → s1.heap.get? b = some o → s'.heap.get? b = some o := fun b o hb e => by
        cases z : H b with
        | none => exact un.keep b o e z (fun y => (nomatch y)) (fun y => (nomatch y))
        | some u =>
          rcases only b hb with y | ⟨ob, xs, y⟩
          · rw [z] at y
            cases y
          · obtain ⟨e1, _⟩ := hok b _ y
            obtain ⟨e2, _⟩ := hok' b _ (un.frzs b ob _ y)
            rw [e] at e1
            cases e1
            exact e2
      have grows : ∀ b ∈ T, ∃ more : Array Value, s'.heap.get? b = some { cls := .none, data := .fields (#[] ++ more) } := fun b hb => by
        by_cases hb2 : b ∈ T2
        · rw [hT2] at hb2
          obtain ⟨p, hp, e⟩ := List.mem_map.mp hb2
          obtain ⟨cs', e'⟩ := qT p hp
          rw [← e]
          obtain ⟨⟨ps, e3, _⟩, _⟩ := hok' _ _ e'
          exact ⟨ps, by rw [e3]; simp⟩
        · obtain ⟨more, z⟩ := un.tbls b #[] (hTb b hb hb2)
          exact ⟨more, hok' b _ z⟩
      refine ⟨rfl, ⟨fun b o e => ?_, fun b o e => ?_⟩, os, bare⟩
      · by_cases hb : b ∈ T
        · obtain ⟨more, hm⟩ := grows b hb
          have hb2 := hb
          rw [hT] at hb2
          obtain ⟨p, hp, ep⟩ := List.mem_map.mp hb2
          rw [isT b hb] at e
          cases e
          exact .inr (.inl ⟨by rw [← ep]; exact (hcs p hp).2.1.isCodeTable, rfl, #[], more, rfl, hm⟩)
        · exact .inl (stays b o hb e)
      · by_cases hb : b ∈ T
        · obtain ⟨more, hm⟩ := grows b hb
          exact ⟨_, hm⟩
        · exact ⟨o, stays b o hb e⟩
  let Hf : Option HO → Hp := fun u b => if b ∈ T2 then some (TabAt b []) else if b ∈ T then some (.tbl #[]) else if b = a then u else none
  have hf : ∀ u b, b ∈ T → b ∉ T2 → Hf u b = some (.tbl #[]) := fun u b hb hb2 => (if_neg hb2).trans (if_pos hb)
  have hf0 : ∀ u b, b ∈ T2 → Hf u b = some (TabAt b []) := fun u b hb => if_pos hb
  have hf2 : ∀ u b, b ∉ T → b ≠ a → Hf u b = none := fun u b hb hn => (if_neg fun z => hb (subT b z)).trans ((if_neg hb).trans (if_neg hn))
  have hf3 : ∀ u, Hf u a = u := fun u => (if_neg fun z => aT (subT a z)).trans ((if_neg aT).trans (if_pos rfl))
  have okT : ∀ b ∈ T2, ∀ H : Hp, ObjOk l.prog w H s1.heap b (TabAt b []) := fun b hb H => ⟨⟨#[], isT b (subT b hb), True.intro, fun pos cv hc => by
    have z : codeAmong pos [] = some cv := hc
    simp [codeAmong] at z⟩, ⟨_, isT b (subT b hb)⟩, fun h1 h2 ⟨ps, a, b, c⟩ st => ⟨ps, st _ a, b, c⟩⟩
  cases hk : (K w.params).lookup a with
  | some o =>
    have e := inK a o hk
    rw [obj] at e
    cases e
    refine go (Hf none) (fun b hb => hf none b hb) (hf0 none) (fun b hb => ?_) (.inr ⟨_, us.toArray, _, hk, rfl, rfl, rfl, ?_, by simpa using rv⟩)
      (fun b u z => ?_) (fun b z => ?_) fun z => absurd (hf3 none) z
    · by_cases hn : b = a
      · rw [hn]; exact .inl (hf3 none)
      · exact .inl (hf2 none b hb hn)
    · rw [List.size_toArray, nv]
      exact small
    · by_cases hb : b ∈ T
      · by_cases hb2 : b ∈ T2
        · rw [hf0 none b hb2] at z
          cases z
          exact okT b hb2 _
        · rw [hf none b hb hb2] at z
          cases z
          exact isT b hb
      · by_cases hn : b = a
        · rw [hn, hf3] at z; cases z
        · rw [hf2 none b hb hn] at z; cases z
    · by_cases hb : b ∈ T
      · exact .inr hb
      · by_cases hn : b = a
        · exact .inl hn
        · exact absurd (hf2 none b hb hn) z
  | none =>
    let ob : Obj := { cls := .type "list", data := .seq us.toArray }
    refine go (Hf (some (.frz ob (.lst (ns.map V.int))))) (fun b hb => hf _ b hb) (hf0 _) (fun b hb => ?_) (.inl (.inr ⟨ob, hf3 _⟩)) (fun b u z => ?_) (fun b z => ?_) fun _ => hk
    · by_cases hn : b = a
      · rw [hn]; exact .inr ⟨_, _, hf3 _⟩
      · exact .inl (hf2 _ b hb hn)
    · by_cases hb : b ∈ T
      · by_cases hb2 : b ∈ T2
        · rw [hf0 _ b hb2] at z
          cases z
          exact okT b hb2 _
        · rw [hf _ b hb hb2] at z
          cases z
          exact isT b hb
      · by_cases hn : b = a
        · rw [hn, hf3] at z
          cases z
          rw [hn]
          exact ⟨obj, by rw [List.length_map]; exact small, us, _, rv, obj⟩
        · rw [hf2 _ b hb hn] at z; cases z
    · by_cases hb : b ∈ T
      · exact .inr hb
      · by_cases hn : b = a
        · exact .inl hn
        · exact absurd (hf2 _ b hb hn) z
end Cl

set_option maxHeartbeats 0
namespace Cl
open PySem PySem.Spec PyProof.Rows L2
open GxR (TabB TabG)

theorem FnG.of {P : Program} {w : World} {K : PySem.W.Frag} {mg : Str → Option Value} {base : Heap} {CX : CXT} {k : Nat} {f : Addr} {fd : FuncData} {ps : List Str} {sp sp' : Sp} (h : FnG P w K mg base CX k f fd ps sp) (i : ∀ vs H Q E, sp' vs H Q E → sp vs H Q E) : FnG P w K mg base CX k f fd ps sp' :=
  ⟨fun vs H Q E z => h.len vs H Q E (i vs H Q E z), fun A outer s H args us vs Q E hr e hb hv z => h.run A outer s H args us vs Q E hr e hb hv (i vs H Q E z)⟩
theorem cornerB {K : PySem.W.Frag} {vs : List V} {H : Hp} {Q : VK} {E : XK} (h : spCornerAt K vs H Q E) : spCornerAtN K vs H Q E := by
  obtain ⟨g, v, s, rfl, h1, h2, h3, h4, h5, q⟩ := h
  exact ⟨g, v, s, rfl, h1, h2, h3, h4, h5, fun p H' _ s' e => q _ H' s' ⟨p, rfl, .inl (.inl e)⟩⟩
def spLawTs (K : PySem.W.Frag) : List (Addr × Addr) → List (Addr × Addr) → Sp
  | [p0, p1, p2, p3, p4], [p5] => spLawT K [p4.2, p3.2, p0.2, p1.2, p2.2] p5.2
  | _, _ => fun _ _ _ _ => True
def noTab (K : PySem.W.Frag) : Bool := K.all fun p => match p.2.cls, p.2.data with
  | .none, .fields vs => vs.size != 0
  | _, _ => true
theorem noTab_at {K : PySem.W.Frag} {h : Heap} {P : Addr} (X : K.In h) (n : noTab K = true) (e : h.get? P = some { cls := .none, data := .fields #[] }) : K.lookup P = none := by
  cases q : K.lookup P with
  | none => rfl
  | some o =>
    have h1 := X _ _ q
    rw [e] at h1
    cases h1
    have hm : ∀ (L : List (Addr × Obj)) (o : Obj), L.lookup P = some o → (P, o) ∈ L := fun L => by
      induction L with
      | nil => intro o z; cases z
      | cons y L ih =>
        intro o z
        rw [List.lookup_cons] at z
        split at z
        · rename_i hb
          have := eq_of_beq hb
          cases z
          rw [this]
          exact List.mem_cons_self ..
        · exact List.mem_cons_of_mem _ (ih _ z)
    have := List.all_eq_true.mp n _ (hm _ _ q)
    cases this

theorem all_mk {l : PySem.W.OpenLaw} {w : World} {K : PySem.W.Frag} {h : Heap} {mg : Str → Option Value} {fa : Addr} (X : K.In h) (G : h.Ns mainGlobals mg) (hfa : mg "law" = some (.ref fa))
    {f_law_deck : Addr} {od_law_deck an_law_deck : Option Addr} {sl_law_deck : Array (Option Value)} {oc_law_deck kV_law_deck dc_law_deck pm_law_deck cd_law_deck ct_law_deck : Value}
    {f_law_draw : Addr} {od_law_draw an_law_draw : Option Addr} {sl_law_draw : Array (Option Value)} {oc_law_draw kV_law_draw dc_law_draw pm_law_draw cd_law_draw ct_law_draw : Value}
    {f_law_many : Addr} {od_law_many an_law_many : Option Addr} {sl_law_many : Array (Option Value)} {oc_law_many kV_law_many dc_law_many pm_law_many cd_law_many ct_law_many : Value}
    {f_law_grain : Addr} {od_law_grain an_law_grain : Option Addr} {sl_law_grain : Array (Option Value)} {oc_law_grain kV_law_grain dc_law_grain pm_law_grain cd_law_grain ct_law_grain : Value}
    {f_law_unlike : Addr} {od_law_unlike an_law_unlike : Option Addr} {sl_law_unlike : Array (Option Value)} {oc_law_unlike kV_law_unlike dc_law_unlike pm_law_unlike cd_law_unlike ct_law_unlike : Value}
    {f_law_point : Addr} {od_law_point an_law_point : Option Addr} {sl_law_point : Array (Option Value)} {oc_law_point kV_law_point dc_law_point pm_law_point cd_law_point ct_law_point : Value}
    {f_law_beside : Addr} {od_law_beside an_law_beside : Option Addr} {sl_law_beside : Array (Option Value)} {oc_law_beside kV_law_beside dc_law_beside pm_law_beside cd_law_beside ct_law_beside : Value}
    {f_law_line : Addr} {od_law_line an_law_line : Option Addr} {sl_law_line : Array (Option Value)} {oc_law_line kV_law_line dc_law_line pm_law_line cd_law_line ct_law_line : Value}
    {f_law_lines : Addr} {od_law_lines an_law_lines : Option Addr} {sl_law_lines : Array (Option Value)} {oc_law_lines kV_law_lines dc_law_lines pm_law_lines cd_law_lines ct_law_lines : Value}
    {f_law_nearest : Addr} {od_law_nearest an_law_nearest : Option Addr} {sl_law_nearest : Array (Option Value)} {oc_law_nearest kV_law_nearest dc_law_nearest pm_law_nearest cd_law_nearest ct_law_nearest : Value}
    {f_law_less : Addr} {od_law_less an_law_less : Option Addr} {sl_law_less : Array (Option Value)} {oc_law_less kV_law_less dc_law_less pm_law_less cd_law_less ct_law_less : Value}
    {f_law_turn : Addr} {od_law_turn an_law_turn : Option Addr} {sl_law_turn : Array (Option Value)} {oc_law_turn kV_law_turn dc_law_turn pm_law_turn cd_law_turn ct_law_turn : Value}
    {f_law_parted : Addr} {od_law_parted an_law_parted : Option Addr} {sl_law_parted : Array (Option Value)} {oc_law_parted kV_law_parted dc_law_parted pm_law_parted cd_law_parted ct_law_parted : Value}
    {f_law_lowest : Addr} {od_law_lowest an_law_lowest : Option Addr} {sl_law_lowest : Array (Option Value)} {oc_law_lowest kV_law_lowest dc_law_lowest pm_law_lowest cd_law_lowest ct_law_lowest : Value}
    {f_law_due_along : Addr} {od_law_due_along an_law_due_along : Option Addr} {sl_law_due_along : Array (Option Value)} {oc_law_due_along kV_law_due_along dc_law_due_along pm_law_due_along cd_law_due_along ct_law_due_along : Value}
    {f_law_due : Addr} {od_law_due an_law_due : Option Addr} {sl_law_due : Array (Option Value)} {oc_law_due kV_law_due dc_law_due pm_law_due cd_law_due ct_law_due : Value}
    {f_law_wants : Addr} {od_law_wants an_law_wants : Option Addr} {sl_law_wants : Array (Option Value)} {oc_law_wants kV_law_wants dc_law_wants pm_law_wants cd_law_wants ct_law_wants : Value}
    {f_law_corners_asked : Addr} {od_law_corners_asked an_law_corners_asked : Option Addr} {sl_law_corners_asked : Array (Option Value)} {oc_law_corners_asked kV_law_corners_asked dc_law_corners_asked pm_law_corners_asked cd_law_corners_asked ct_law_corners_asked : Value}
    {fnearest : Addr} {odnearest annearest : Option Addr} {slnearest : Array (Option Value)} {ocnearest kVnearest dcnearest pmnearest cdnearest ctnearest : Value}
    {fcorner_of : Addr} {odcorner_of ancorner_of : Option Addr} {slcorner_of : Array (Option Value)} {occorner_of kVcorner_of dccorner_of pmcorner_of cdcorner_of ctcorner_of : Value}
    {fend_wants : Addr} {odend_wants anend_wants : Option Addr} {slend_wants : Array (Option Value)} {ocend_wants kVend_wants dcend_wants pmend_wants cdend_wants ctend_wants : Value}
    {fcorner_at : Addr} {odcorner_at ancorner_at : Option Addr} {slcorner_at : Array (Option Value)} {occorner_at kVcorner_at dccorner_at pmcorner_at cdcorner_at ctcorner_at : Value}
    {fpairs_below : Addr} {odpairs_below anpairs_below : Option Addr} {slpairs_below : Array (Option Value)} {ocpairs_below kVpairs_below dcpairs_below pmpairs_below cdpairs_below ctpairs_below : Value}
    {fstep_of : Addr} {odstep_of anstep_of : Option Addr} {slstep_of : Array (Option Value)} {ocstep_of kVstep_of dcstep_of pmstep_of cdstep_of ctstep_of : Value}
    {fturn_of : Addr} {odturn_of anturn_of : Option Addr} {slturn_of : Array (Option Value)} {octurn_of kVturn_of dcturn_of pmturn_of cdturn_of ctturn_of : Value}
    {fside_of : Addr} {odside_of anside_of : Option Addr} {slside_of : Array (Option Value)} {ocside_of kVside_of dcside_of pmside_of cdside_of ctside_of : Value}
    {fgreatest_parting : Addr} {odgreatest_parting angreatest_parting : Option Addr} {slgreatest_parting : Array (Option Value)} {ocgreatest_parting kVgreatest_parting dcgreatest_parting pmgreatest_parting cdgreatest_parting ctgreatest_parting : Value}
    {fspot_of : Addr} {odspot_of anspot_of : Option Addr} {slspot_of : Array (Option Value)} {ocspot_of kVspot_of dcspot_of pmspot_of cdspot_of ctspot_of : Value}
    {fspot_at : Addr} {odspot_at anspot_at : Option Addr} {slspot_at : Array (Option Value)} {ocspot_at kVspot_at dcspot_at pmspot_at cdspot_at ctspot_at : Value}
    {fcommon_across : Addr} {odcommon_across ancommon_across : Option Addr} {slcommon_across : Array (Option Value)} {occommon_across kVcommon_across dccommon_across pmcommon_across cdcommon_across ctcommon_across : Value}
    {fcommon_along : Addr} {odcommon_along ancommon_along : Option Addr} {slcommon_along : Array (Option Value)} {occommon_along kVcommon_along dccommon_along pmcommon_along cdcommon_along ctcommon_along : Value}
    {fcommon : Addr} {odcommon ancommon : Option Addr} {slcommon : Array (Option Value)} {occommon kVcommon dccommon pmcommon cdcommon ctcommon : Value}
    {fcross_wants : Addr} {odcross_wants ancross_wants : Option Addr} {slcross_wants : Array (Option Value)} {occross_wants kVcross_wants dccross_wants pmcross_wants cdcross_wants ctcross_wants : Value}
    {fwants_of : Addr} {odwants_of anwants_of : Option Addr} {slwants_of : Array (Option Value)} {ocwants_of kVwants_of dcwants_of pmwants_of cdwants_of ctwants_of : Value}
    {fcorners_of : Addr} {odcorners_of ancorners_of : Option Addr} {slcorners_of : Array (Option Value)} {occorners_of kVcorners_of dccorners_of pmcorners_of cdcorners_of ctcorners_of : Value}
    {fare_along : Addr} {odare_along anare_along : Option Addr} {slare_along : Array (Option Value)} {ocare_along kVare_along dcare_along pmare_along cdare_along ctare_along : Value}
    {fways_across : Addr} {odways_across anways_across : Option Addr} {slways_across : Array (Option Value)} {ocways_across kVways_across dcways_across pmways_across cdways_across ctways_across : Value}
    {fleast_by : Addr} {odleast_by anleast_by : Option Addr} {slleast_by : Array (Option Value)} {ocleast_by kVleast_by dcleast_by pmleast_by cdleast_by ctleast_by : Value}
    {fgreatest_by : Addr} {odgreatest_by angreatest_by : Option Addr} {slgreatest_by : Array (Option Value)} {ocgreatest_by kVgreatest_by dcgreatest_by pmgreatest_by cdgreatest_by ctgreatest_by : Value}
    {fgap_by : Addr} {odgap_by angap_by : Option Addr} {slgap_by : Array (Option Value)} {ocgap_by kVgap_by dcgap_by pmgap_by cdgap_by ctgap_by : Value}
    {fapart_paper : Addr} {odapart_paper anapart_paper : Option Addr} {slapart_paper : Array (Option Value)} {ocapart_paper kVapart_paper dcapart_paper pmapart_paper cdapart_paper ctapart_paper : Value}
    {flowest : Addr} {odlowest anlowest : Option Addr} {sllowest : Array (Option Value)} {oclowest kVlowest dclowest pmlowest cdlowest ctlowest : Value}
    {fshare_of : Addr} {odshare_of anshare_of : Option Addr} {slshare_of : Array (Option Value)} {ocshare_of kVshare_of dcshare_of pmshare_of cdshare_of ctshare_of : Value}
    {fcommon_paper : Addr} {odcommon_paper ancommon_paper : Option Addr} {slcommon_paper : Array (Option Value)} {occommon_paper kVcommon_paper dccommon_paper pmcommon_paper cdcommon_paper ctcommon_paper : Value}
    {fpair_paper : Addr} {odpair_paper anpair_paper : Option Addr} {slpair_paper : Array (Option Value)} {ocpair_paper kVpair_paper dcpair_paper pmpair_paper cdpair_paper ctpair_paper : Value}
    {funwanted_paper : Addr} {odunwanted_paper anunwanted_paper : Option Addr} {slunwanted_paper : Array (Option Value)} {ocunwanted_paper kVunwanted_paper dcunwanted_paper pmunwanted_paper cdunwanted_paper ctunwanted_paper : Value}
    {f_law_is_along : Addr} {od_law_is_along an_law_is_along : Option Addr} {sl_law_is_along : Array (Option Value)} {oc_law_is_along kV_law_is_along dc_law_is_along pm_law_is_along cd_law_is_along ct_law_is_along : Value}
    {f_law_is_whole : Addr} {od_law_is_whole an_law_is_whole : Option Addr} {sl_law_is_whole : Array (Option Value)} {oc_law_is_whole kV_law_is_whole dc_law_is_whole pm_law_is_whole cd_law_is_whole ct_law_is_whole : Value}
    {f_law_number_at : Addr} {od_law_number_at an_law_number_at : Option Addr} {sl_law_number_at : Array (Option Value)} {oc_law_number_at kV_law_number_at dc_law_number_at pm_law_number_at cd_law_number_at ct_law_number_at : Value}
    {f_law_is_paper : Addr} {od_law_is_paper an_law_is_paper : Option Addr} {sl_law_is_paper : Array (Option Value)} {oc_law_is_paper kV_law_is_paper dc_law_is_paper pm_law_is_paper cd_law_is_paper ct_law_is_paper : Value}
    {f_law_pair_so : Addr} {od_law_pair_so an_law_pair_so : Option Addr} {sl_law_pair_so : Array (Option Value)} {oc_law_pair_so kV_law_pair_so dc_law_pair_so pm_law_pair_so cd_law_pair_so ct_law_pair_so : Value}
    {f_law_is_unwanted : Addr} {od_law_is_unwanted an_law_is_unwanted : Option Addr} {sl_law_is_unwanted : Array (Option Value)} {oc_law_is_unwanted kV_law_is_unwanted dc_law_is_unwanted pm_law_is_unwanted cd_law_is_unwanted ct_law_is_unwanted : Value}
    {fends_in : Addr} {odends_in anends_in : Option Addr} {slends_in : Array (Option Value)} {ocends_in kVends_in dcends_in pmends_in cdends_in ctends_in : Value}
    {fare_wholes : Addr} {odare_wholes anare_wholes : Option Addr} {slare_wholes : Array (Option Value)} {ocare_wholes kVare_wholes dcare_wholes pmare_wholes cdare_wholes ctare_wholes : Value}
    {fis_paper : Addr} {odis_paper anis_paper : Option Addr} {slis_paper : Array (Option Value)} {ocis_paper kVis_paper dcis_paper pmis_paper cdis_paper ctis_paper : Value}
    {fis_share : Addr} {odis_share anis_share : Option Addr} {slis_share : Array (Option Value)} {ocis_share kVis_share dcis_share pmis_share cdis_share ctis_share : Value}
    {fmeets_at : Addr} {odmeets_at anmeets_at : Option Addr} {slmeets_at : Array (Option Value)} {ocmeets_at kVmeets_at dcmeets_at pmmeets_at cdmeets_at ctmeets_at : Value}
    {fapart_holds : Addr} {odapart_holds anapart_holds : Option Addr} {slapart_holds : Array (Option Value)} {ocapart_holds kVapart_holds dcapart_holds pmapart_holds cdapart_holds ctapart_holds : Value}
    {fpair_holds : Addr} {odpair_holds anpair_holds : Option Addr} {slpair_holds : Array (Option Value)} {ocpair_holds kVpair_holds dcpair_holds pmpair_holds cdpair_holds ctpair_holds : Value}
    {funwanted_holds : Addr} {odunwanted_holds anunwanted_holds : Option Addr} {slunwanted_holds : Array (Option Value)} {ocunwanted_holds kVunwanted_holds dcunwanted_holds pmunwanted_holds cdunwanted_holds ctunwanted_holds : Value}
    {f_law_told_right : Addr} {od_law_told_right an_law_told_right : Option Addr} {sl_law_told_right : Array (Option Value)} {oc_law_told_right kV_law_told_right dc_law_told_right pm_law_told_right cd_law_told_right ct_law_told_right : Value}
    {fis_whole : Addr} {odis_whole anis_whole : Option Addr} {slis_whole : Array (Option Value)} {ocis_whole kVis_whole dcis_whole pmis_whole cdis_whole ctis_whole : Value}
    {flaw : Addr} {odlaw anlaw : Option Addr} {sllaw : Array (Option Value)} {oclaw kVlaw dclaw pmlaw cdlaw ctlaw : Value}
    (a_law_deck : PySem.W.nsIn K mainGlobals "_law_deck" = some (some (.ref f_law_deck))) (l_law_deck : K.lookup f_law_deck = some ⟨oc_law_deck, od_law_deck, .func (PySem.W.fnOf "_law_deck" "_law_deck" (defArgs s_law_deck) (defBody s_law_deck) (defScope s_law_deck) .none kV_law_deck dc_law_deck pm_law_deck an_law_deck cd_law_deck ct_law_deck), sl_law_deck⟩) (c_law_deck : PySem.W.codeIn K cd_law_deck "_law_deck" = true) (k_law_deck : PySem.W.keepIn K (.ref f_law_deck) = true)
    (a_law_draw : PySem.W.nsIn K mainGlobals "_law_draw" = some (some (.ref f_law_draw))) (l_law_draw : K.lookup f_law_draw = some ⟨oc_law_draw, od_law_draw, .func (PySem.W.fnOf "_law_draw" "_law_draw" (defArgs s_law_draw) (defBody s_law_draw) (defScope s_law_draw) .none kV_law_draw dc_law_draw pm_law_draw an_law_draw cd_law_draw ct_law_draw), sl_law_draw⟩) (c_law_draw : PySem.W.codeIn K cd_law_draw "_law_draw" = true) (k_law_draw : PySem.W.keepIn K (.ref f_law_draw) = true)
    (a_law_many : PySem.W.nsIn K mainGlobals "_law_many" = some (some (.ref f_law_many))) (l_law_many : K.lookup f_law_many = some ⟨oc_law_many, od_law_many, .func (PySem.W.fnOf "_law_many" "_law_many" (defArgs s_law_many) (defBody s_law_many) (defScope s_law_many) .none kV_law_many dc_law_many pm_law_many an_law_many cd_law_many ct_law_many), sl_law_many⟩) (c_law_many : PySem.W.codeIn K cd_law_many "_law_many" = true) (k_law_many : PySem.W.keepIn K (.ref f_law_many) = true)
    (a_law_grain : PySem.W.nsIn K mainGlobals "_law_grain" = some (some (.ref f_law_grain))) (l_law_grain : K.lookup f_law_grain = some ⟨oc_law_grain, od_law_grain, .func (PySem.W.fnOf "_law_grain" "_law_grain" (defArgs s_law_grain) (defBody s_law_grain) (defScope s_law_grain) .none kV_law_grain dc_law_grain pm_law_grain an_law_grain cd_law_grain ct_law_grain), sl_law_grain⟩) (c_law_grain : PySem.W.codeIn K cd_law_grain "_law_grain" = true) (k_law_grain : PySem.W.keepIn K (.ref f_law_grain) = true)
    (a_law_unlike : PySem.W.nsIn K mainGlobals "_law_unlike" = some (some (.ref f_law_unlike))) (l_law_unlike : K.lookup f_law_unlike = some ⟨oc_law_unlike, od_law_unlike, .func (PySem.W.fnOf "_law_unlike" "_law_unlike" (defArgs s_law_unlike) (defBody s_law_unlike) (defScope s_law_unlike) .none kV_law_unlike dc_law_unlike pm_law_unlike an_law_unlike cd_law_unlike ct_law_unlike), sl_law_unlike⟩) (c_law_unlike : PySem.W.codeIn K cd_law_unlike "_law_unlike" = true) (k_law_unlike : PySem.W.keepIn K (.ref f_law_unlike) = true)
    (a_law_point : PySem.W.nsIn K mainGlobals "_law_point" = some (some (.ref f_law_point))) (l_law_point : K.lookup f_law_point = some ⟨oc_law_point, od_law_point, .func (PySem.W.fnOf "_law_point" "_law_point" (defArgs s_law_point) (defBody s_law_point) (defScope s_law_point) .none kV_law_point dc_law_point pm_law_point an_law_point cd_law_point ct_law_point), sl_law_point⟩) (c_law_point : PySem.W.codeIn K cd_law_point "_law_point" = true) (k_law_point : PySem.W.keepIn K (.ref f_law_point) = true)
    (a_law_beside : PySem.W.nsIn K mainGlobals "_law_beside" = some (some (.ref f_law_beside))) (l_law_beside : K.lookup f_law_beside = some ⟨oc_law_beside, od_law_beside, .func (PySem.W.fnOf "_law_beside" "_law_beside" (defArgs s_law_beside) (defBody s_law_beside) (defScope s_law_beside) .none kV_law_beside dc_law_beside pm_law_beside an_law_beside cd_law_beside ct_law_beside), sl_law_beside⟩) (c_law_beside : PySem.W.codeIn K cd_law_beside "_law_beside" = true) (k_law_beside : PySem.W.keepIn K (.ref f_law_beside) = true)
    (a_law_line : PySem.W.nsIn K mainGlobals "_law_line" = some (some (.ref f_law_line))) (l_law_line : K.lookup f_law_line = some ⟨oc_law_line, od_law_line, .func (PySem.W.fnOf "_law_line" "_law_line" (defArgs s_law_line) (defBody s_law_line) (defScope s_law_line) .none kV_law_line dc_law_line pm_law_line an_law_line cd_law_line ct_law_line), sl_law_line⟩) (c_law_line : PySem.W.codeIn K cd_law_line "_law_line" = true) (k_law_line : PySem.W.keepIn K (.ref f_law_line) = true)
    (a_law_lines : PySem.W.nsIn K mainGlobals "_law_lines" = some (some (.ref f_law_lines))) (l_law_lines : K.lookup f_law_lines = some ⟨oc_law_lines, od_law_lines, .func (PySem.W.fnOf "_law_lines" "_law_lines" (defArgs s_law_lines) (defBody s_law_lines) (defScope s_law_lines) .none kV_law_lines dc_law_lines pm_law_lines an_law_lines cd_law_lines ct_law_lines), sl_law_lines⟩) (c_law_lines : PySem.W.codeIn K cd_law_lines "_law_lines" = true) (k_law_lines : PySem.W.keepIn K (.ref f_law_lines) = true)
    (a_law_nearest : PySem.W.nsIn K mainGlobals "_law_nearest" = some (some (.ref f_law_nearest))) (l_law_nearest : K.lookup f_law_nearest = some ⟨oc_law_nearest, od_law_nearest, .func (PySem.W.fnOf "_law_nearest" "_law_nearest" (defArgs s_law_nearest) (defBody s_law_nearest) (defScope s_law_nearest) .none kV_law_nearest dc_law_nearest pm_law_nearest an_law_nearest cd_law_nearest ct_law_nearest), sl_law_nearest⟩) (c_law_nearest : PySem.W.codeIn K cd_law_nearest "_law_nearest" = true) (k_law_nearest : PySem.W.keepIn K (.ref f_law_nearest) = true)
    (a_law_less : PySem.W.nsIn K mainGlobals "_law_less" = some (some (.ref f_law_less))) (l_law_less : K.lookup f_law_less = some ⟨oc_law_less, od_law_less, .func (PySem.W.fnOf "_law_less" "_law_less" (defArgs s_law_less) (defBody s_law_less) (defScope s_law_less) .none kV_law_less dc_law_less pm_law_less an_law_less cd_law_less ct_law_less), sl_law_less⟩) (c_law_less : PySem.W.codeIn K cd_law_less "_law_less" = true) (k_law_less : PySem.W.keepIn K (.ref f_law_less) = true)
    (a_law_turn : PySem.W.nsIn K mainGlobals "_law_turn" = some (some (.ref f_law_turn))) (l_law_turn : K.lookup f_law_turn = some ⟨oc_law_turn, od_law_turn, .func (PySem.W.fnOf "_law_turn" "_law_turn" (defArgs s_law_turn) (defBody s_law_turn) (defScope s_law_turn) .none kV_law_turn dc_law_turn pm_law_turn an_law_turn cd_law_turn ct_law_turn), sl_law_turn⟩) (c_law_turn : PySem.W.codeIn K cd_law_turn "_law_turn" = true) (k_law_turn : PySem.W.keepIn K (.ref f_law_turn) = true)
    (a_law_parted : PySem.W.nsIn K mainGlobals "_law_parted" = some (some (.ref f_law_parted))) (l_law_parted : K.lookup f_law_parted = some ⟨oc_law_parted, od_law_parted, .func (PySem.W.fnOf "_law_parted" "_law_parted" (defArgs s_law_parted) (defBody s_law_parted) (defScope s_law_parted) .none kV_law_parted dc_law_parted pm_law_parted an_law_parted cd_law_parted ct_law_parted), sl_law_parted⟩) (c_law_parted : PySem.W.codeIn K cd_law_parted "_law_parted" = true) (k_law_parted : PySem.W.keepIn K (.ref f_law_parted) = true)
    (a_law_lowest : PySem.W.nsIn K mainGlobals "_law_lowest" = some (some (.ref f_law_lowest))) (l_law_lowest : K.lookup f_law_lowest = some ⟨oc_law_lowest, od_law_lowest, .func (PySem.W.fnOf "_law_lowest" "_law_lowest" (defArgs s_law_lowest) (defBody s_law_lowest) (defScope s_law_lowest) .none kV_law_lowest dc_law_lowest pm_law_lowest an_law_lowest cd_law_lowest ct_law_lowest), sl_law_lowest⟩) (c_law_lowest : PySem.W.codeIn K cd_law_lowest "_law_lowest" = true) (k_law_lowest : PySem.W.keepIn K (.ref f_law_lowest) = true)
    (a_law_due_along : PySem.W.nsIn K mainGlobals "_law_due_along" = some (some (.ref f_law_due_along))) (l_law_due_along : K.lookup f_law_due_along = some ⟨oc_law_due_along, od_law_due_along, .func (PySem.W.fnOf "_law_due_along" "_law_due_along" (defArgs s_law_due_along) (defBody s_law_due_along) (defScope s_law_due_along) .none kV_law_due_along dc_law_due_along pm_law_due_along an_law_due_along cd_law_due_along ct_law_due_along), sl_law_due_along⟩) (c_law_due_along : PySem.W.codeIn K cd_law_due_along "_law_due_along" = true) (k_law_due_along : PySem.W.keepIn K (.ref f_law_due_along) = true)
    (a_law_due : PySem.W.nsIn K mainGlobals "_law_due" = some (some (.ref f_law_due))) (l_law_due : K.lookup f_law_due = some ⟨oc_law_due, od_law_due, .func (PySem.W.fnOf "_law_due" "_law_due" (defArgs s_law_due) (defBody s_law_due) (defScope s_law_due) .none kV_law_due dc_law_due pm_law_due an_law_due cd_law_due ct_law_due), sl_law_due⟩) (c_law_due : PySem.W.codeIn K cd_law_due "_law_due" = true) (k_law_due : PySem.W.keepIn K (.ref f_law_due) = true)
    (a_law_wants : PySem.W.nsIn K mainGlobals "_law_wants" = some (some (.ref f_law_wants))) (l_law_wants : K.lookup f_law_wants = some ⟨oc_law_wants, od_law_wants, .func (PySem.W.fnOf "_law_wants" "_law_wants" (defArgs s_law_wants) (defBody s_law_wants) (defScope s_law_wants) .none kV_law_wants dc_law_wants pm_law_wants an_law_wants cd_law_wants ct_law_wants), sl_law_wants⟩) (c_law_wants : PySem.W.codeIn K cd_law_wants "_law_wants" = true) (k_law_wants : PySem.W.keepIn K (.ref f_law_wants) = true)
    (a_law_corners_asked : PySem.W.nsIn K mainGlobals "_law_corners_asked" = some (some (.ref f_law_corners_asked))) (l_law_corners_asked : K.lookup f_law_corners_asked = some ⟨oc_law_corners_asked, od_law_corners_asked, .func (PySem.W.fnOf "_law_corners_asked" "_law_corners_asked" (defArgs s_law_corners_asked) (defBody s_law_corners_asked) (defScope s_law_corners_asked) .none kV_law_corners_asked dc_law_corners_asked pm_law_corners_asked an_law_corners_asked cd_law_corners_asked ct_law_corners_asked), sl_law_corners_asked⟩) (c_law_corners_asked : PySem.W.codeIn K cd_law_corners_asked "_law_corners_asked" = true) (k_law_corners_asked : PySem.W.keepIn K (.ref f_law_corners_asked) = true)
    (anearest : PySem.W.nsIn K mainGlobals "nearest" = some (some (.ref fnearest))) (lnearest : K.lookup fnearest = some ⟨ocnearest, odnearest, .func (PySem.W.fnOf "nearest" "nearest" (defArgs snearest) (defBody snearest) (defScope snearest) .none kVnearest dcnearest pmnearest annearest cdnearest ctnearest), slnearest⟩) (cnearest : PySem.W.codeIn K cdnearest "nearest" = true) (knearest : PySem.W.keepIn K (.ref fnearest) = true)
    (acorner_of : PySem.W.nsIn K mainGlobals "corner_of" = some (some (.ref fcorner_of))) (lcorner_of : K.lookup fcorner_of = some ⟨occorner_of, odcorner_of, .func (PySem.W.fnOf "corner_of" "corner_of" (defArgs scorner_of) (defBody scorner_of) (defScope scorner_of) .none kVcorner_of dccorner_of pmcorner_of ancorner_of cdcorner_of ctcorner_of), slcorner_of⟩) (ccorner_of : PySem.W.codeIn K cdcorner_of "corner_of" = true) (kcorner_of : PySem.W.keepIn K (.ref fcorner_of) = true)
    (aend_wants : PySem.W.nsIn K mainGlobals "end_wants" = some (some (.ref fend_wants))) (lend_wants : K.lookup fend_wants = some ⟨ocend_wants, odend_wants, .func (PySem.W.fnOf "end_wants" "end_wants" (defArgs send_wants) (defBody send_wants) (defScope send_wants) .none kVend_wants dcend_wants pmend_wants anend_wants cdend_wants ctend_wants), slend_wants⟩) (cend_wants : PySem.W.codeIn K cdend_wants "end_wants" = true) (kend_wants : PySem.W.keepIn K (.ref fend_wants) = true)
    (acorner_at : PySem.W.nsIn K mainGlobals "corner_at" = some (some (.ref fcorner_at))) (lcorner_at : K.lookup fcorner_at = some ⟨occorner_at, odcorner_at, .func (PySem.W.fnOf "corner_at" "corner_at" (defArgs scorner_at) (defBody scorner_at) (defScope scorner_at) .none kVcorner_at dccorner_at pmcorner_at ancorner_at cdcorner_at ctcorner_at), slcorner_at⟩) (ccorner_at : PySem.W.codeIn K cdcorner_at "corner_at" = true) (kcorner_at : PySem.W.keepIn K (.ref fcorner_at) = true)
    (apairs_below : PySem.W.nsIn K mainGlobals "pairs_below" = some (some (.ref fpairs_below))) (lpairs_below : K.lookup fpairs_below = some ⟨ocpairs_below, odpairs_below, .func (PySem.W.fnOf "pairs_below" "pairs_below" (defArgs spairs_below) (defBody spairs_below) (defScope spairs_below) .none kVpairs_below dcpairs_below pmpairs_below anpairs_below cdpairs_below ctpairs_below), slpairs_below⟩) (cpairs_below : PySem.W.codeIn K cdpairs_below "pairs_below" = true) (kpairs_below : PySem.W.keepIn K (.ref fpairs_below) = true)
    (astep_of : PySem.W.nsIn K mainGlobals "step_of" = some (some (.ref fstep_of))) (lstep_of : K.lookup fstep_of = some ⟨ocstep_of, odstep_of, .func (PySem.W.fnOf "step_of" "step_of" (defArgs sstep_of) (defBody sstep_of) (defScope sstep_of) .none kVstep_of dcstep_of pmstep_of anstep_of cdstep_of ctstep_of), slstep_of⟩) (cstep_of : PySem.W.codeIn K cdstep_of "step_of" = true) (kstep_of : PySem.W.keepIn K (.ref fstep_of) = true)
    (aturn_of : PySem.W.nsIn K mainGlobals "turn_of" = some (some (.ref fturn_of))) (lturn_of : K.lookup fturn_of = some ⟨octurn_of, odturn_of, .func (PySem.W.fnOf "turn_of" "turn_of" (defArgs sturn_of) (defBody sturn_of) (defScope sturn_of) .none kVturn_of dcturn_of pmturn_of anturn_of cdturn_of ctturn_of), slturn_of⟩) (cturn_of : PySem.W.codeIn K cdturn_of "turn_of" = true) (kturn_of : PySem.W.keepIn K (.ref fturn_of) = true)
    (aside_of : PySem.W.nsIn K mainGlobals "side_of" = some (some (.ref fside_of))) (lside_of : K.lookup fside_of = some ⟨ocside_of, odside_of, .func (PySem.W.fnOf "side_of" "side_of" (defArgs sside_of) (defBody sside_of) (defScope sside_of) .none kVside_of dcside_of pmside_of anside_of cdside_of ctside_of), slside_of⟩) (cside_of : PySem.W.codeIn K cdside_of "side_of" = true) (kside_of : PySem.W.keepIn K (.ref fside_of) = true)
    (agreatest_parting : PySem.W.nsIn K mainGlobals "greatest_parting" = some (some (.ref fgreatest_parting))) (lgreatest_parting : K.lookup fgreatest_parting = some ⟨ocgreatest_parting, odgreatest_parting, .func (PySem.W.fnOf "greatest_parting" "greatest_parting" (defArgs sgreatest_parting) (defBody sgreatest_parting) (defScope sgreatest_parting) .none kVgreatest_parting dcgreatest_parting pmgreatest_parting angreatest_parting cdgreatest_parting ctgreatest_parting), slgreatest_parting⟩) (cgreatest_parting : PySem.W.codeIn K cdgreatest_parting "greatest_parting" = true) (kgreatest_parting : PySem.W.keepIn K (.ref fgreatest_parting) = true)
    (aspot_of : PySem.W.nsIn K mainGlobals "spot_of" = some (some (.ref fspot_of))) (lspot_of : K.lookup fspot_of = some ⟨ocspot_of, odspot_of, .func (PySem.W.fnOf "spot_of" "spot_of" (defArgs sspot_of) (defBody sspot_of) (defScope sspot_of) .none kVspot_of dcspot_of pmspot_of anspot_of cdspot_of ctspot_of), slspot_of⟩) (cspot_of : PySem.W.codeIn K cdspot_of "spot_of" = true) (kspot_of : PySem.W.keepIn K (.ref fspot_of) = true)
    (aspot_at : PySem.W.nsIn K mainGlobals "spot_at" = some (some (.ref fspot_at))) (lspot_at : K.lookup fspot_at = some ⟨ocspot_at, odspot_at, .func (PySem.W.fnOf "spot_at" "spot_at" (defArgs sspot_at) (defBody sspot_at) (defScope sspot_at) .none kVspot_at dcspot_at pmspot_at anspot_at cdspot_at ctspot_at), slspot_at⟩) (cspot_at : PySem.W.codeIn K cdspot_at "spot_at" = true) (kspot_at : PySem.W.keepIn K (.ref fspot_at) = true)
    (acommon_across : PySem.W.nsIn K mainGlobals "common_across" = some (some (.ref fcommon_across))) (lcommon_across : K.lookup fcommon_across = some ⟨occommon_across, odcommon_across, .func (PySem.W.fnOf "common_across" "common_across" (defArgs scommon_across) (defBody scommon_across) (defScope scommon_across) .none kVcommon_across dccommon_across pmcommon_across ancommon_across cdcommon_across ctcommon_across), slcommon_across⟩) (ccommon_across : PySem.W.codeIn K cdcommon_across "common_across" = true) (kcommon_across : PySem.W.keepIn K (.ref fcommon_across) = true)
    (acommon_along : PySem.W.nsIn K mainGlobals "common_along" = some (some (.ref fcommon_along))) (lcommon_along : K.lookup fcommon_along = some ⟨occommon_along, odcommon_along, .func (PySem.W.fnOf "common_along" "common_along" (defArgs scommon_along) (defBody scommon_along) (defScope scommon_along) .none kVcommon_along dccommon_along pmcommon_along ancommon_along cdcommon_along ctcommon_along), slcommon_along⟩) (ccommon_along : PySem.W.codeIn K cdcommon_along "common_along" = true) (kcommon_along : PySem.W.keepIn K (.ref fcommon_along) = true)
    (acommon : PySem.W.nsIn K mainGlobals "common" = some (some (.ref fcommon))) (lcommon : K.lookup fcommon = some ⟨occommon, odcommon, .func (PySem.W.fnOf "common" "common" (defArgs scommon) (defBody scommon) (defScope scommon) .none kVcommon dccommon pmcommon ancommon cdcommon ctcommon), slcommon⟩) (ccommon : PySem.W.codeIn K cdcommon "common" = true) (kcommon : PySem.W.keepIn K (.ref fcommon) = true)
    (across_wants : PySem.W.nsIn K mainGlobals "cross_wants" = some (some (.ref fcross_wants))) (lcross_wants : K.lookup fcross_wants = some ⟨occross_wants, odcross_wants, .func (PySem.W.fnOf "cross_wants" "cross_wants" (defArgs scross_wants) (defBody scross_wants) (defScope scross_wants) .none kVcross_wants dccross_wants pmcross_wants ancross_wants cdcross_wants ctcross_wants), slcross_wants⟩) (ccross_wants : PySem.W.codeIn K cdcross_wants "cross_wants" = true) (kcross_wants : PySem.W.keepIn K (.ref fcross_wants) = true)
    (awants_of : PySem.W.nsIn K mainGlobals "wants_of" = some (some (.ref fwants_of))) (lwants_of : K.lookup fwants_of = some ⟨ocwants_of, odwants_of, .func (PySem.W.fnOf "wants_of" "wants_of" (defArgs swants_of) (defBody swants_of) (defScope swants_of) .none kVwants_of dcwants_of pmwants_of anwants_of cdwants_of ctwants_of), slwants_of⟩) (cwants_of : PySem.W.codeIn K cdwants_of "wants_of" = true) (kwants_of : PySem.W.keepIn K (.ref fwants_of) = true)
    (acorners_of : PySem.W.nsIn K mainGlobals "corners_of" = some (some (.ref fcorners_of))) (lcorners_of : K.lookup fcorners_of = some ⟨occorners_of, odcorners_of, .func (PySem.W.fnOf "corners_of" "corners_of" (defArgs scorners_of) (defBody scorners_of) (defScope scorners_of) .none kVcorners_of dccorners_of pmcorners_of ancorners_of cdcorners_of ctcorners_of), slcorners_of⟩) (ccorners_of : PySem.W.codeIn K cdcorners_of "corners_of" = true) (kcorners_of : PySem.W.keepIn K (.ref fcorners_of) = true)
    (aare_along : PySem.W.nsIn K mainGlobals "are_along" = some (some (.ref fare_along))) (lare_along : K.lookup fare_along = some ⟨ocare_along, odare_along, .func (PySem.W.fnOf "are_along" "are_along" (defArgs sare_along) (defBody sare_along) (defScope sare_along) .none kVare_along dcare_along pmare_along anare_along cdare_along ctare_along), slare_along⟩) (care_along : PySem.W.codeIn K cdare_along "are_along" = true) (kare_along : PySem.W.keepIn K (.ref fare_along) = true)
    (aways_across : PySem.W.nsIn K mainGlobals "ways_across" = some (some (.ref fways_across))) (lways_across : K.lookup fways_across = some ⟨ocways_across, odways_across, .func (PySem.W.fnOf "ways_across" "ways_across" (defArgs sways_across) (defBody sways_across) (defScope sways_across) .none kVways_across dcways_across pmways_across anways_across cdways_across ctways_across), slways_across⟩) (cways_across : PySem.W.codeIn K cdways_across "ways_across" = true) (kways_across : PySem.W.keepIn K (.ref fways_across) = true)
    (aleast_by : PySem.W.nsIn K mainGlobals "least_by" = some (some (.ref fleast_by))) (lleast_by : K.lookup fleast_by = some ⟨ocleast_by, odleast_by, .func (PySem.W.fnOf "least_by" "least_by" (defArgs sleast_by) (defBody sleast_by) (defScope sleast_by) .none kVleast_by dcleast_by pmleast_by anleast_by cdleast_by ctleast_by), slleast_by⟩) (cleast_by : PySem.W.codeIn K cdleast_by "least_by" = true) (kleast_by : PySem.W.keepIn K (.ref fleast_by) = true)
    (agreatest_by : PySem.W.nsIn K mainGlobals "greatest_by" = some (some (.ref fgreatest_by))) (lgreatest_by : K.lookup fgreatest_by = some ⟨ocgreatest_by, odgreatest_by, .func (PySem.W.fnOf "greatest_by" "greatest_by" (defArgs sgreatest_by) (defBody sgreatest_by) (defScope sgreatest_by) .none kVgreatest_by dcgreatest_by pmgreatest_by angreatest_by cdgreatest_by ctgreatest_by), slgreatest_by⟩) (cgreatest_by : PySem.W.codeIn K cdgreatest_by "greatest_by" = true) (kgreatest_by : PySem.W.keepIn K (.ref fgreatest_by) = true)
    (agap_by : PySem.W.nsIn K mainGlobals "gap_by" = some (some (.ref fgap_by))) (lgap_by : K.lookup fgap_by = some ⟨ocgap_by, odgap_by, .func (PySem.W.fnOf "gap_by" "gap_by" (defArgs sgap_by) (defBody sgap_by) (defScope sgap_by) .none kVgap_by dcgap_by pmgap_by angap_by cdgap_by ctgap_by), slgap_by⟩) (cgap_by : PySem.W.codeIn K cdgap_by "gap_by" = true) (kgap_by : PySem.W.keepIn K (.ref fgap_by) = true)
    (aapart_paper : PySem.W.nsIn K mainGlobals "apart_paper" = some (some (.ref fapart_paper))) (lapart_paper : K.lookup fapart_paper = some ⟨ocapart_paper, odapart_paper, .func (PySem.W.fnOf "apart_paper" "apart_paper" (defArgs sapart_paper) (defBody sapart_paper) (defScope sapart_paper) .none kVapart_paper dcapart_paper pmapart_paper anapart_paper cdapart_paper ctapart_paper), slapart_paper⟩) (capart_paper : PySem.W.codeIn K cdapart_paper "apart_paper" = true) (kapart_paper : PySem.W.keepIn K (.ref fapart_paper) = true)
    (alowest : PySem.W.nsIn K mainGlobals "lowest" = some (some (.ref flowest))) (llowest : K.lookup flowest = some ⟨oclowest, odlowest, .func (PySem.W.fnOf "lowest" "lowest" (defArgs slowest) (defBody slowest) (defScope slowest) .none kVlowest dclowest pmlowest anlowest cdlowest ctlowest), sllowest⟩) (clowest : PySem.W.codeIn K cdlowest "lowest" = true) (klowest : PySem.W.keepIn K (.ref flowest) = true)
    (ashare_of : PySem.W.nsIn K mainGlobals "share_of" = some (some (.ref fshare_of))) (lshare_of : K.lookup fshare_of = some ⟨ocshare_of, odshare_of, .func (PySem.W.fnOf "share_of" "share_of" (defArgs sshare_of) (defBody sshare_of) (defScope sshare_of) .none kVshare_of dcshare_of pmshare_of anshare_of cdshare_of ctshare_of), slshare_of⟩) (cshare_of : PySem.W.codeIn K cdshare_of "share_of" = true) (kshare_of : PySem.W.keepIn K (.ref fshare_of) = true)
    (acommon_paper : PySem.W.nsIn K mainGlobals "common_paper" = some (some (.ref fcommon_paper))) (lcommon_paper : K.lookup fcommon_paper = some ⟨occommon_paper, odcommon_paper, .func (PySem.W.fnOf "common_paper" "common_paper" (defArgs scommon_paper) (defBody scommon_paper) (defScope scommon_paper) .none kVcommon_paper dccommon_paper pmcommon_paper ancommon_paper cdcommon_paper ctcommon_paper), slcommon_paper⟩) (ccommon_paper : PySem.W.codeIn K cdcommon_paper "common_paper" = true) (kcommon_paper : PySem.W.keepIn K (.ref fcommon_paper) = true)
    (apair_paper : PySem.W.nsIn K mainGlobals "pair_paper" = some (some (.ref fpair_paper))) (lpair_paper : K.lookup fpair_paper = some ⟨ocpair_paper, odpair_paper, .func (PySem.W.fnOf "pair_paper" "pair_paper" (defArgs spair_paper) (defBody spair_paper) (defScope spair_paper) .none kVpair_paper dcpair_paper pmpair_paper anpair_paper cdpair_paper ctpair_paper), slpair_paper⟩) (cpair_paper : PySem.W.codeIn K cdpair_paper "pair_paper" = true) (kpair_paper : PySem.W.keepIn K (.ref fpair_paper) = true)
    (aunwanted_paper : PySem.W.nsIn K mainGlobals "unwanted_paper" = some (some (.ref funwanted_paper))) (lunwanted_paper : K.lookup funwanted_paper = some ⟨ocunwanted_paper, odunwanted_paper, .func (PySem.W.fnOf "unwanted_paper" "unwanted_paper" (defArgs sunwanted_paper) (defBody sunwanted_paper) (defScope sunwanted_paper) .none kVunwanted_paper dcunwanted_paper pmunwanted_paper anunwanted_paper cdunwanted_paper ctunwanted_paper), slunwanted_paper⟩) (cunwanted_paper : PySem.W.codeIn K cdunwanted_paper "unwanted_paper" = true) (kunwanted_paper : PySem.W.keepIn K (.ref funwanted_paper) = true)
    (a_law_is_along : PySem.W.nsIn K mainGlobals "_law_is_along" = some (some (.ref f_law_is_along))) (l_law_is_along : K.lookup f_law_is_along = some ⟨oc_law_is_along, od_law_is_along, .func (PySem.W.fnOf "_law_is_along" "_law_is_along" (defArgs s_law_is_along) (defBody s_law_is_along) (defScope s_law_is_along) .none kV_law_is_along dc_law_is_along pm_law_is_along an_law_is_along cd_law_is_along ct_law_is_along), sl_law_is_along⟩) (c_law_is_along : PySem.W.codeIn K cd_law_is_along "_law_is_along" = true) (k_law_is_along : PySem.W.keepIn K (.ref f_law_is_along) = true)
    (a_law_is_whole : PySem.W.nsIn K mainGlobals "_law_is_whole" = some (some (.ref f_law_is_whole))) (l_law_is_whole : K.lookup f_law_is_whole = some ⟨oc_law_is_whole, od_law_is_whole, .func (PySem.W.fnOf "_law_is_whole" "_law_is_whole" (defArgs s_law_is_whole) (defBody s_law_is_whole) (defScope s_law_is_whole) .none kV_law_is_whole dc_law_is_whole pm_law_is_whole an_law_is_whole cd_law_is_whole ct_law_is_whole), sl_law_is_whole⟩) (c_law_is_whole : PySem.W.codeIn K cd_law_is_whole "_law_is_whole" = true) (k_law_is_whole : PySem.W.keepIn K (.ref f_law_is_whole) = true)
    (a_law_number_at : PySem.W.nsIn K mainGlobals "_law_number_at" = some (some (.ref f_law_number_at))) (l_law_number_at : K.lookup f_law_number_at = some ⟨oc_law_number_at, od_law_number_at, .func (PySem.W.fnOf "_law_number_at" "_law_number_at" (defArgs s_law_number_at) (defBody s_law_number_at) (defScope s_law_number_at) .none kV_law_number_at dc_law_number_at pm_law_number_at an_law_number_at cd_law_number_at ct_law_number_at), sl_law_number_at⟩) (c_law_number_at : PySem.W.codeIn K cd_law_number_at "_law_number_at" = true) (k_law_number_at : PySem.W.keepIn K (.ref f_law_number_at) = true)
    (a_law_is_paper : PySem.W.nsIn K mainGlobals "_law_is_paper" = some (some (.ref f_law_is_paper))) (l_law_is_paper : K.lookup f_law_is_paper = some ⟨oc_law_is_paper, od_law_is_paper, .func (PySem.W.fnOf "_law_is_paper" "_law_is_paper" (defArgs s_law_is_paper) (defBody s_law_is_paper) (defScope s_law_is_paper) .none kV_law_is_paper dc_law_is_paper pm_law_is_paper an_law_is_paper cd_law_is_paper ct_law_is_paper), sl_law_is_paper⟩) (c_law_is_paper : PySem.W.codeIn K cd_law_is_paper "_law_is_paper" = true) (k_law_is_paper : PySem.W.keepIn K (.ref f_law_is_paper) = true)
    (a_law_pair_so : PySem.W.nsIn K mainGlobals "_law_pair_so" = some (some (.ref f_law_pair_so))) (l_law_pair_so : K.lookup f_law_pair_so = some ⟨oc_law_pair_so, od_law_pair_so, .func (PySem.W.fnOf "_law_pair_so" "_law_pair_so" (defArgs s_law_pair_so) (defBody s_law_pair_so) (defScope s_law_pair_so) .none kV_law_pair_so dc_law_pair_so pm_law_pair_so an_law_pair_so cd_law_pair_so ct_law_pair_so), sl_law_pair_so⟩) (c_law_pair_so : PySem.W.codeIn K cd_law_pair_so "_law_pair_so" = true) (k_law_pair_so : PySem.W.keepIn K (.ref f_law_pair_so) = true)
    (a_law_is_unwanted : PySem.W.nsIn K mainGlobals "_law_is_unwanted" = some (some (.ref f_law_is_unwanted))) (l_law_is_unwanted : K.lookup f_law_is_unwanted = some ⟨oc_law_is_unwanted, od_law_is_unwanted, .func (PySem.W.fnOf "_law_is_unwanted" "_law_is_unwanted" (defArgs s_law_is_unwanted) (defBody s_law_is_unwanted) (defScope s_law_is_unwanted) .none kV_law_is_unwanted dc_law_is_unwanted pm_law_is_unwanted an_law_is_unwanted cd_law_is_unwanted ct_law_is_unwanted), sl_law_is_unwanted⟩) (c_law_is_unwanted : PySem.W.codeIn K cd_law_is_unwanted "_law_is_unwanted" = true) (k_law_is_unwanted : PySem.W.keepIn K (.ref f_law_is_unwanted) = true)
    (aends_in : PySem.W.nsIn K mainGlobals "ends_in" = some (some (.ref fends_in))) (lends_in : K.lookup fends_in = some ⟨ocends_in, odends_in, .func (PySem.W.fnOf "ends_in" "ends_in" (defArgs sends_in) (defBody sends_in) (defScope sends_in) .none kVends_in dcends_in pmends_in anends_in cdends_in ctends_in), slends_in⟩) (cends_in : PySem.W.codeIn K cdends_in "ends_in" = true) (kends_in : PySem.W.keepIn K (.ref fends_in) = true)
    (aare_wholes : PySem.W.nsIn K mainGlobals "are_wholes" = some (some (.ref fare_wholes))) (lare_wholes : K.lookup fare_wholes = some ⟨ocare_wholes, odare_wholes, .func (PySem.W.fnOf "are_wholes" "are_wholes" (defArgs sare_wholes) (defBody sare_wholes) (defScope sare_wholes) .none kVare_wholes dcare_wholes pmare_wholes anare_wholes cdare_wholes ctare_wholes), slare_wholes⟩) (care_wholes : PySem.W.codeIn K cdare_wholes "are_wholes" = true) (kare_wholes : PySem.W.keepIn K (.ref fare_wholes) = true)
    (ais_paper : PySem.W.nsIn K mainGlobals "is_paper" = some (some (.ref fis_paper))) (lis_paper : K.lookup fis_paper = some ⟨ocis_paper, odis_paper, .func (PySem.W.fnOf "is_paper" "is_paper" (defArgs sis_paper) (defBody sis_paper) (defScope sis_paper) .none kVis_paper dcis_paper pmis_paper anis_paper cdis_paper ctis_paper), slis_paper⟩) (cis_paper : PySem.W.codeIn K cdis_paper "is_paper" = true) (kis_paper : PySem.W.keepIn K (.ref fis_paper) = true)
    (ais_share : PySem.W.nsIn K mainGlobals "is_share" = some (some (.ref fis_share))) (lis_share : K.lookup fis_share = some ⟨ocis_share, odis_share, .func (PySem.W.fnOf "is_share" "is_share" (defArgs sis_share) (defBody sis_share) (defScope sis_share) .none kVis_share dcis_share pmis_share anis_share cdis_share ctis_share), slis_share⟩) (cis_share : PySem.W.codeIn K cdis_share "is_share" = true) (kis_share : PySem.W.keepIn K (.ref fis_share) = true)
    (ameets_at : PySem.W.nsIn K mainGlobals "meets_at" = some (some (.ref fmeets_at))) (lmeets_at : K.lookup fmeets_at = some ⟨ocmeets_at, odmeets_at, .func (PySem.W.fnOf "meets_at" "meets_at" (defArgs smeets_at) (defBody smeets_at) (defScope smeets_at) .none kVmeets_at dcmeets_at pmmeets_at anmeets_at cdmeets_at ctmeets_at), slmeets_at⟩) (cmeets_at : PySem.W.codeIn K cdmeets_at "meets_at" = true) (kmeets_at : PySem.W.keepIn K (.ref fmeets_at) = true)
    (aapart_holds : PySem.W.nsIn K mainGlobals "apart_holds" = some (some (.ref fapart_holds))) (lapart_holds : K.lookup fapart_holds = some ⟨ocapart_holds, odapart_holds, .func (PySem.W.fnOf "apart_holds" "apart_holds" (defArgs sapart_holds) (defBody sapart_holds) (defScope sapart_holds) .none kVapart_holds dcapart_holds pmapart_holds anapart_holds cdapart_holds ctapart_holds), slapart_holds⟩) (capart_holds : PySem.W.codeIn K cdapart_holds "apart_holds" = true) (kapart_holds : PySem.W.keepIn K (.ref fapart_holds) = true)
    (apair_holds : PySem.W.nsIn K mainGlobals "pair_holds" = some (some (.ref fpair_holds))) (lpair_holds : K.lookup fpair_holds = some ⟨ocpair_holds, odpair_holds, .func (PySem.W.fnOf "pair_holds" "pair_holds" (defArgs spair_holds) (defBody spair_holds) (defScope spair_holds) .none kVpair_holds dcpair_holds pmpair_holds anpair_holds cdpair_holds ctpair_holds), slpair_holds⟩) (cpair_holds : PySem.W.codeIn K cdpair_holds "pair_holds" = true) (kpair_holds : PySem.W.keepIn K (.ref fpair_holds) = true)
    (aunwanted_holds : PySem.W.nsIn K mainGlobals "unwanted_holds" = some (some (.ref funwanted_holds))) (lunwanted_holds : K.lookup funwanted_holds = some ⟨ocunwanted_holds, odunwanted_holds, .func (PySem.W.fnOf "unwanted_holds" "unwanted_holds" (defArgs sunwanted_holds) (defBody sunwanted_holds) (defScope sunwanted_holds) .none kVunwanted_holds dcunwanted_holds pmunwanted_holds anunwanted_holds cdunwanted_holds ctunwanted_holds), slunwanted_holds⟩) (cunwanted_holds : PySem.W.codeIn K cdunwanted_holds "unwanted_holds" = true) (kunwanted_holds : PySem.W.keepIn K (.ref funwanted_holds) = true)
    (a_law_told_right : PySem.W.nsIn K mainGlobals "_law_told_right" = some (some (.ref f_law_told_right))) (l_law_told_right : K.lookup f_law_told_right = some ⟨oc_law_told_right, od_law_told_right, .func (PySem.W.fnOf "_law_told_right" "_law_told_right" (defArgs s_law_told_right) (defBody s_law_told_right) (defScope s_law_told_right) .none kV_law_told_right dc_law_told_right pm_law_told_right an_law_told_right cd_law_told_right ct_law_told_right), sl_law_told_right⟩) (c_law_told_right : PySem.W.codeIn K cd_law_told_right "_law_told_right" = true) (k_law_told_right : PySem.W.keepIn K (.ref f_law_told_right) = true)
    (ais_whole : PySem.W.nsIn K mainGlobals "is_whole" = some (some (.ref fis_whole))) (lis_whole : K.lookup fis_whole = some ⟨ocis_whole, odis_whole, .func (PySem.W.fnOf "is_whole" "is_whole" (defArgs sis_whole) (defBody sis_whole) (defScope sis_whole) .none kVis_whole dcis_whole pmis_whole anis_whole cdis_whole ctis_whole), slis_whole⟩) (cis_whole : PySem.W.codeIn K cdis_whole "is_whole" = true) (kis_whole : PySem.W.keepIn K (.ref fis_whole) = true)
    (alaw : PySem.W.nsIn K mainGlobals "law" = some (some (.ref flaw))) (llaw : K.lookup flaw = some ⟨oclaw, odlaw, .func (PySem.W.fnOf "law" "law" (defArgs slaw) (defBody slaw) (defScope slaw) .none kVlaw dclaw pmlaw anlaw cdlaw ctlaw), sllaw⟩) (claw : PySem.W.codeIn K cdlaw "law" = true) (klaw : PySem.W.keepIn K (.ref flaw) = true)
    (z0 : PySem.W.nsIn K mainGlobals "list" = some none) (z1 : PySem.W.nsIn K mainGlobals "sum" = some none) (z2 : PySem.W.nsIn K mainGlobals "len" = some none) (z3 : PySem.W.nsIn K mainGlobals "range" = some none) (z4 : PySem.W.nsIn K mainGlobals "abs" = some none) (z5 : PySem.W.nsIn K mainGlobals "max" = some none) (z6 : PySem.W.nsIn K mainGlobals "min" = some none) (z7 : PySem.W.nsIn K mainGlobals "tuple" = some none) (z8 : PySem.W.nsIn K mainGlobals "int" = some none) (z9 : PySem.W.nsIn K mainGlobals "sorted" = some none) (z10 : PySem.W.nsIn K mainGlobals "set" = some none) (z11 : PySem.W.nsIn K mainGlobals "repr" = some none) (z12 : PySem.W.nsIn K mainGlobals "enumerate" = some none) (z13 : PySem.W.nsIn K mainGlobals "isinstance" = some none) (z14 : PySem.W.nsIn K mainGlobals "all" = some none) (z15 : PySem.W.nsIn K mainGlobals "any" = some none) (z16 : PySem.W.nsIn K mainGlobals "zip" = some none) (z17 : PySem.W.nsIn K mainGlobals "bool" = some none) (z18 : PySem.W.nsIn K mainGlobals "str" = some none)
    (nt : noTab K = true) (tnare_wholes : TabN mg h "are_wholes") (tnapart_holds : TabN mg h "apart_holds") (tnare_along : TabN mg h "are_along") (tnends_in : TabN mg h "ends_in") (tnunwanted_holds : TabN mg h "unwanted_holds") (tnapart_paper : TabN mg h "apart_paper") (td00 : tabDis K cdare_wholes cdapart_paper = true) (td10 : tabDis K cdapart_holds cdapart_paper = true) (td20 : tabDis K cdare_along cdapart_paper = true) (td30 : tabDis K cdends_in cdapart_paper = true) (td40 : tabDis K cdunwanted_holds cdapart_paper = true) :
    ∃ (fd : FuncData) (cs1 cs2 : List (Addr × Addr)), (∀ p ∈ cs1 ++ cs2, PySem.W.CodeHd h p.1 p.2 ∧ h.TableAt p.1 p.2 #[] ∧ K.lookup p.2 = none) ∧ (∀ p ∈ cs1, ∀ pp ∈ cs2, p.2 ≠ pp.2) ∧ (∀ (s : Shared) (v : Value), BindsTo s fd ⟨[v], []⟩ [("_law_script", v)]) ∧
      ∀ base : Heap, K.In base → base.Ns mainGlobals mg → (∀ p ∈ cs1 ++ cs2, GxR.TabB base mg p.1 p.2) → FnG l.prog w K mg base CX0 11 fa fd ["_law_script"] (spLawTs K cs1 cs2) := by
  have e := hfa.symm.trans (PySem.W.mg_of X G alaw)
  cases e
  have T : Bt mg := ⟨PySem.W.mg_none_of X G z0, PySem.W.mg_none_of X G z1, PySem.W.mg_none_of X G z2, PySem.W.mg_none_of X G z3, PySem.W.mg_none_of X G z4, PySem.W.mg_none_of X G z5, PySem.W.mg_none_of X G z6, PySem.W.mg_none_of X G z7, PySem.W.mg_none_of X G z8, PySem.W.mg_none_of X G z9, PySem.W.mg_none_of X G z10, PySem.W.mg_none_of X G z11, PySem.W.mg_none_of X G z12, PySem.W.mg_none_of X G z13, PySem.W.mg_none_of X G z14, PySem.W.mg_none_of X G z15, PySem.W.mg_none_of X G z16, PySem.W.mg_none_of X G z17, PySem.W.mg_none_of X G z18⟩
  have F_law_deck := fun_mk (st := s_law_deck) l_law_deck c_law_deck k_law_deck
  have b_law_deck := F_law_deck.binds (ps := ["_law_script"]) fun _ _ _ _ _ _ us hl => match us, hl with | [_], _ => rfl
  have F_law_draw := fun_mk (st := s_law_draw) l_law_draw c_law_draw k_law_draw
  have b_law_draw := F_law_draw.binds (ps := ["_law_deck_here", "_law_most"]) fun _ _ _ _ _ _ us hl => match us, hl with | [_, _], _ => rfl
  have F_law_many := fun_mk (st := s_law_many) l_law_many c_law_many k_law_many
  have b_law_many := F_law_many.binds (ps := ["_law_deck_here", "_law_most"]) fun _ _ _ _ _ _ us hl => match us, hl with | [_, _], _ => rfl
  have F_law_grain := fun_mk (st := s_law_grain) l_law_grain c_law_grain k_law_grain
  have b_law_grain := F_law_grain.binds (ps := ["_law_deck_here"]) fun _ _ _ _ _ _ us hl => match us, hl with | [_], _ => rfl
  have F_law_unlike := fun_mk (st := s_law_unlike) l_law_unlike c_law_unlike k_law_unlike
  have b_law_unlike := F_law_unlike.binds (ps := ["_law_one", "_law_other"]) fun _ _ _ _ _ _ us hl => match us, hl with | [_, _], _ => rfl
  have F_law_point := fun_mk (st := s_law_point) l_law_point c_law_point k_law_point
  have b_law_point := F_law_point.binds (ps := ["_law_deck_here", "_law_grain_here"]) fun _ _ _ _ _ _ us hl => match us, hl with | [_, _], _ => rfl
  have F_law_beside := fun_mk (st := s_law_beside) l_law_beside c_law_beside k_law_beside
  have b_law_beside := F_law_beside.binds (ps := ["_law_deck_here", "_law_line_here", "_law_one", "_law_other"]) fun _ _ _ _ _ _ us hl => match us, hl with | [_, _, _, _], _ => rfl
  have F_law_line := fun_mk (st := s_law_line) l_law_line c_law_line k_law_line
  have b_law_line := F_law_line.binds (ps := ["_law_deck_here", "_law_grain_here", "_law_lines_here"]) fun _ _ _ _ _ _ us hl => match us, hl with | [_, _, _], _ => rfl
  have F_law_lines := fun_mk (st := s_law_lines) l_law_lines c_law_lines k_law_lines
  have b_law_lines := F_law_lines.binds (ps := ["_law_deck_here", "_law_grain_here", "_law_many_here"]) fun _ _ _ _ _ _ us hl => match us, hl with | [_, _, _], _ => rfl
  have F_law_nearest := fun_mk (st := s_law_nearest) l_law_nearest c_law_nearest k_law_nearest
  have b_law_nearest := F_law_nearest.binds (ps := ["_law_grain_here", "_law_spot"]) fun _ _ _ _ _ _ us hl => match us, hl with | [_, _], _ => rfl
  have F_law_less := fun_mk (st := s_law_less) l_law_less c_law_less k_law_less
  have b_law_less := F_law_less.binds (ps := ["_law_one", "_law_other"]) fun _ _ _ _ _ _ us hl => match us, hl with | [_, _], _ => rfl
  have F_law_turn := fun_mk (st := s_law_turn) l_law_turn c_law_turn k_law_turn
  have b_law_turn := F_law_turn.binds (ps := ["_law_one", "_law_other"]) fun _ _ _ _ _ _ us hl => match us, hl with | [_, _], _ => rfl
  have F_law_parted := fun_mk (st := s_law_parted) l_law_parted c_law_parted k_law_parted
  have b_law_parted := F_law_parted.binds (ps := ["_law_one", "_law_other"]) fun _ _ _ _ _ _ us hl => match us, hl with | [_, _], _ => rfl
  have F_law_lowest := fun_mk (st := s_law_lowest) l_law_lowest c_law_lowest k_law_lowest
  have b_law_lowest := F_law_lowest.binds (ps := ["_law_n", "_law_m", "_law_d"]) fun _ _ _ _ _ _ us hl => match us, hl with | [_, _, _], _ => rfl
  have F_law_due_along := fun_mk (st := s_law_due_along) l_law_due_along c_law_due_along k_law_due_along
  have b_law_due_along := F_law_due_along.binds (ps := ["_law_one", "_law_other"]) fun _ _ _ _ _ _ us hl => match us, hl with | [_, _], _ => rfl
  have F_law_due := fun_mk (st := s_law_due) l_law_due c_law_due k_law_due
  have b_law_due := F_law_due.binds (ps := ["_law_one", "_law_other"]) fun _ _ _ _ _ _ us hl => match us, hl with | [_, _], _ => rfl
  have F_law_wants := fun_mk (st := s_law_wants) l_law_wants c_law_wants k_law_wants
  have b_law_wants := F_law_wants.binds (ps := ["_law_grain_here", "_law_lines_here"]) fun _ _ _ _ _ _ us hl => match us, hl with | [_, _], _ => rfl
  have F_law_corners_asked := fun_mk (st := s_law_corners_asked) l_law_corners_asked c_law_corners_asked k_law_corners_asked
  have b_law_corners_asked := F_law_corners_asked.binds (ps := ["_law_deck_here", "_law_grain_here", "_law_lines_here"]) fun _ _ _ _ _ _ us hl => match us, hl with | [_, _, _], _ => rfl
  have Fnearest := fun_mk (st := snearest) lnearest cnearest knearest
  have bnearest := Fnearest.binds (ps := ["n", "d"]) fun _ _ _ _ _ _ us hl => match us, hl with | [_, _], _ => rfl
  have Fcorner_of := fun_mk (st := scorner_of) lcorner_of ccorner_of kcorner_of
  have bcorner_of := Fcorner_of.binds (ps := ["grain", "point"]) fun _ _ _ _ _ _ us hl => match us, hl with | [_, _], _ => rfl
  have Fend_wants := fun_mk (st := send_wants) lend_wants cend_wants kend_wants
  have bend_wants := Fend_wants.binds (ps := ["grain", "lines"]) fun _ _ _ _ _ _ us hl => match us, hl with | [_, _], _ => rfl
  have Fcorner_at := fun_mk (st := scorner_at) lcorner_at ccorner_at kcorner_at
  have bcorner_at := Fcorner_at.binds (ps := ["grain", "spot"]) fun _ _ _ _ _ _ us hl => match us, hl with | [_, _], _ => rfl
  have Fpairs_below := fun_mk (st := spairs_below) lpairs_below cpairs_below kpairs_below
  have bpairs_below := Fpairs_below.binds (ps := ["many"]) fun _ _ _ _ _ _ us hl => match us, hl with | [_], _ => rfl
  have Fstep_of := fun_mk (st := sstep_of) lstep_of cstep_of kstep_of
  have bstep_of := Fstep_of.binds (ps := ["line"]) fun _ _ _ _ _ _ us hl => match us, hl with | [_], _ => rfl
  have Fturn_of := fun_mk (st := sturn_of) lturn_of cturn_of kturn_of
  have bturn_of := Fturn_of.binds (ps := ["one", "other"]) fun _ _ _ _ _ _ us hl => match us, hl with | [_, _], _ => rfl
  have Fside_of := fun_mk (st := sside_of) lside_of cside_of kside_of
  have bside_of := Fside_of.binds (ps := ["line", "point"]) fun _ _ _ _ _ _ us hl => match us, hl with | [_, _], _ => rfl
  have Fgreatest_parting := fun_mk (st := sgreatest_parting) lgreatest_parting cgreatest_parting kgreatest_parting
  have bgreatest_parting := Fgreatest_parting.binds (ps := ["n", "m"]) fun _ _ _ _ _ _ us hl => match us, hl with | [_, _], _ => rfl
  have Fspot_of := fun_mk (st := sspot_of) lspot_of cspot_of kspot_of
  have bspot_of := Fspot_of.binds (ps := ["n", "m", "d"]) fun _ _ _ _ _ _ us hl => match us, hl with | [_, _, _], _ => rfl
  have Fspot_at := fun_mk (st := sspot_at) lspot_at cspot_at kspot_at
  have bspot_at := Fspot_at.binds (ps := ["line", "k", "m"]) fun _ _ _ _ _ _ us hl => match us, hl with | [_, _, _], _ => rfl
  have Fcommon_across := fun_mk (st := scommon_across) lcommon_across ccommon_across kcommon_across
  have bcommon_across := Fcommon_across.binds (ps := ["one", "other"]) fun _ _ _ _ _ _ us hl => match us, hl with | [_, _], _ => rfl
  have Fcommon_along := fun_mk (st := scommon_along) lcommon_along ccommon_along kcommon_along
  have bcommon_along := Fcommon_along.binds (ps := ["one", "other"]) fun _ _ _ _ _ _ us hl => match us, hl with | [_, _], _ => rfl
  have Fcommon := fun_mk (st := scommon) lcommon ccommon kcommon
  have bcommon := Fcommon.binds (ps := ["one", "other"]) fun _ _ _ _ _ _ us hl => match us, hl with | [_, _], _ => rfl
  have Fcross_wants := fun_mk (st := scross_wants) lcross_wants ccross_wants kcross_wants
  have bcross_wants := Fcross_wants.binds (ps := ["grain", "lines"]) fun _ _ _ _ _ _ us hl => match us, hl with | [_, _], _ => rfl
  have Fwants_of := fun_mk (st := swants_of) lwants_of cwants_of kwants_of
  have bwants_of := Fwants_of.binds (ps := ["grain", "lines"]) fun _ _ _ _ _ _ us hl => match us, hl with | [_, _], _ => rfl
  have Fcorners_of := fun_mk (st := scorners_of) lcorners_of ccorners_of kcorners_of
  have bcorners_of := Fcorners_of.binds (ps := ["grain", "lines"]) fun _ _ _ _ _ _ us hl => match us, hl with | [_, _], _ => rfl
  have Fare_along := fun_mk (st := sare_along) lare_along care_along kare_along
  have bare_along := Fare_along.binds (ps := ["one", "other"]) fun _ _ _ _ _ _ us hl => match us, hl with | [_, _], _ => rfl
  have Fways_across := fun_mk (st := sways_across) lways_across cways_across kways_across
  have bways_across := Fways_across.binds (ps := ["line"]) fun _ _ _ _ _ _ us hl => match us, hl with | [_], _ => rfl
  have Fleast_by := fun_mk (st := sleast_by) lleast_by cleast_by kleast_by
  have bleast_by := Fleast_by.binds (ps := ["line", "p", "q"]) fun _ _ _ _ _ _ us hl => match us, hl with | [_, _, _], _ => rfl
  have Fgreatest_by := fun_mk (st := sgreatest_by) lgreatest_by cgreatest_by kgreatest_by
  have bgreatest_by := Fgreatest_by.binds (ps := ["line", "p", "q"]) fun _ _ _ _ _ _ us hl => match us, hl with | [_, _, _], _ => rfl
  have Fgap_by := fun_mk (st := sgap_by) lgap_by cgap_by kgap_by
  have bgap_by := Fgap_by.binds (ps := ["way", "one", "other"]) fun _ _ _ _ _ _ us hl => match us, hl with | [_, _, _], _ => rfl
  have Fapart_paper := fun_mk (st := sapart_paper) lapart_paper capart_paper kapart_paper
  have bapart_paper := Fapart_paper.binds (ps := ["one", "other"]) fun _ _ _ _ _ _ us hl => match us, hl with | [_, _], _ => rfl
  have Flowest := fun_mk (st := slowest) llowest clowest klowest
  have blowest := Flowest.binds (ps := ["n", "d"]) fun _ _ _ _ _ _ us hl => match us, hl with | [_, _], _ => rfl
  have Fshare_of := fun_mk (st := sshare_of) lshare_of cshare_of kshare_of
  have bshare_of := Fshare_of.binds (ps := ["line", "spot"]) fun _ _ _ _ _ _ us hl => match us, hl with | [_, _], _ => rfl
  have Fcommon_paper := fun_mk (st := scommon_paper) lcommon_paper ccommon_paper kcommon_paper
  have bcommon_paper := Fcommon_paper.binds (ps := ["one", "other"]) fun _ _ _ _ _ _ us hl => match us, hl with | [_, _], _ => rfl
  have Fpair_paper := fun_mk (st := spair_paper) lpair_paper cpair_paper kpair_paper
  have bpair_paper := Fpair_paper.binds (ps := ["one", "other"]) fun _ _ _ _ _ _ us hl => match us, hl with | [_, _], _ => rfl
  have Funwanted_paper := fun_mk (st := sunwanted_paper) lunwanted_paper cunwanted_paper kunwanted_paper
  have bunwanted_paper := Funwanted_paper.binds (ps := ["grain", "lines", "corner"]) fun _ _ _ _ _ _ us hl => match us, hl with | [_, _, _], _ => rfl
  have F_law_is_along := fun_mk (st := s_law_is_along) l_law_is_along c_law_is_along k_law_is_along
  have b_law_is_along := F_law_is_along.binds (ps := ["_law_one", "_law_other"]) fun _ _ _ _ _ _ us hl => match us, hl with | [_, _], _ => rfl
  have F_law_is_whole := fun_mk (st := s_law_is_whole) l_law_is_whole c_law_is_whole k_law_is_whole
  have b_law_is_whole := F_law_is_whole.binds (ps := ["_law_thing"]) fun _ _ _ _ _ _ us hl => match us, hl with | [_], _ => rfl
  have F_law_number_at := fun_mk (st := s_law_number_at) l_law_number_at c_law_number_at k_law_number_at
  have b_law_number_at := F_law_number_at.binds (ps := ["_law_line_here", "_law_k", "_law_m", "_law_at"]) fun _ _ _ _ _ _ us hl => match us, hl with | [_, _, _, _], _ => rfl
  have F_law_is_paper := fun_mk (st := s_law_is_paper) l_law_is_paper c_law_is_paper k_law_is_paper
  have b_law_is_paper := F_law_is_paper.binds (ps := ["_law_one", "_law_other", "_law_thing"]) fun _ _ _ _ _ _ us hl => match us, hl with | [_, _, _], _ => rfl
  have F_law_pair_so := fun_mk (st := s_law_pair_so) l_law_pair_so c_law_pair_so k_law_pair_so
  have b_law_pair_so := F_law_pair_so.binds (ps := ["_law_grain_here", "_law_one", "_law_other", "_law_corner", "_law_thing"]) fun _ _ _ _ _ _ us hl => match us, hl with | [_, _, _, _, _], _ => rfl
  have F_law_is_unwanted := fun_mk (st := s_law_is_unwanted) l_law_is_unwanted c_law_is_unwanted k_law_is_unwanted
  have b_law_is_unwanted := F_law_is_unwanted.binds (ps := ["_law_grain_here", "_law_lines_here", "_law_corner", "_law_thing"]) fun _ _ _ _ _ _ us hl => match us, hl with | [_, _, _, _], _ => rfl
  have Fends_in := fun_mk (st := sends_in) lends_in cends_in kends_in
  have bends_in := Fends_in.binds (ps := ["grain", "line", "corner"]) fun _ _ _ _ _ _ us hl => match us, hl with | [_, _, _], _ => rfl
  have Fare_wholes := fun_mk (st := sare_wholes) lare_wholes care_wholes kare_wholes
  have bare_wholes := Fare_wholes.binds (ps := ["thing", "many"]) fun _ _ _ _ _ _ us hl => match us, hl with | [_, _], _ => rfl
  have Fis_paper := fun_mk (st := sis_paper) lis_paper cis_paper kis_paper
  have bis_paper := Fis_paper.binds (ps := ["thing", "word", "many"]) fun _ _ _ _ _ _ us hl => match us, hl with | [_, _, _], _ => rfl
  have Fis_share := fun_mk (st := sis_share) lis_share cis_share kis_share
  have bis_share := Fis_share.binds (ps := ["k", "m"]) fun _ _ _ _ _ _ us hl => match us, hl with | [_, _], _ => rfl
  have Fmeets_at := fun_mk (st := smeets_at) lmeets_at cmeets_at kmeets_at
  have bmeets_at := Fmeets_at.binds (ps := ["one", "other", "thing"]) fun _ _ _ _ _ _ us hl => match us, hl with | [_, _, _], _ => rfl
  have Fapart_holds := fun_mk (st := sapart_holds) lapart_holds capart_holds kapart_holds
  have bapart_holds := Fapart_holds.binds (ps := ["one", "other", "thing"]) fun _ _ _ _ _ _ us hl => match us, hl with | [_, _, _], _ => rfl
  have Fpair_holds := fun_mk (st := spair_holds) lpair_holds cpair_holds kpair_holds
  have bpair_holds := Fpair_holds.binds (ps := ["grain", "one", "other", "corner", "thing"]) fun _ _ _ _ _ _ us hl => match us, hl with | [_, _, _, _, _], _ => rfl
  have Funwanted_holds := fun_mk (st := sunwanted_holds) lunwanted_holds cunwanted_holds kunwanted_holds
  have bunwanted_holds := Funwanted_holds.binds (ps := ["grain", "lines", "corner", "thing"]) fun _ _ _ _ _ _ us hl => match us, hl with | [_, _, _, _], _ => rfl
  have F_law_told_right := fun_mk (st := s_law_told_right) l_law_told_right c_law_told_right k_law_told_right
  have b_law_told_right := F_law_told_right.binds (ps := ["_law_grain_here", "_law_lines_here", "_law_corner", "_law_wanted"]) fun _ _ _ _ _ _ us hl => match us, hl with | [_, _, _, _], _ => rfl
  have Fis_whole := fun_mk (st := sis_whole) lis_whole cis_whole kis_whole
  have bis_whole := Fis_whole.binds (ps := ["thing"]) fun _ _ _ _ _ _ us hl => match us, hl with | [_], _ => rfl
  have Flaw := fun_mk (st := slaw) llaw claw klaw
  obtain ⟨ft0, ot0, fdt0, c0, Pt0, t1, t2, t3, t4, t50, t60⟩ := tnare_wholes
  have e := t1.symm.trans (PySem.W.mg_of X G aare_wholes)
  cases e
  have e := t2.symm.trans (X _ _ lare_wholes)
  cases e
  cases t3
  have hcd0 : cdare_wholes = .ref c0 := t4
  clear t1 t2 t4
  obtain ⟨ft1, ot1, fdt1, c1, Pt1, t1, t2, t3, t4, t51, t61⟩ := tnapart_holds
  have e := t1.symm.trans (PySem.W.mg_of X G aapart_holds)
  cases e
  have e := t2.symm.trans (X _ _ lapart_holds)
  cases e
  cases t3
  have hcd1 : cdapart_holds = .ref c1 := t4
  clear t1 t2 t4
  obtain ⟨ft2, ot2, fdt2, c2, Pt2, t1, t2, t3, t4, t52, t62⟩ := tnare_along
  have e := t1.symm.trans (PySem.W.mg_of X G aare_along)
  cases e
  have e := t2.symm.trans (X _ _ lare_along)
  cases e
  cases t3
  have hcd2 : cdare_along = .ref c2 := t4
  clear t1 t2 t4
  obtain ⟨ft3, ot3, fdt3, c3, Pt3, t1, t2, t3, t4, t53, t63⟩ := tnends_in
  have e := t1.symm.trans (PySem.W.mg_of X G aends_in)
  cases e
  have e := t2.symm.trans (X _ _ lends_in)
  cases e
  cases t3
  have hcd3 : cdends_in = .ref c3 := t4
  clear t1 t2 t4
  obtain ⟨ft4, ot4, fdt4, c4, Pt4, t1, t2, t3, t4, t54, t64⟩ := tnunwanted_holds
  have e := t1.symm.trans (PySem.W.mg_of X G aunwanted_holds)
  cases e
  have e := t2.symm.trans (X _ _ lunwanted_holds)
  cases e
  cases t3
  have hcd4 : cdunwanted_holds = .ref c4 := t4
  clear t1 t2 t4
  obtain ⟨ft5, ot5, fdt5, c5, Pt5, t1, t2, t3, t4, t55, t65⟩ := tnapart_paper
  have e := t1.symm.trans (PySem.W.mg_of X G aapart_paper)
  cases e
  have e := t2.symm.trans (X _ _ lapart_paper)
  cases e
  cases t3
  have hcd5 : cdapart_paper = .ref c5 := t4
  clear t1 t2 t4
  refine ⟨PySem.W.fnOf "law" "law" (defArgs slaw) (defBody slaw) (defScope slaw) .none kVlaw dclaw pmlaw anlaw cdlaw ctlaw, [(c0, Pt0), (c1, Pt1), (c2, Pt2), (c3, Pt3), (c4, Pt4)], [(c5, Pt5)], fun p hp => ?_, fun p hp p' hp' => ?_, fun s v => .of_eq rfl, fun base _ _ hB => ?_⟩
  · simp only [List.cons_append, List.nil_append, List.mem_cons, List.not_mem_nil, or_false] at hp
    rcases hp with rfl | rfl | rfl | rfl | rfl | rfl
    · exact ⟨t50, t60, noTab_at X nt t60.2⟩
    · exact ⟨t51, t61, noTab_at X nt t61.2⟩
    · exact ⟨t52, t62, noTab_at X nt t62.2⟩
    · exact ⟨t53, t63, noTab_at X nt t63.2⟩
    · exact ⟨t54, t64, noTab_at X nt t64.2⟩
    · exact ⟨t55, t65, noTab_at X nt t65.2⟩
  · simp only [List.mem_cons, List.not_mem_nil, or_false] at hp hp'
    rcases hp with rfl | rfl | rfl | rfl | rfl <;> rcases hp' with rfl
    · exact tabDis_ne X t50 t55 (by rw [← hcd0, ← hcd5]; exact td00)
    · exact tabDis_ne X t51 t55 (by rw [← hcd1, ← hcd5]; exact td10)
    · exact tabDis_ne X t52 t55 (by rw [← hcd2, ← hcd5]; exact td20)
    · exact tabDis_ne X t53 t55 (by rw [← hcd3, ← hcd5]; exact td30)
    · exact tabDis_ne X t54 t55 (by rw [← hcd4, ← hcd5]; exact td40)
  have D_law_deck : Def l.prog w K mg base 1 "_law_deck" ["_law_script"] (spDeck K) := .mk1 F_law_deck (ok_law_deck F_law_deck T) (PySem.W.mg_of X G a_law_deck) b_law_deck
  have D_law_draw : Def l.prog w K mg base 1 "_law_draw" ["_law_deck_here", "_law_most"] spDraw := .mk1 F_law_draw (ok_law_draw F_law_draw T) (PySem.W.mg_of X G a_law_draw) b_law_draw
  have D_law_many : Def l.prog w K mg base 2 "_law_many" ["_law_deck_here", "_law_most"] spMany := .mk1 F_law_many (ok_law_many F_law_many T D_law_draw) (PySem.W.mg_of X G a_law_many) b_law_many
  have D_law_grain : Def l.prog w K mg base 2 "_law_grain" ["_law_deck_here"] spGrainW := .mk1 F_law_grain (ok_law_grain F_law_grain T D_law_draw) (PySem.W.mg_of X G a_law_grain) b_law_grain
  have D_law_unlike : Def l.prog w K mg base 1 "_law_unlike" ["_law_one", "_law_other"] (spUnlike K) := .mk1 F_law_unlike (ok_law_unlike F_law_unlike T) (PySem.W.mg_of X G a_law_unlike) b_law_unlike
  have D_law_point : Def l.prog w K mg base 2 "_law_point" ["_law_deck_here", "_law_grain_here"] (spPointX K) := .mk1 F_law_point (ok_law_point F_law_point T D_law_draw) (PySem.W.mg_of X G a_law_point) b_law_point
  have D_law_beside : Def l.prog w K mg base 2 "_law_beside" ["_law_deck_here", "_law_line_here", "_law_one", "_law_other"] (spBesideX K) := .mk1 F_law_beside (ok_law_beside F_law_beside T D_law_draw D_law_unlike) (PySem.W.mg_of X G a_law_beside) b_law_beside
  have D_law_line : Def l.prog w K mg base 3 "_law_line" ["_law_deck_here", "_law_grain_here", "_law_lines_here"] (spLineX K) := .mk1 F_law_line (ok_law_line F_law_line T D_law_draw D_law_unlike D_law_point D_law_beside) (PySem.W.mg_of X G a_law_line) b_law_line
  have D_law_lines : Def l.prog w K mg base 4 "_law_lines" ["_law_deck_here", "_law_grain_here", "_law_many_here"] (spLinesX K) := .mk1 F_law_lines (ok_law_lines F_law_lines T D_law_draw D_law_line) (PySem.W.mg_of X G a_law_lines) b_law_lines
  have D_law_nearest : Def l.prog w K mg base 1 "_law_nearest" ["_law_grain_here", "_law_spot"] (spNearN K) := .mk1 F_law_nearest (ok_law_nearest F_law_nearest T) (PySem.W.mg_of X G a_law_nearest) b_law_nearest
  have D_law_less : Def l.prog w K mg base 1 "_law_less" ["_law_one", "_law_other"] (spLess K) := .mk1 F_law_less (ok_law_less F_law_less T) (PySem.W.mg_of X G a_law_less) b_law_less
  have D_law_turn : Def l.prog w K mg base 1 "_law_turn" ["_law_one", "_law_other"] (spTurn K) := .mk1 F_law_turn (ok_law_turn F_law_turn T) (PySem.W.mg_of X G a_law_turn) b_law_turn
  have D_law_parted : Def l.prog w K mg base 1 "_law_parted" ["_law_one", "_law_other"] spGp := .mk1 F_law_parted (ok_law_parted F_law_parted T) (PySem.W.mg_of X G a_law_parted) b_law_parted
  have D_law_lowest : Def l.prog w K mg base 2 "_law_lowest" ["_law_n", "_law_m", "_law_d"] (spLowest K) := .mk1 F_law_lowest (ok_law_lowest F_law_lowest T D_law_parted) (PySem.W.mg_of X G a_law_lowest) b_law_lowest
  have D_law_due_along : Def l.prog w K mg base 1 "_law_due_along" ["_law_one", "_law_other"] (spTwo K alo fun _ _ => True) := .mk1 F_law_due_along (ok_law_due_along F_law_due_along T) (PySem.W.mg_of X G a_law_due_along) b_law_due_along
  have D_law_due : Def l.prog w K mg base 3 "_law_due" ["_law_one", "_law_other"] (spTwo K cmn fun _ _ => True) := .mk1 F_law_due (ok_law_due F_law_due T D_law_less D_law_turn D_law_lowest D_law_due_along) (PySem.W.mg_of X G a_law_due) b_law_due
  have D_law_wants : Def l.prog w K mg base 4 "_law_wants" ["_law_grain_here", "_law_lines_here"] (spWantsL K) := .mk1 F_law_wants (ok_law_wants F_law_wants T D_law_nearest D_law_due) (PySem.W.mg_of X G a_law_wants) b_law_wants
  have D_law_corners_asked : Def l.prog w K mg base 5 "_law_corners_asked" ["_law_deck_here", "_law_grain_here", "_law_lines_here"] (spAskedL K) := .mk1 F_law_corners_asked (ok_law_corners_asked F_law_corners_asked T D_law_draw D_law_wants) (PySem.W.mg_of X G a_law_corners_asked) b_law_corners_asked
  have Dnearest : Def l.prog w K mg base 1 "nearest" ["n", "d"] spNear := .mk1 Fnearest (oknearest Fnearest T) (PySem.W.mg_of X G anearest) bnearest
  have Dcorner_of : Def l.prog w K mg base 2 "corner_of" ["grain", "point"] (spCorner K) := .mk1 Fcorner_of (okcorner_of Fcorner_of T Dnearest) (PySem.W.mg_of X G acorner_of) bcorner_of
  have Dend_wants : Def l.prog w K mg base 3 "end_wants" ["grain", "lines"] (spEnds K) := .mk1 Fend_wants (okend_wants Fend_wants T Dcorner_of) (PySem.W.mg_of X G aend_wants) bend_wants
  have Dcorner_at : Def l.prog w K mg base 2 "corner_at" ["grain", "spot"] (spCornerAtN K) := .mk1 Fcorner_at (okcorner_at Fcorner_at T Dnearest) (PySem.W.mg_of X G acorner_at) bcorner_at
  have Dcorner_atB : Def l.prog w K mg base 2 "corner_at" ["grain", "spot"] (spCornerAt K) := .mk1 Fcorner_at ((okcorner_at Fcorner_at T Dnearest).of fun _ _ _ _ h => cornerB h) (PySem.W.mg_of X G acorner_at) bcorner_at
  have Dpairs_below : Def l.prog w K mg base 1 "pairs_below" ["many"] (spPairs K) := .mk1 Fpairs_below (okpairs_below Fpairs_below T) (PySem.W.mg_of X G apairs_below) bpairs_below
  have Dstep_of : Def l.prog w K mg base 1 "step_of" ["line"] (spStep K) := .mk1 Fstep_of (okstep_of Fstep_of T) (PySem.W.mg_of X G astep_of) bstep_of
  have Dturn_of : Def l.prog w K mg base 1 "turn_of" ["one", "other"] (spTurn K) := .mk1 Fturn_of (okturn_of Fturn_of T) (PySem.W.mg_of X G aturn_of) bturn_of
  have Dside_of : Def l.prog w K mg base 2 "side_of" ["line", "point"] (spSide K) := .mk1 Fside_of (okside_of Fside_of T Dstep_of Dturn_of) (PySem.W.mg_of X G aside_of) bside_of
  have Dgreatest_parting : Def l.prog w K mg base 1 "greatest_parting" ["n", "m"] spGp := .mk1 Fgreatest_parting (okgreatest_parting Fgreatest_parting T) (PySem.W.mg_of X G agreatest_parting) bgreatest_parting
  have Dspot_of : Def l.prog w K mg base 2 "spot_of" ["n", "m", "d"] spSpotOf := .mk1 Fspot_of (okspot_of Fspot_of T Dgreatest_parting) (PySem.W.mg_of X G aspot_of) bspot_of
  have Dspot_at : Def l.prog w K mg base 3 "spot_at" ["line", "k", "m"] (spSpotAt K) := .mk1 Fspot_at (okspot_at Fspot_at T Dstep_of Dspot_of) (PySem.W.mg_of X G aspot_at) bspot_at
  have Dcommon_across : Def l.prog w K mg base 4 "common_across" ["one", "other"] (spTwo K acr fun l r => trn (less l.2 l.1) (less r.2 r.1) ≠ 0) := .mk1 Fcommon_across (okcommon_across Fcommon_across T Dstep_of Dturn_of Dspot_at) (PySem.W.mg_of X G acommon_across) bcommon_across
  have Dcommon_along : Def l.prog w K mg base 1 "common_along" ["one", "other"] (spTwo K alo fun _ _ => True) := .mk1 Fcommon_along (okcommon_along Fcommon_along T) (PySem.W.mg_of X G acommon_along) bcommon_along
  have Dcommon : Def l.prog w K mg base 5 "common" ["one", "other"] (spTwo K cmn fun _ _ => True) := .mk1 Fcommon (okcommon Fcommon T Dstep_of Dturn_of Dside_of Dcommon_across Dcommon_along) (PySem.W.mg_of X G acommon) bcommon
  have Dcross_wants : Def l.prog w K mg base 6 "cross_wants" ["grain", "lines"] (spCrosses K) := .mk1 Fcross_wants (okcross_wants Fcross_wants T Dcorner_at Dpairs_below Dcommon) (PySem.W.mg_of X G across_wants) bcross_wants
  have Dwants_of : Def l.prog w K mg base 7 "wants_of" ["grain", "lines"] (spWants K) := .mk1 Fwants_of (okwants_of Fwants_of T Dend_wants Dcross_wants) (PySem.W.mg_of X G awants_of) bwants_of
  have Dcorners_of : Def l.prog w K mg base 8 "corners_of" ["grain", "lines"] (spCorners K) := .mk1 Fcorners_of (okcorners_of Fcorners_of T Dwants_of) (PySem.W.mg_of X G acorners_of) bcorners_of
  have Dare_along : Def l.prog w K mg base 5 "are_along" ["one", "other"] (spAlong K Pt2) := .mk1 Fare_along (okare_along Fare_along hcd2 (hB (c2, Pt2) (by simp)) T Dside_of) (PySem.W.mg_of X G aare_along) bare_along
  have Dways_across : Def l.prog w K mg base 2 "ways_across" ["line"] (spWaysA K) := .mk1 Fways_across (okways_across Fways_across T Dstep_of) (PySem.W.mg_of X G aways_across) bways_across
  have Dleast_by : Def l.prog w K mg base 1 "least_by" ["line", "p", "q"] (spLeast K) := .mk1 Fleast_by (okleast_by Fleast_by T) (PySem.W.mg_of X G aleast_by) bleast_by
  have Dgreatest_by : Def l.prog w K mg base 1 "greatest_by" ["line", "p", "q"] (spGreat K) := .mk1 Fgreatest_by (okgreatest_by Fgreatest_by T) (PySem.W.mg_of X G agreatest_by) bgreatest_by
  have Dgap_by : Def l.prog w K mg base 2 "gap_by" ["way", "one", "other"] (spGap K) := .mk1 Fgap_by (okgap_by Fgap_by T Dleast_by Dgreatest_by) (PySem.W.mg_of X G agap_by) bgap_by
  have Dapart_paper : Def l.prog w K mg base 5 "apart_paper" ["one", "other"] (spApP K Pt5) := .mk1 Fapart_paper (okapart_paper Fapart_paper hcd5 (hB (c5, Pt5) (by simp)) T Dstep_of Dways_across Dgap_by Dgreatest_by Dleast_by) (PySem.W.mg_of X G aapart_paper) bapart_paper
  have Dlowest : Def l.prog w K mg base 2 "lowest" ["n", "d"] (spLowG K) := .mk1 Flowest (oklowest Flowest T Dgreatest_parting) (PySem.W.mg_of X G alowest) blowest
  have Dshare_of : Def l.prog w K mg base 3 "share_of" ["line", "spot"] (spShareP K) := .mk1 Fshare_of (okshare_of Fshare_of T Dstep_of Dlowest) (PySem.W.mg_of X G ashare_of) bshare_of
  have Dcommon_paper : Def l.prog w K mg base 6 "common_paper" ["one", "other"] (spCPap K Pt5) := .mk1 Fcommon_paper (okcommon_paper Fcommon_paper T Dcommon Dapart_paper Dshare_of) (PySem.W.mg_of X G acommon_paper) bcommon_paper
  have Dpair_paper : Def l.prog w K mg base 7 "pair_paper" ["one", "other"] (spPairP K Pt2 Pt5) := .mk1 Fpair_paper (okpair_paper Fpair_paper T Dare_along Dcommon_paper) (PySem.W.mg_of X G apair_paper) bpair_paper
  have Dunwanted_paper : Def l.prog w K mg base 9 "unwanted_paper" ["grain", "lines", "corner"] (spUnwP K Pt2 Pt5) := .mk1 Funwanted_paper (okunwanted_paper Funwanted_paper T Dcorners_of Dpairs_below Dpair_paper) (PySem.W.mg_of X G aunwanted_paper) bunwanted_paper
  have D_law_is_along : Def l.prog w K mg base 2 "_law_is_along" ["_law_one", "_law_other"] (spAlongL K) := .mk1 F_law_is_along (ok_law_is_along F_law_is_along T D_law_less D_law_turn) (PySem.W.mg_of X G a_law_is_along) b_law_is_along
  have D_law_is_whole : Def l.prog w K mg base 1 "_law_is_whole" ["_law_thing"] (spWhole K) := .mk1 F_law_is_whole (ok_law_is_whole F_law_is_whole T) (PySem.W.mg_of X G a_law_is_whole) b_law_is_whole
  have D_law_number_at : Def l.prog w K mg base 1 "_law_number_at" ["_law_line_here", "_law_k", "_law_m", "_law_at"] (spNumAt K) := .mk1 F_law_number_at (ok_law_number_at F_law_number_at T) (PySem.W.mg_of X G a_law_number_at) b_law_number_at
  have D_law_is_paper : Def l.prog w K mg base 2 "_law_is_paper" ["_law_one", "_law_other", "_law_thing"] (spLPap K) := .mk1 F_law_is_paper (ok_law_is_paper F_law_is_paper T D_law_is_whole D_law_number_at) (PySem.W.mg_of X G a_law_is_paper) b_law_is_paper
  have D_law_pair_so : Def l.prog w K mg base 3 "_law_pair_so" ["_law_grain_here", "_law_one", "_law_other", "_law_corner", "_law_thing"] (spPairL K) := .mk1 F_law_pair_so (ok_law_pair_so F_law_pair_so T D_law_is_along D_law_is_paper D_law_nearest D_law_number_at) (PySem.W.mg_of X G a_law_pair_so) b_law_pair_so
  have D_law_is_unwanted : Def l.prog w K mg base 4 "_law_is_unwanted" ["_law_grain_here", "_law_lines_here", "_law_corner", "_law_thing"] (spUnwL K) := .mk1 F_law_is_unwanted (ok_law_is_unwanted F_law_is_unwanted T D_law_nearest D_law_pair_so) (PySem.W.mg_of X G a_law_is_unwanted) b_law_is_unwanted
  have Dends_in : Def l.prog w K mg base 5 "ends_in" ["grain", "line", "corner"] (spEndsIn K Pt3) := .mk1 Fends_in (okends_in Fends_in hcd3 (hB (c3, Pt3) (by simp)) T Dcorner_of) (PySem.W.mg_of X G aends_in) bends_in
  have Dare_wholes : Def l.prog w K mg base 3 "are_wholes" ["thing", "many"] (spAre K Pt0) := .mk1 Fare_wholes (okare_wholes Fare_wholes hcd0 (hB (c0, Pt0) (by simp)) T (qw_is_whole Fis_whole T bis_whole) (PySem.W.mg_of X G ais_whole) Fis_whole.kp) (PySem.W.mg_of X G aare_wholes) bare_wholes
  have Dis_paper : Def l.prog w K mg base 4 "is_paper" ["thing", "word", "many"] (spPaper K Pt0) := .mk1 Fis_paper (okis_paper Fis_paper T Dare_wholes) (PySem.W.mg_of X G ais_paper) bis_paper
  have Dis_share : Def l.prog w K mg base 1 "is_share" ["k", "m"] spShareQ := .mk1 Fis_share (okis_share Fis_share T) (PySem.W.mg_of X G ais_share) bis_share
  have Dmeets_at : Def l.prog w K mg base 5 "meets_at" ["one", "other", "thing"] (spMeetS K Pt0) := .mk1 Fmeets_at (okmeets_at Fmeets_at T Dis_paper Dis_share Dspot_at) (PySem.W.mg_of X G ameets_at) bmeets_at
  have Dapart_holds : Def l.prog w K mg base 5 "apart_holds" ["one", "other", "thing"] (spApartQ K Pt0 Pt1) := .mk1 Fapart_holds (okapart_holds Fapart_holds hcd1 (hB (c1, Pt1) (by simp)) T Dis_paper) (PySem.W.mg_of X G aapart_holds) bapart_holds
  have Dpair_holds : Def l.prog w K mg base 6 "pair_holds" ["grain", "one", "other", "corner", "thing"] (spPairH K Pt0 Pt1 Pt2) := .mk1 Fpair_holds (okpair_holds Fpair_holds T Dare_along Dmeets_at Dapart_holds Dcorner_atB) (PySem.W.mg_of X G apair_holds) bpair_holds
  have Dunwanted_holds : Def l.prog w K mg base 9 "unwanted_holds" ["grain", "lines", "corner", "thing"] (spUnwH K Pt4 Pt3 Pt0 Pt1 Pt2) := .mk1 Funwanted_holds (okunwanted_holds Funwanted_holds hcd4 (hB (c4, Pt4) (by simp)) T Dends_in Dpairs_below Dpair_holds) (PySem.W.mg_of X G aunwanted_holds) bunwanted_holds
  have D_law_told_right : Def l.prog w K mg base 10 "_law_told_right" ["_law_grain_here", "_law_lines_here", "_law_corner", "_law_wanted"] (spToldR K [Pt4, Pt3, Pt0, Pt1, Pt2] Pt5) := .mk1 F_law_told_right (ok_law_told_right F_law_told_right T Dunwanted_paper D_law_is_unwanted Dunwanted_holds) (PySem.W.mg_of X G a_law_told_right) b_law_told_right
  exact oklaw Flaw T D_law_deck D_law_draw D_law_many D_law_grain D_law_lines D_law_corners_asked D_law_wants Dunwanted_paper D_law_is_unwanted Dunwanted_holds D_law_told_right
end Cl
open PySem PySem.W PyProof.Rows
set_option maxHeartbeats 0 in
theorem PySem.Challenge.cw_cornerlines_k14_papers_that_nothing_want_holds : PySem.Challenge.rw_cornerlines_k14_papers_that_nothing_want.Holds := by
  w_on; o_law; k_head; (case hw => w_witness2)
  k_fill
  refine Cl.endGL (l := PySem.Challenge.rw_cornerlines_k14_papers_that_nothing_want) (n := 63) (k := 11) (x := "_law_script") (ts := ["are_wholes", "apart_holds", "are_along", "ends_in", "unwanted_holds", "apart_paper"]) (sp := fun K cs1 cs2 => Cl.spLawTs K cs1 cs2) rfl (by decide) rfl ⟨⟨rfl, by decide, by decide⟩, rfl⟩ (by rfl) (fun w h Y => PySem.W.km_in_of Y) ?F ?hsp
  case F =>
    intro w mg fa h KX G hmg tn
    refine' Cl.all_mk KX G hmg ?a0 ?l0 ?c0 ?k0 ?a1 ?l1 ?c1 ?k1 ?a2 ?l2 ?c2 ?k2 ?a3 ?l3 ?c3 ?k3 ?a4 ?l4 ?c4 ?k4 ?a5 ?l5 ?c5 ?k5 ?a6 ?l6 ?c6 ?k6 ?a7 ?l7 ?c7 ?k7 ?a8 ?l8 ?c8 ?k8 ?a9 ?l9 ?c9 ?k9 ?a10 ?l10 ?c10 ?k10 ?a11 ?l11 ?c11 ?k11 ?a12 ?l12 ?c12 ?k12 ?a13 ?l13 ?c13 ?k13 ?a14 ?l14 ?c14 ?k14 ?a15 ?l15 ?c15 ?k15 ?a16 ?l16 ?c16 ?k16 ?a17 ?l17 ?c17 ?k17 ?a18 ?l18 ?c18 ?k18 ?a19 ?l19 ?c19 ?k19 ?a20 ?l20 ?c20 ?k20 ?a21 ?l21 ?c21 ?k21 ?a22 ?l22 ?c22 ?k22 ?a23 ?l23 ?c23 ?k23 ?a24 ?l24 ?c24 ?k24 ?a25 ?l25 ?c25 ?k25 ?a26 ?l26 ?c26 ?k26 ?a27 ?l27 ?c27 ?k27 ?a28 ?l28 ?c28 ?k28 ?a29 ?l29 ?c29 ?k29 ?a30 ?l30 ?c30 ?k30 ?a31 ?l31 ?c31 ?k31 ?a32 ?l32 ?c32 ?k32 ?a33 ?l33 ?c33 ?k33 ?a34 ?l34 ?c34 ?k34 ?a35 ?l35 ?c35 ?k35 ?a36 ?l36 ?c36 ?k36 ?a37 ?l37 ?c37 ?k37 ?a38 ?l38 ?c38 ?k38 ?a39 ?l39 ?c39 ?k39 ?a40 ?l40 ?c40 ?k40 ?a41 ?l41 ?c41 ?k41 ?a42 ?l42 ?c42 ?k42 ?a43 ?l43 ?c43 ?k43 ?a44 ?l44 ?c44 ?k44 ?a45 ?l45 ?c45 ?k45 ?a46 ?l46 ?c46 ?k46 ?a47 ?l47 ?c47 ?k47 ?a48 ?l48 ?c48 ?k48 ?a49 ?l49 ?c49 ?k49 ?a50 ?l50 ?c50 ?k50 ?a51 ?l51 ?c51 ?k51 ?a52 ?l52 ?c52 ?k52 ?a53 ?l53 ?c53 ?k53 ?a54 ?l54 ?c54 ?k54 ?a55 ?l55 ?c55 ?k55 ?a56 ?l56 ?c56 ?k56 ?a57 ?l57 ?c57 ?k57 ?a58 ?l58 ?c58 ?k58 ?a59 ?l59 ?c59 ?k59 ?a60 ?l60 ?c60 ?k60 ?a61 ?l61 ?c61 ?k61 ?a62 ?l62 ?c62 ?k62 ?z0 ?z1 ?z2 ?z3 ?z4 ?z5 ?z6 ?z7 ?z8 ?z9 ?z10 ?z11 ?z12 ?z13 ?z14 ?z15 ?z16 ?z17 ?z18 ?nt (tn _ (by simp)) (tn _ (by simp)) (tn _ (by simp)) (tn _ (by simp)) (tn _ (by simp)) (tn _ (by simp)) ?td00 ?td10 ?td20 ?td30 ?td40
    (case nt => first | (with_unfolding_all exact rfl) | (unfold Cl.noTab; with_unfolding_all rfl))
    (case a0 => k_is); (case l0 => k_is); (case c0 => k_is); (case k0 => k_is); (case a1 => k_is); (case l1 => k_is); (case c1 => k_is); (case k1 => k_is); (case a2 => k_is); (case l2 => k_is); (case c2 => k_is); (case k2 => k_is); (case a3 => k_is); (case l3 => k_is); (case c3 => k_is); (case k3 => k_is); (case a4 => k_is); (case l4 => k_is); (case c4 => k_is); (case k4 => k_is); (case a5 => k_is); (case l5 => k_is); (case c5 => k_is); (case k5 => k_is); (case a6 => k_is); (case l6 => k_is); (case c6 => k_is); (case k6 => k_is); (case a7 => k_is); (case l7 => k_is); (case c7 => k_is); (case k7 => k_is); (case a8 => k_is); (case l8 => k_is); (case c8 => k_is); (case k8 => k_is); (case a9 => k_is); (case l9 => k_is); (case c9 => k_is); (case k9 => k_is); (case a10 => k_is); (case l10 => k_is); (case c10 => k_is); (case k10 => k_is); (case a11 => k_is); (case l11 => k_is); (case c11 => k_is); (case k11 => k_is); (case a12 => k_is); (case l12 => k_is); (case c12 => k_is); (case k12 => k_is); (case a13 => k_is); (case l13 => k_is); (case c13 => k_is); (case k13 => k_is); (case a14 => k_is); (case l14 => k_is); (case c14 => k_is); (case k14 => k_is); (case a15 => k_is); (case l15 => k_is); (case c15 => k_is); (case k15 => k_is); (case a16 => k_is); (case l16 => k_is); (case c16 => k_is); (case k16 => k_is); (case a17 => k_is); (case l17 => k_is); (case c17 => k_is); (case k17 => k_is); (case a18 => k_is); (case l18 => k_is); (case c18 => k_is); (case k18 => k_is); (case a19 => k_is); (case l19 => k_is); (case c19 => k_is); (case k19 => k_is); (case a20 => k_is); (case l20 => k_is); (case c20 => k_is); (case k20 => k_is); (case a21 => k_is); (case l21 => k_is); (case c21 => k_is); (case k21 => k_is); (case a22 => k_is); (case l22 => k_is); (case c22 => k_is); (case k22 => k_is); (case a23 => k_is); (case l23 => k_is); (case c23 => k_is); (case k23 => k_is); (case a24 => k_is); (case l24 => k_is); (case c24 => k_is); (case k24 => k_is); (case a25 => k_is); (case l25 => k_is); (case c25 => k_is); (case k25 => k_is); (case a26 => k_is); (case l26 => k_is); (case c26 => k_is); (case k26 => k_is); (case a27 => k_is); (case l27 => k_is); (case c27 => k_is); (case k27 => k_is); (case a28 => k_is); (case l28 => k_is); (case c28 => k_is); (case k28 => k_is); (case a29 => k_is); (case l29 => k_is); (case c29 => k_is); (case k29 => k_is); (case a30 => k_is); (case l30 => k_is); (case c30 => k_is); (case k30 => k_is); (case a31 => k_is); (case l31 => k_is); (case c31 => k_is); (case k31 => k_is); (case a32 => k_is); (case l32 => k_is); (case c32 => k_is); (case k32 => k_is); (case a33 => k_is); (case l33 => k_is); (case c33 => k_is); (case k33 => k_is); (case a34 => k_is); (case l34 => k_is); (case c34 => k_is); (case k34 => k_is); (case a35 => k_is); (case l35 => k_is); (case c35 => k_is); (case k35 => k_is); (case a36 => k_is); (case l36 => k_is); (case c36 => k_is); (case k36 => k_is); (case a37 => k_is); (case l37 => k_is); (case c37 => k_is); (case k37 => k_is); (case a38 => k_is); (case l38 => k_is); (case c38 => k_is); (case k38 => k_is); (case a39 => k_is); (case l39 => k_is); (case c39 => k_is); (case k39 => k_is); (case a40 => k_is); (case l40 => k_is); (case c40 => k_is); (case k40 => k_is); (case a41 => k_is); (case l41 => k_is); (case c41 => k_is); (case k41 => k_is); (case a42 => k_is); (case l42 => k_is); (case c42 => k_is); (case k42 => k_is); (case a43 => k_is); (case l43 => k_is); (case c43 => k_is); (case k43 => k_is); (case a44 => k_is); (case l44 => k_is); (case c44 => k_is); (case k44 => k_is); (case a45 => k_is); (case l45 => k_is); (case c45 => k_is); (case k45 => k_is); (case a46 => k_is); (case l46 => k_is); (case c46 => k_is); (case k46 => k_is); (case a47 => k_is); (case l47 => k_is); (case c47 => k_is); (case k47 => k_is); (case a48 => k_is); (case l48 => k_is); (case c48 => k_is); (case k48 => k_is); (case a49 => k_is); (case l49 => k_is); (case c49 => k_is); (case k49 => k_is); (case a50 => k_is); (case l50 => k_is); (case c50 => k_is); (case k50 => k_is); (case a51 => k_is); (case l51 => k_is); (case c51 => k_is); (case k51 => k_is); (case a52 => k_is); (case l52 => k_is); (case c52 => k_is); (case k52 => k_is); (case a53 => k_is); (case l53 => k_is); (case c53 => k_is); (case k53 => k_is); (case a54 => k_is); (case l54 => k_is); (case c54 => k_is); (case k54 => k_is); (case a55 => k_is); (case l55 => k_is); (case c55 => k_is); (case k55 => k_is); (case a56 => k_is); (case l56 => k_is); (case c56 => k_is); (case k56 => k_is); (case a57 => k_is); (case l57 => k_is); (case c57 => k_is); (case k57 => k_is); (case a58 => k_is); (case l58 => k_is); (case c58 => k_is); (case k58 => k_is); (case a59 => k_is); (case l59 => k_is); (case c59 => k_is); (case k59 => k_is); (case a60 => k_is); (case l60 => k_is); (case c60 => k_is); (case k60 => k_is); (case a61 => k_is); (case l61 => k_is); (case c61 => k_is); (case k61 => k_is); (case a62 => k_is); (case l62 => k_is); (case c62 => k_is); (case k62 => k_is); (case z0 => k_is); (case z1 => k_is); (case z2 => k_is); (case z3 => k_is); (case z4 => k_is); (case z5 => k_is); (case z6 => k_is); (case z7 => k_is); (case z8 => k_is); (case z9 => k_is); (case z10 => k_is); (case z11 => k_is); (case z12 => k_is); (case z13 => k_is); (case z14 => k_is); (case z15 => k_is); (case z16 => k_is); (case z17 => k_is); (case z18 => k_is)
    (case td00 => first | (with_unfolding_all exact rfl) | (unfold Cl.tabDis Cl.tabA; with_unfolding_all rfl))
    (case td10 => first | (with_unfolding_all exact rfl) | (unfold Cl.tabDis Cl.tabA; with_unfolding_all rfl))
    (case td20 => first | (with_unfolding_all exact rfl) | (unfold Cl.tabDis Cl.tabA; with_unfolding_all rfl))
    (case td30 => first | (with_unfolding_all exact rfl) | (unfold Cl.tabDis Cl.tabA; with_unfolding_all rfl))
    (case td40 => first | (with_unfolding_all exact rfl) | (unfold Cl.tabDis Cl.tabA; with_unfolding_all rfl))
  case hsp =>
    intro w cs1 cs2 H a ns hl _ hc hc2 hne hS
    unfold Cl.spLawTs
    split
    · rename_i p0 p1 p2 p3 p4 p5
      refine ⟨a, ns, rfl, hS, hl, ⟨fun P hP => ?_, ⟨[], hc2 p5 (by simp), fun c h => nomatch h⟩⟩, fun H' lt => ⟨rfl, fun q hq => by
        rw [List.mem_singleton.mp hq]
        obtain ⟨cs, e, _⟩ := lt
        exact ⟨cs, e⟩⟩⟩
      simp only [List.mem_cons, List.not_mem_nil, or_false] at hP
      rcases hP with rfl | rfl | rfl | rfl | rfl
      · exact ⟨⟨#[], hc p4 (by simp), by trivial⟩, hne p4 (by simp) p5 (by simp)⟩
      · exact ⟨⟨#[], hc p3 (by simp), by trivial⟩, hne p3 (by simp) p5 (by simp)⟩
      · exact ⟨⟨#[], hc p0 (by simp), by trivial⟩, hne p0 (by simp) p5 (by simp)⟩
      · exact ⟨⟨#[], hc p1 (by simp), by trivial⟩, hne p1 (by simp) p5 (by simp)⟩
      · exact ⟨⟨#[], hc p2 (by simp), by trivial⟩, hne p2 (by simp) p5 (by simp)⟩
    · trivial

