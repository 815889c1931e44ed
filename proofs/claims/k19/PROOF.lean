import PyProof.Rows.All
import Wide.All
import OpenK.AllK
import Wide.FinOn
import PySem.Challenge.RW_cornerlines_k19_papers_of_cells_spoilt
import HandS.ForMost
import HandS.Wide
import HandS.EndBits
import HandS.AnyAll
import HandS.EndTab
import PyProof.ReprRoads
import KE.KRevSl
import HandS.IsInst
import HandS.TryOnly
import KE.DataMinMax
import HandS.TupSets
import KE.SortData
import HandS.Style
import KE.GoesNew
import KE.GoesMore
import HandS.Iter
import HandS.Zip
import HandS.Star
import PyProof.GenCompD
import KE.KIsAll
import HandS.Walk
import HandS.SortInts
import HandS.TupAny
import KE.GoesEnum
import PyProof.WalksPairs
import HandS.Lambda
import KE.KMinKey
import HandS.SortKw
import HandS.DictTup
import PyProof.EqKinds
import PyProof.NeKinds
import PyProof.NeData
import PyProof.Rows.IntBool
import PyProof.Rows.ReprOcc
import PyProof.Rows.StrFit
set_option Elab.async false
set_option linter.all false
set_option maxRecDepth 100000
namespace Cl
open PySem PySem.Spec PyProof.Rows L2

/-! ### promises of defs that may be shown (repr) what stands on no guard's list -/
structure RG (k : Nat) (A : Around) : Prop where
  room : Room k A
  gd : A.guards = some []
theorem RG.mono {j k : Nat} {A : Around} (r : RG k A) (h : j ≤ k) : RG j A :=
  ⟨r.room.mono h, r.gd⟩
structure FnG (P : Program) (w : World) (K : PySem.W.Frag) (mg : Str → Option Value)
    (base : Heap) (CX : CXT) (k : Nat) (f : Addr) (fd : FuncData) (ps : List Str) (sp : Sp) : Prop where
  len : ∀ vs H Q E, sp vs H Q E → vs.length = ps.length
  run : ∀ A outer s H args us vs Q E, RG k A → Env0 P w K mg base A outer s H →
    BindsTo s fd args (ps.zip us) → Vals vs us → sp vs H Q E →
    codeAny (model P w) A (.call (.ref f) args) (CR CX outer P w H s Q E) s
section
variable {P : Program} {w : World} {K : PySem.W.Frag} {mg : Str → Option Value} {base : Heap} {CX : CXT}
theorem toG {k : Nat} {f : Addr} {fd : FuncData} {ps : List Str} {sp : Sp}
    (F : FnOk P w K mg base CX k f fd ps sp) : FnG P w K mg base CX k f fd ps sp :=
  ⟨F.len, fun A outer s H args us vs Q E r => F.run A outer s H args us vs Q E r.room⟩

/-- a def with what its body does, where no guard is set -/
theorem okG {x qual : Str} {st : Stmt} {f : Addr} {fd : FuncData} {N ps : List Str} {k : Nat} {sp : Sp}
    (F : Fun K x qual st f fd) (S : FnScope N ps (defScope st))
    (len : ∀ vs H Q E, sp vs H Q E → vs.length = ps.length)
    (body : ∀ (cdv : Value) (A : Around) (outer : List Env) (s : Shared) (H : Hp) (vs : List V) (Q : VK) (E : XK),
      RG k (A.deeper (envOfC qual (defScope st) s.heap.objs.size f cdv)) → sp vs H Q E →
      ∃ t, PSs (cxOf CX0 P w K mg base N qual (defScope st) f cdv A outer s H E).nox (defBody st) t ∧
        t { nx := fun _ H' => Q .non H', rt := Q } (start N vs) H) :
    FnG P w K mg base CX0 (k + 1) f fd ps sp := by
  obtain ⟨oc, od, kV, doc, pm, an, cdv, ct, osl, rfl, lk, hcd⟩ := F.ex
  constructor
  · exact len
  intro A outer s H args us vs Q E hr e0 hb r hsp
  have nvs := len _ _ _ _ hsp
  have keepB : ∀ b o, base.get? b = some o → s.heap.get? b = some o := fun b o z => (e0.bs b o z).1
  have inK : K.In s.heap := e0.mod.kin.keeps keepB
  have nolim : s.heap.NoLimit := e0.mod.nolimit.keeps keepB
  have kinds : ∀ y ∈ ps.zip us, (defScope st).names.lookup y.1 = some .local ∨
      ((defScope st).names.lookup y.1 = some .cell ∧
        ((cellsFrom (s.heap.objs.size + 1) (defScope st).names []).lookup y.1).isSome = true) := by
    rintro ⟨n, v⟩ hy
    rcases S.par n (List.of_mem_zip hy).1 with z | z
    · exact .inl z
    · exact .inr ⟨z, PySem.W.cellsFrom_some _ _ _ (.inl z)⟩
  refine codeAny_call_function hr.room.depth (inK _ _ lk) rfl S.co S.gen rfl
    (PySem.W.codeRec_of inK hcd) (hb _ _ _ _ ?_)
  refine wpAny_newFunctionEnv_cells S.kind kinds fun env he s1 x => ?_
  subst he
  refine ⟨nolim.keeps x.toInCall.keep, codeAny_func ?_⟩
  have hr2 : RG k (A.deeper (envOfC qual (defScope st) s.heap.objs.size f cdv)) := ⟨hr.room.deeper _, hr.gd⟩
  obtain ⟨t, ht, hq⟩ := body cdv A outer s H vs Q E hr2 hsp
  have I : Inv (cxOf CX0 P w K mg base N qual (defScope st) f cdv A outer s H E) [] (start N vs) H s1 :=
    inv_start S hr.room.hd e0 nvs r x
  refine wpAny_mono (ht.nox.run [] s1 (start N vs) H _ I hq) (fun fl s' hs => ?_) fun _ _ z => z
  match fl, hs with
  | .ret u, ⟨v, σ', H', J, rv, q⟩ => exact ⟨v, H', J.os, J.bare, J.base, J.hok, rv, q⟩
  | .next, ⟨σ', H', J, q⟩ => exact ⟨V.non, H', J.os, J.bare, J.base, J.hok, rfl, q⟩
  | .brk, ⟨_, _, _, q⟩ => exact q.elim
  | .cont, ⟨_, _, _, q⟩ => exact q.elim
end

section
variable {X : Cx} {CX : CXT} {k : Nat} {f : Addr} {fd : FuncData} {ps : List Str} {sp : Sp} {dvs : List V}
  {ds : List Value} {E : XK} {x : Str} {p pos : Pos} {e : Expr} {es : List Expr} {t : TA}
/-- f(e, ..) of such a def -/
theorem callG (F : FnG X.prog X.w X.K X.mg X.base CX k f fd ps sp) (hr : RG k X.A) (hg : Gl X x)
    (hm : X.mg x = some (.ref f)) (hk : PySem.W.keepIn X.K (.ref f) = true) (hb : Binds X.K fd ps ds)
    (hd : Vals dvs ds) (hx : Passes CX X E) (ha : PA X (e :: es) t)
    (hdb : (x == ("__debug__" : Str)) = false := by decide)
    (he : starEach (e :: es) X.env = (false, eval e X.env) :: starEach es X.env := by rfl)
    (hpl : (backTo pos (starEach es X.env)).any (·.1) = false := by rfl) :
    PE X (.Call (.Name x p) (e :: es) [] pos) (tCall sp dvs E t) := by
  constructor
  intro pins s σ H Q I h
  refine wpAny_Call_Name_kw (ld_glob I hg hm ?_ hdb)
  refine PySem.W.callWith_K (h₀ := X.base) I.ok.mod.kin hk ?_ he hpl
  refine thn (ha.run pos pins s σ H _ I h) fun us s1 ⟨vs, H1, I1, r, q⟩ => ⟨I1.kIn, ?_⟩
  have r2 : Vals (vs ++ dvs) (us ++ ds) := r.append hd
  have n2 : (us ++ ds).length = ps.length := r2.length.symm.trans (F.len _ _ _ _ q)
  have run := F.run X.A X.stack s1 H1 ⟨us, []⟩ (us ++ ds) (vs ++ dvs) Q E hr I1.env0 (hb s1 us I1.kIn n2) r2 q
  refine wpAny_call (codeAny_mono run fun res s' hq => ?_)
  match res, hq with
  | .error ee, hq => exact hx pins σ H1 s1 ee s' I1 hq
  | .ok (.ret u), hq => exact I1.after hq
  | .ok .next, hq => exact hq.elim
  | .ok .brk, hq => exact hq.elim
  | .ok .cont, hq => exact hq.elim
end

/-! ### repr of data -/
section
variable {X : Cx}
/-- what repr asks of a datum that stands at v -/
def rRepr (K : PySem.W.Frag) : List V → Hp → VK → Prop := fun xs H Q => ∃ v d, xs = [v] ∧ Dp K H v d ∧
  d.showable = true ∧ d.hasDict = false ∧ d.depth ≤ 60 ∧ d.shown.length ≤ sizeLine ∧ Q (.str d.shown) H
theorem call_reprD (hg : X.A.guards = some []) (hu : X.A.units + 64 < cLine) : CallR X (.builtin "repr") (rRepr X.K) := by
  intro pins s σ H xs us Q I r h
  obtain ⟨v, d, rfl, hd, hs, hn, hdp, hl, q⟩ := h
  obtain ⟨u, rfl, ru⟩ := vals1 r
  cases hd with
  | non => cases ru; exact PySem.P.repr_of_none ⟨.str _, H, I.tok _, ⟨_, rfl⟩, q⟩
  | bl b => cases ru; exact PySem.P.repr_of_bool ⟨.str _, H, I.tok _, ⟨_, rfl⟩, q⟩
  | int i => obtain ⟨t, rfl⟩ := ru; exact PySem.P.repr_of_int (by simpa [PyData.showable] using hs) ⟨.str _, H, I.tok _, ⟨_, rfl⟩, q⟩
  | str x => obtain ⟨t, rfl⟩ := ru; exact PySem.P.repr_of_str ⟨.str _, H, I.tok _, ⟨_, rfl⟩, q⟩ (by simpa [PyData.shown] using hl)
  | lst h1 h2 =>
    cases ru
    obtain ⟨as, rd⟩ := Dp.reads I _ _ _ (Dp.lst h1 h2) rfl
    exact repr_of_reads' rd hs (fun z => by rw [hn] at z; cases z) hg (by omega) (fun _ _ z => z) (fun h' u tk hk => ⟨.str _, H, I.kept hk, ⟨_, rfl⟩, q⟩) hl
  | tup h1 h2 =>
    cases ru
    obtain ⟨as, rd⟩ := Dp.reads I _ _ _ (Dp.tup h1 h2) rfl
    exact repr_of_reads' rd hs (fun z => by rw [hn] at z; cases z) hg (by omega) (fun _ _ z => z) (fun h' u tk hk => ⟨.str _, H, I.kept hk, ⟨_, rfl⟩, q⟩) hl
end
/-! ### the end: the law's call, from a promise of this kind -/
theorem endG {l : PySem.W.OpenLaw} {n k : Nat} {q : Program} {loose : List Str} {XP : (Str → Option Value) → Heap → Prop}
    {YP : World → Heap → Prop} {d : DefRec} {K : Params → PySem.W.Frag} {sp : World → Sp} {x : Str}
    (hn : l.most = some n) (hn2 : n ≤ sizeLine) (hdf : d.params.defaults = []) (hr : RG k callerA)
    (hY : ∀ (w : World) (h : Heap), YP w h → (K w.params).In h)
    (F : ∀ (w : World) (mg : Str → Option Value) (fa : Addr) (h : Heap), (K w.params).In h → h.Ns mainGlobals mg →
      mg d.name = some (.ref fa) → ∃ fd : FuncData, (∀ (s : Shared) (u : Value), BindsTo s fd ⟨[u], []⟩ [(x, u)]) ∧
        ∀ base : Heap, (K w.params).In base → base.Ns mainGlobals mg → FnG l.prog w (K w.params) mg base CX0 k fa fd [x] (sp w))
    (hsp : ∀ (w : World) (H : Hp) (a : Addr) (ns : List Int), ns.length ≤ n → (∀ z ∈ ns, Builtin.Int.intBits z ≤ 1048576) →
      Only H → SqL (K w.params) H a (ns.map V.int) → sp w [.ref a] H (fun v _ => v = .bl true) E0) :
    PySem.W.WalkO q loose XP YP l.row.toRowW d [] (fun f vs => PySem.call f vs) := by
  refine Att.attach_callB hn hdf fun w s₀ s1 mg mb fa o pm cd doc a us ns G Y ho hd hcd hmg obj hints nlen bits gens => ?_
  have inK : (K w.params).In s1.heap := hY w _ Y
  obtain ⟨fd, bind, hF⟩ := F w mg fa _ inK G.T.g hmg
  have rv := vals_ints hints
  have nv : us.length = ns.length := hints.length
  have go : ∀ H : Hp, Only H → SqL (K w.params) H a (ns.map V.int) → HOk l.prog w H s1.heap → (∀ b, H b ≠ none → b = a) →
      (H a ≠ none → (K w.params).lookup a = none) → codeAny (model l.prog w) callerA (.call (.ref fa) ⟨[.ref a], []⟩)
        (fun r s' => r = .ok (.ret (.bool true)) ∧ OldK s1.heap s'.heap ∧ s'.os = s1.os ∧ AllBare s'.gens) s1 := by
    intro H only hS hok atA offK
    have none_or : ∀ b, H b = none ∨ b = a := fun b => by
      cases z : H b with
      | none => exact .inl rfl
      | some u => exact .inr (atA b (by rw [z]; intro y; cases y))
    have left : ∀ {b : Addr} {o : Obj}, s1.heap.get? b = some o → H b = none → (hidT s1.heap H).get? b = some o :=
      fun e z => hidT_get e z
    have notA : ∀ {b : Addr} {o : Obj} {es : Array DictEntry} {ep : Nat},
        s1.heap.get? b = some o → o.data = .dict es ep → H b = none := fun {b o es ep} e z => by
      rcases none_or b with y | rfl
      · exact y
      · rw [obj] at e
        cases e
        cases (show Data.seq us.toArray _ = Data.dict es ep from z)
    have spaces : ∀ {b : Addr} {m : Str → Option Value}, s1.heap.Ns b m → (hidT s1.heap H).Ns b m :=
      fun {b m} ⟨o, es, ep, e, z, r⟩ => ⟨o, es, ep, left e (notA e z), z, r⟩
    have inB : (K w.params).In (hidT s1.heap H) := fun b o e => left (inK b o e) (by
      rcases none_or b with y | rfl
      · exact y
      · cases z : H b with
        | none => rfl
        | some u =>
          rw [offK (by rw [z]; intro y; cases y)] at e
          cases e)
    have md : Mod (K w.params) mg (hidT s1.heap H) := by
      obtain ⟨mc, c1, c2⟩ := G.T.nolimit
      exact ⟨inB, spaces G.T.g, ⟨mb, spaces G.T.b, G.T.builtins⟩, ⟨mc, spaces c1, c2⟩⟩
    have e0 : Env0 l.prog w (K w.params) mg (hidT s1.heap H) callerA [] s1 H :=
      ⟨rfl, md, fun b o e => of_hidT e, Nat.le_of_eq (hidT_size _ _), trivial, fun b z => (nomatch z), hok, .of_eq gens⟩
    have run := (hF _ inB (spaces G.T.g)).run callerA [] s1 H ⟨[.ref a], []⟩ [.ref a] [.ref a] _ _ hr e0
      (bind s1 (.ref a)) (.cons rfl .nil) (hsp w H a ns nlen bits only hS)
    refine codeAny_mono run fun res s' h => ?_
    match res, h with
    | .error e, h => exact h.elim
    | .ok .next, h => exact h.elim
    | .ok .brk, h => exact h.elim
    | .ok .cont, h => exact h.elim
    | .ok (.ret u), ⟨v, H', os, bare, un, hok', r', q⟩ =>
      have q' : v = .bl true := q
      subst q'
      have r2 : u = Value.bool true := r'
      subst r2
      refine ⟨rfl, OldK.of_keep fun b o e => ?_, os, bare⟩
      cases z : H b with
      | none => exact un.keep b o e z (fun y => (nomatch y)) (fun y => (nomatch y))
      | some u =>
        rcases only b with y | ⟨ob, xs, y⟩
        · rw [z] at y
          cases y
        · obtain ⟨e1, _⟩ := hok b _ y
          obtain ⟨e2, _⟩ := hok' b _ (un.frzs b ob _ y)
          rw [e] at e1
          cases e1
          exact e2
  have small : ns.length ≤ sizeLine := Nat.le_trans nlen hn2
  cases hk : (K w.params).lookup a with
  | some o =>
    have e := inK a o hk
    rw [obj] at e
    cases e
    refine go (fun _ => none) (fun _ => .inl rfl) (.inr ⟨_, us.toArray, _, hk, rfl, rfl, rfl, ?_, by simpa using rv⟩)
      (fun b u z => nomatch z) (fun b z => absurd rfl z) fun z => absurd rfl z
    rw [List.size_toArray, nv]
    exact small
  | none =>
    let ob : Obj := { cls := .type "list", data := .seq us.toArray }
    have at_ : ∀ b, (fun c => if c = a then some (HO.frz ob (.lst (ns.map V.int))) else none : Hp) b ≠ none → b = a := fun b z => by
      by_cases y : b = a
      · exact y
      · exact absurd (if_neg y) z
    refine go (fun c => if c = a then some (.frz ob (.lst (ns.map V.int))) else none) (fun b => ?_) (.inl (.inr ⟨ob, if_pos rfl⟩))
      (fun b u z => ?_) at_ fun _ => hk
    · by_cases y : b = a
      · exact .inr ⟨_, _, if_pos y⟩
      · exact .inl (if_neg y)
    · obtain rfl := at_ b (by rw [z]; intro y; cases y)
      have z' := (if_pos rfl).symm.trans z
      cases z'
      exact ⟨obj, by rw [List.length_map]; exact small, us, _, rv, obj⟩
end Cl

namespace Cl
open PySem PySem.Spec PyProof.Rows L2
/-- what stood there stands there; a code object's table may have grown -/
def Keep (x : Option HO) (o : HO) : Prop := match o with
  | .tbl ps => TriplesOk ps.toList → ∃ ps' : Array Value, x = some (.tbl ps') ∧ TriplesOk ps'.toList
  | o => x = some o
theorem Keep.of {x : Option HO} {o : HO} (h : x = some o) : Keep x o := by
  cases o <;> first | exact h | exact fun t => ⟨_, h, t⟩
def Same (H H' : Hp) : Prop := ∀ b o, H b = some o → Keep (H' b) o
theorem Same.refl (H : Hp) : Same H H := fun _ _ e => .of e
theorem Same.trans {H H1 H2 : Hp} (a : Same H H1) (b : Same H1 H2) : Same H H2 := fun c o h => by
  have k := a c o h
  cases o with
  | tbl ps => exact fun t => let ⟨ps1, e1, t1⟩ := k t; b c (.tbl ps1) e1 t1
  | _ => exact b c _ k
theorem Same.upN {H H' : Hp} {p : Addr} {o : HO} (s : Same H H') (h : H p = none) : Same H (upd H' p o) := fun b x e => by
  rw [upd_ne (ne_of_none e h)]
  exact s b x e
theorem same_new {H : Hp} {p : Addr} {o : HO} (h : H p = none) : Same H (upd H p o) := (Same.refl H).upN h
/-- what is handed on where a new object stands at its place -/
def New (H : Hp) (o : HO) (Q : VK) : Prop := ∀ p H', H p = none → Same H H' → H' p = some o → Q (.ref p) H'
theorem New.go {H : Hp} {o : HO} {Q : VK} (h : New H o Q) : ∀ p, H p = none → Q (.ref p) (upd H p o) :=
  fun p n => h p _ n (same_new n) upd_same
section
variable {X : Cx} {e : Expr} {te : TE}
theorem valsRev : ∀ {xs : List V} {us : List Value}, Vals xs us → Vals xs.reverse us.reverse
  | _, _, .nil => .nil
  | _, _, .cons r t => by
    rw [List.reverse_cons, List.reverse_cons]
    exact (valsRev t).append (.cons r .nil)
/-- xs[::-1] of a list -/
def tRevL (K : PySem.W.Frag) (te : TE) : TE := fun σ H Q => te σ H fun x H1 => ∃ a xs, x = .ref a ∧ SqL K H1 a xs ∧ New H1 (.lst xs.reverse) Q
theorem pe_revL {p0 p1 p2 pos : Pos} {j : Nat} (he : PE X e te) :
    PE X (.Subscript e (.Slice none none (some (.UnaryOp .USub (.Constant (.int 1) j p0) p1)) p2) pos) (tRevL X.K te) := by
  constructor
  intro pins s σ H Q I h
  refine Subscript_ (thn (he.run pins s σ H _ I h) fun v s1 ⟨x, H1, I1, r1, a, xs, hx, hl, q⟩ => ?_)
  subst hx
  cases r1
  refine wpAny_Slice ?_
  rw [evalPart_none]
  refine wpAny_pure ?_
  refine wpAny_pure ?_
  rw [evalPart_some]
  have hneg : PE X (.UnaryOp .USub (.Constant (.int 1) j p0) p1) _ := pe_un un_neg pe_int
  refine thn (hneg.run pins s1 σ H1 (fun y H2 => y = .int (-1) ∧ H2 = H1) I1 ⟨1, rfl, rfl, rfl⟩) fun u s2 ⟨y, H2, I2, ry, hy, hH⟩ => ?_
  subst hy hH
  obtain ⟨t, rfl⟩ := ry
  obtain ⟨its, r, ht, hz⟩ := I2.list hl
  have I4 : Inv X pins σ H2 { s2 with heap := s2.heap.push { cls := .type "slice", data := .fields #[.none, .none, .int (-1) t] } } :=
    I2.kept (t' := s2.toks) fun b ob q => Heap.get?_push_of_some _ q
  obtain ⟨its, r, ht, hz⟩ := I4.list hl
  have hlen := r.length
  refine tail_any ht.isList.typeIs slot_list_getitem.lookup ?_ (by with_unfolding_all rfl)
  refine wpAny_getItem_list_slice ht.isList (Heap.IsSliceOf.new ..) .none .none (.int (-1) t) (by decide) ?_ (by rw [List.size_toArray] <;> omega)
  rw [PySem.W.krv_pick]
  refine ⟨.ref _, _, I4.laid (t' := s2.toks) (o := .lst xs.reverse) (fun b ob q => Heap.get?_push_of_some _ q) (Nat.le_refl _) ?_, rfl, q.go _ (I4.hok.fresh (Nat.le_refl _))⟩
  exact ⟨by rw [List.length_reverse]; exact hz, _, 0, valsRev r, Heap.get?_push_size _ rfl⟩
end
end Cl

namespace Cl
open PySem PySem.Spec PyProof.Rows L2

/-! ### a def of the text, with its promise -/
structure Def (P : Program) (w : World) (K : PySem.W.Frag) (mg : Str → Option Value) (base : Heap)
    (k : Nat) (x : Str) (ps : List Str) (sp : Sp) : Prop where
  ex : ∃ f fd, FnG P w K mg base CX0 k f fd ps sp ∧ mg x = some (.ref f) ∧
    PySem.W.keepIn K (.ref f) = true ∧ Binds K fd ps []
section
variable {X : Cx} {k : Nat} {ps : List Str} {sp : Sp} {x : Str} {p pos : Pos} {e : Expr} {es : List Expr} {t : TA}
theorem callD (D : Def X.prog X.w X.K X.mg X.base k x ps sp) (hr : RG k X.A) (ha : PA X (e :: es) t)
    (hg : Gl X x := by rfl) (hdb : (x == ("__debug__" : Str)) = false := by decide)
    (he : starEach (e :: es) X.env = (false, eval e X.env) :: starEach es X.env := by rfl)
    (hpl : (backTo pos (starEach es X.env)).any (·.1) = false := by rfl) :
    PE X (.Call (.Name x p) (e :: es) [] pos) (tCall sp [] E0 t) := by
  obtain ⟨f, fd, F, hm, hk, hb⟩ := D.ex
  exact callG F hr hg hm hk hb .nil pass0 ha hdb he hpl
end
section
variable {P : Program} {w : World} {K : PySem.W.Frag} {mg : Str → Option Value} {base : Heap}
theorem Def.mk1 {k : Nat} {x qual : Str} {st : Stmt} {f : Addr} {fd : FuncData} {ps : List Str} {sp : Sp}
    (F : Fun K x qual st f fd) (G : FnG P w K mg base CX0 k f fd ps sp) (hm : mg x = some (.ref f))
    (b : Binds K fd ps []) : Def P w K mg base k x ps sp := ⟨f, fd, G, hm, F.kp, b⟩
end

/-! ### heaps -/
theorem Same.rfl' {H : Hp} : Same H H := .refl H
/-! ### rules that hand on a heap in which a new object stands -/
section
variable {X : Cx} {es : List Expr} {e : Expr} {t : TA} {te : TE} {pos : Pos}
def tTupN (t : TA) : TE := fun σ H Q => t σ H fun xs H1 => xs.length ≤ sizeLine ∧ New H1 (.tup xs) Q
def tLstN (t : TA) : TE := fun σ H Q => t σ H fun xs H1 => xs.length ≤ sizeLine ∧ New H1 (.lst xs) Q
theorem tupN {j} (h : PA X es t) : PE X (.Tuple es j pos) (tTupN t) := by
  constructor
  intro pins s σ H Q I hq
  refine wpAny_Tuple_spliced ?_
  refine thn (h.run pos pins s σ H _ I hq) fun us s1 ⟨xs, H1, I1, r, z, q⟩ => ⟨by rw [← r.length]; exact z, ?_⟩
  refine ⟨.ref s1.heap.objs.size, _, I1.laid (t' := s1.toks) (o := .tup xs) (fun b u e => Heap.get?_push_of_some _ e) (Nat.le_refl _) ?_, rfl,
    q.go _ (I1.hok.fresh (Nat.le_refl _))⟩
  exact ⟨z, us, r, ⟨_, Heap.get?_push_size _ rfl, rfl, _, rfl⟩⟩
theorem lstN (h : PA X es t) : PE X (.List es pos) (tLstN t) := by
  constructor
  intro pins s σ H Q I hq
  refine wpAny_List_spliced ?_
  refine thn (h.run pos pins s σ H _ I hq) fun us s1 ⟨xs, H1, I1, r, z, q⟩ => ⟨by rw [← r.length]; exact z, ?_⟩
  refine ⟨.ref s1.heap.objs.size, _, I1.laid (t' := s1.toks) (o := .lst xs) (fun b u e => Heap.get?_push_of_some _ e) (Nat.le_refl _) ?_, rfl,
    q.go _ (I1.hok.fresh (Nat.le_refl _))⟩
  exact ⟨z, us, 0, r, Heap.get?_push_size _ rfl⟩
def rSlLN (K : PySem.W.Frag) : V → Option Int → Option Int → Hp → VK → Prop := fun x lo hi H Q =>
  ∃ a xs, x = .ref a ∧ SqL K H a xs ∧ New H (.lst (cutV xs lo hi)) Q
theorem sl_listN : SlR X (rSlLN X.K) := fun pins s σ H x v vl vu lo hi sl Q I rx hs pl pu ⟨a, xs, h1, h2, q⟩ =>
  sl_list pins s σ H x v vl vu lo hi sl Q I rx hs pl pu ⟨a, xs, h1, h2, q.go⟩
def rSlTN (K : PySem.W.Frag) : V → Option Int → Option Int → Hp → VK → Prop := fun x lo hi H Q =>
  ∃ a xs, x = .ref a ∧ SqT K H a xs ∧ ¬ (HT.sIx xs.length 0 lo = 0 ∧ HT.sIx xs.length xs.length hi = xs.length) ∧ New H (.tup (cutV xs lo hi)) Q
theorem sl_tupN : SlR X (rSlTN X.K) := fun pins s σ H x v vl vu lo hi sl Q I rx hs pl pu ⟨a, xs, h1, h2, h3, q⟩ =>
  sl_tup pins s σ H x v vl vu lo hi sl Q I rx hs pl pu ⟨a, xs, h1, h2, h3, q.go⟩
theorem call_list_ofN : CallR X (.type "list") (fun xs H Q => ∃ p ys, xs = [.ref p] ∧ (SqL X.K H p ys ∨ SqT X.K H p ys) ∧ New H (.lst ys) Q) :=
  fun pins s σ H xs us Q I r ⟨p, ys, h1, h2, q⟩ => call_list_of pins s σ H xs us Q I r ⟨p, ys, h1, h2, q.go⟩
end
/-! ### cuts: what stands between two statements, or behind a part, by a word of one's own -/
section
variable {X : Cx} {st : Stmt} {rest : List Stmt} {t u : TS} {e : Expr} {te : TE} {tt : TT}
def tCut (t u : TS) : TS := fun D σ H => ∃ M : L2.St → Hp → Prop, t { D with nx := M } σ H ∧ ∀ σ' H', M σ' H' → u D σ' H'
theorem cutS (h1 : PS X st t) (h2 : PSs X rest u) : PSs X (st :: rest) (tCut t u) := by
  constructor
  rintro pins s σ H D I ⟨M, h, k⟩
  refine wpAny_execs_cons (thn (h1.run pins s σ H _ I h) fun f s1 q => ?_)
  match f, q with
  | .next, ⟨σ', H', I', q⟩ => exact h2.run pins s1 σ' H' D I' (k _ _ q)
  | .ret v, q => exact q
  | .brk, q => exact q
  | .cont, q => exact q
def tMid (te : TE) : TE := fun σ H Q => ∃ M : VK, te σ H M ∧ ∀ v H', M v H' → Q v H'
theorem cutE (h : PE X e te) : PE X e (tMid te) := ⟨fun pins s σ H Q I ⟨M, h1, k⟩ =>
  thn (h.run pins s σ H M I h1) fun v s1 ⟨x, H1, I1, r1, q1⟩ => ⟨x, H1, I1, r1, k _ _ q1⟩⟩
def tMidT (tt : TT) : TT := fun σ H Q => ∃ M : Bool → Hp → Prop, tt σ H M ∧ ∀ b H', M b H' → Q b H'
theorem cutT (h : PT X e tt) : PT X e (tMidT tt) := ⟨fun pins s σ H Q I ⟨M, h1, k⟩ =>
  thn (h.run pins s σ H M I h1) fun b s1 ⟨H1, I1, q1⟩ => ⟨H1, I1, k _ _ q1⟩⟩
end
def lcL {K : PySem.W.Frag} {a : Addr} {xs : List V} {g : TG} {tt : TT} {te : TE} {vs : List Nat} {σ : L2.St} {H1 : Hp} {D : Addr} {Qd : Hp → Prop}
    (Pv : Nat → Hp → Prop) (hD : H1 D = none) (h0 : ∀ H', Same H1 H' → H' D = some (.lst []) → Pv 0 H') (hl : ∀ i H, i ≤ xs.length → Pv i H → SqL K H a xs)
    (hs : ∀ i x H, xs[i]? = some x → Pv i H → g x (wipe σ vs) H fun σ2 H2 => wipe σ2 vs = wipe σ vs ∧ tt σ2 H2 fun b H3 =>
      if b = true then te σ2 H3 fun y H4 => ∃ acc, H4 D = some (.lst acc) ∧ acc.length < sizeLine ∧ Pv (i + 1) (upd H4 D (.lst (acc ++ [y]))) else Pv (i + 1) H3)
    (hd : ∀ H, Pv xs.length H → Qd H) :=
  lc_list (K := K) (a := a) (xs := xs) (g := g) (tt := tt) (te := te) (vs := vs) (σ := σ) (H1 := H1) (D := D) (Qd := Qd) Pv (h0 _ (same_new hD) upd_same) hl hs hd
def lcT {K : PySem.W.Frag} {a : Addr} {xs : List V} {g : TG} {tt : TT} {te : TE} {vs : List Nat} {σ : L2.St} {H1 : Hp} {D : Addr} {Qd : Hp → Prop}
    (Pv : Nat → Hp → Prop) (hD : H1 D = none) (h0 : ∀ H', Same H1 H' → H' D = some (.lst []) → Pv 0 H') (hl : ∀ i H, i ≤ xs.length → Pv i H → SqT K H a xs)
    (hs : ∀ i x H, xs[i]? = some x → Pv i H → g x (wipe σ vs) H fun σ2 H2 => wipe σ2 vs = wipe σ vs ∧ tt σ2 H2 fun b H3 =>
      if b = true then te σ2 H3 fun y H4 => ∃ acc, H4 D = some (.lst acc) ∧ acc.length < sizeLine ∧ Pv (i + 1) (upd H4 D (.lst (acc ++ [y]))) else Pv (i + 1) H3)
    (hd : ∀ H, Pv xs.length H → Qd H) :=
  lc_tup (K := K) (a := a) (xs := xs) (g := g) (tt := tt) (te := te) (vs := vs) (σ := σ) (H1 := H1) (D := D) (Qd := Qd) Pv (h0 _ (same_new hD) upd_same) hl hs hd
/-- the heap without the deck -/
def hide (d l : Addr) (H : Hp) : Hp := fun b => if b = d ∨ b = l then none else H b
theorem hide_at {d l b : Addr} {H : Hp} {o : HO} (h : hide d l H b = some o) : b ≠ d ∧ b ≠ l ∧ H b = some o := by
  unfold hide at h
  split at h
  · cases h
  · rename_i n
    exact ⟨fun e => n (.inl e), fun e => n (.inr e), h⟩
theorem hide_ne {d l b : Addr} {H : Hp} (h1 : b ≠ d) (h2 : b ≠ l) : hide d l H b = H b := by
  unfold hide
  rw [if_neg]
  rintro (e | e)
  · exact h1 e
  · exact h2 e
/-- the deck stands: a list of the script's rest, its number, its count -/
structure Deck (H : Hp) (d l : Addr) : Prop where
  ne : d ≠ l
  ex : ∃ (ns : List Int) (s c : Int), H d = some (.lst [.ref l, .int s, .int c]) ∧ H l = some (.lst (ns.map V.int)) ∧ ns.length ≤ 63
/-- the deck still stands, and all else that stood stands -/
structure Step (d l : Addr) (H H' : Hp) : Prop where
  deck : Deck H' d l
  same : Same (hide d l H) (hide d l H')
section
variable {d l p a : Addr} {H H' H2 : Hp} {o : HO} {K : PySem.W.Frag} {xs : List V}
theorem Deck.nd (D : Deck H d l) (h : H p = none) : p ≠ d ∧ p ≠ l := by
  obtain ⟨ns, s, c, h1, h2, _⟩ := D.ex
  exact ⟨(ne_of_none h1 h).symm, (ne_of_none h2 h).symm⟩
theorem Step.refl (D : Deck H d l) : Step d l H H := ⟨D, .refl _⟩
theorem Step.trans (A : Step d l H H') (B : Step d l H' H2) : Step d l H H2 := ⟨B.deck, A.same.trans B.same⟩
theorem Same.hide (S : Same H H') : Same (Cl.hide d l H) (Cl.hide d l H') := fun b x e => by
  obtain ⟨e1, e2, e3⟩ := hide_at e
  rw [hide_ne e1 e2]
  exact S b x e3
theorem Step.of (D : Deck H d l) (S : Same H H') : Step d l H H' := by
  obtain ⟨ns, s, c, h1, h2, h3⟩ := D.ex
  exact ⟨⟨D.ne, ns, s, c, S _ _ h1, S _ _ h2, h3⟩, S.hide⟩
theorem Step.new (D : Deck H d l) (h : H p = none) : Step d l H (upd H p o) := Step.of D (same_new h)
/-- a new object ahead of a step is there behind it -/
theorem Step.at (S : Step d l H H') (h1 : p ≠ d) (h2 : p ≠ l) (h : H p = some o) : Keep (H' p) o := by
  have e := S.same p o (by rw [hide_ne h1 h2]; exact h)
  rw [hide_ne h1 h2] at e
  exact e
theorem Step.tupH (S : Step d l H H') (D : Deck H d l) (h : H p = some (.tup xs)) : H' p = some (.tup xs) := by
  obtain ⟨ns, s, c, h1, h2, h3⟩ := D.ex
  exact S.at (ne_of h h1 (by intro z; cases z)) (ne_of h h2 (by intro z; cases z)) h
end
theorem dropLast_map (ns : List Int) : (ns.map V.int).dropLast = ns.dropLast.map V.int := by
  rw [List.map_dropLast]

/-! ### promises of the deck's defs -/
def spDeck (K : PySem.W.Frag) : Sp := fun vs H Q _ => ∃ (a : Addr) (ns : List Int), vs = [.ref a] ∧ SqL K H a (ns.map V.int) ∧ ns.length ≤ 63 ∧
  ∀ d l H', Same H H' → Deck H' d l → Q (.ref d) H'
def spDraw : Sp := fun vs H Q _ => ∃ (d l : Addr) (m : Int), vs = [.ref d, .int m] ∧ 0 < m ∧ m < 2 ^ 64 ∧ Deck H d l ∧
  ∀ v H', 0 ≤ v → v < m → Step d l H H' → Q (.int v) H'
theorem mulc {a b : Int} (h : -(2 ^ 64) < a ∧ a < 2 ^ 64) : CMul a b := .inl h
theorem mulr {a b : Int} (h : -(2 ^ 64) < b ∧ b < 2 ^ 64) : CMul a b := .inr h
theorem modlt {a m : Int} (h : 0 < m) (h2 : m ≤ 2 ^ 64) : -(2 ^ 64) < a % m ∧ a % m < 2 ^ 64 := by
  have := Int.emod_nonneg a (show m ≠ 0 by omega)
  have := Int.emod_lt_of_pos a h
  omega
theorem shapedInts (ns : List Int) : SeqAt.shaped (.list (ns.map PyData.int)) = true := by
  have h1 : ∀ ns : List Int, PyData.canLayAll0 (ns.map PyData.int) = true := by
    intro ns
    induction ns with
    | nil => rfl
    | cons n r ih => simp [PyData.canLayAll0, PyData.canLay0, ih]
  have h2 : ∀ ns : List Int, PyData.depthAll (ns.map PyData.int) = 0 := by
    intro ns
    induction ns with
    | nil => rfl
    | cons n r ih => simp [PyData.depthAll, PyData.depth, ih]
  simp [SeqAt.shaped, PyData.canLay0, PyData.depth, h1, h2]
theorem dpInts {K : PySem.W.Frag} {H : Hp} : ∀ ns : List Int, DpAll K H (ns.map V.int) (ns.map PyData.int)
  | [] => .nil
  | n :: r => .cons (.int n) (dpInts r)
theorem eqvNil (ns : List Int) : PyData.eqv (.list (ns.map PyData.int)) (.list []) = ns.isEmpty := by
  cases ns <;> simp [PyData.eqv, PyData.eqvAll]

/-! ### data whose repr is short -/
structure Fine (d : PyData) : Prop where
  lv : d.leavesShort 200 = true
  sh : d.showable = true
  nd : d.hasDict = false
  dp : d.depth ≤ 60
  bk : d.bulk ≤ 80000
def okI (i : Int) : Prop := i.natAbs < 2 ^ 190
theorem okI.log {i : Int} (h : okI i) : i.natAbs.log2 < 190 := PySem.Flt.log2_lt_of (by decide) h
theorem okI.len {i : Int} (h : okI i) : (PyData.shown (.int i)).length ≤ 200 := by
  have e := int_text_length_le (k := 190) (by decide) h.log
  show (Str.ofString (toString i)).length ≤ 200
  rw [PySem.ofString_length]
  omega
theorem okI.of {i : Int} (h1 : -(2 ^ 189) < i) (h2 : i < 2 ^ 189) : okI i := by
  unfold okI
  omega
def rReprF (K : PySem.W.Frag) : List V → Hp → VK → Prop := fun xs H Q => ∃ v d, xs = [v] ∧ Dp K H v d ∧ Fine d ∧ Q (.str d.shown) H
theorem call_repr {X : Cx} (hg : X.A.guards = some []) (hu : X.A.units + 64 < cLine) : CallR X (.builtin "repr") (rReprF X.K) :=
  fun pins s σ H xs us Q I r ⟨v, d, h1, h2, f, q⟩ => call_reprD hg hu pins s σ H xs us Q I r ⟨v, d, h1, h2, f.sh, f.nd, f.dp, by
    have e := PyData.shown_le_bulk 200 (by decide) d f.lv
    have e2 := f.bk
    have e3 : sizeLine = 16777216 := by decide
    omega, q⟩
theorem fineInts2 {i j : Int} (h1 : okI i) (h2 : okI j) : Fine (.tuple [.int i, .int j]) := by
  have a1 := h1.len
  have a2 := h2.len
  have b1 : i.natAbs.log2 < 1920 := by have := h1.log; omega
  have b2 : j.natAbs.log2 < 1920 := by have := h2.log; omega
  constructor
  · simp [PyData.leavesShort, PyData.leavesShortAll, a1, a2]
  · simp [PyData.showable, PyData.showableAll, b1, b2]
  · rfl
  · simp [PyData.depth, PyData.depthAll]
  · simp [PyData.bulk, PyData.bulkAll]
theorem fineBool (b : Bool) : Fine (.bool b) := by constructor <;> first | rfl | (cases b <;> decide)
end Cl

namespace Cl
open PySem PySem.Spec PyProof.Rows L2
/-! ### the nearest whole number -/
def nr (n d : Int) : Int := (2 * n + d) / (2 * d)
theorem nr_law {n g : Int} (h : 0 < g) : nr n g = if 2 * n < (2 * (n / g) + 1) * g then n / g else n / g + 1 := by
  have e1 := Int.mul_ediv_add_emod n g
  have e2 := Int.emod_nonneg n (show g ≠ 0 by omega)
  have e3 := Int.emod_lt_of_pos n h
  generalize n / g = k at *
  generalize n % g = r at *
  subst e1
  unfold nr
  have c1 : (2 * k + 1) * g = 2 * (g * k) + g := by rw [Int.add_mul, Int.mul_assoc, Int.mul_comm k g]; omega
  have c2 : 2 * (g * k + r) + g = (2 * r + g) + (2 * g) * k := by rw [Int.mul_assoc 2 g k]; omega
  rw [c1, c2, Int.add_mul_ediv_left _ _ (show 2 * g ≠ 0 by omega)]
  split
  · rw [Int.ediv_eq_zero_of_lt (by omega) (by omega)]; omega
  · have c3 : 2 * r + g = (2 * r - g) + (2 * g) * 1 := by omega
    rw [c3, Int.add_mul_ediv_left _ _ (show 2 * g ≠ 0 by omega), Int.ediv_eq_zero_of_lt (by omega) (by omega)]; omega
theorem nr_move {n d g : Int} (h : 0 < g) : nr (n + d * g) g = nr n g + d := by
  unfold nr
  have c : 2 * (n + d * g) + g = (2 * n + g) + (2 * g) * d := by
    rw [Int.mul_add, Int.mul_assoc 2 g d, Int.mul_comm d g]; omega
  rw [c, Int.add_mul_ediv_left _ _ (show 2 * g ≠ 0 by omega)]
theorem nr_times {n g t : Int} (ht : 0 < t) : nr (n * t) (g * t) = nr n g := by
  unfold nr
  have c1 : 2 * (n * t) + g * t = (2 * n + g) * t := by rw [Int.add_mul, Int.mul_assoc]
  have c2 : 2 * (g * t) = (2 * g) * t := by rw [Int.mul_assoc]
  rw [c1, c2, Int.mul_ediv_mul_of_pos_left _ _ ht]
theorem nr_ok {n g B : Int} (h : 0 < g) (h1 : -B < n) (h2 : n < B) (hB : 0 < B) : -(B + 1) ≤ nr n g ∧ nr n g ≤ B + 1 := by
  unfold nr
  have hg : 0 < 2 * g := by omega
  constructor
  · refine Int.le_ediv_of_mul_le hg ?_
    have : B * 1 ≤ B * g := Int.mul_le_mul_of_nonneg_left (by omega) (by omega)
    have e : -(B + 1) * (2 * g) = -(2 * (B * g)) - 2 * g := by rw [Int.neg_mul, Int.add_mul, Int.mul_left_comm B 2 g]; omega
    rw [e]; omega
  · refine Int.ediv_le_of_le_mul hg ?_
    have : B * 1 ≤ B * g := Int.mul_le_mul_of_nonneg_left (by omega) (by omega)
    have e : (B + 1) * (2 * g) = 2 * (B * g) + 2 * g := by rw [Int.add_mul, Int.mul_left_comm B 2 g]; omega
    rw [e]; omega
def spNear : Sp := fun vs H Q _ => ∃ n d : Int, vs = [.int n, .int d] ∧ 0 < d ∧ d < 2 ^ 60 ∧ Q (.int (nr n d)) H
def spCorner (K : PySem.W.Frag) : Sp := fun vs H Q _ => ∃ (g : Int) (a : Addr) (x y : Int), vs = [.int g, .ref a] ∧ SqT K H a [.int x, .int y] ∧ 0 < g ∧ g < 2 ^ 60 ∧
  New H (.tup [.int (nr x g), .int (nr y g)]) Q

def spLaw (K : PySem.W.Frag) : Sp := fun vs H Q _ => ∃ (a : Addr) (ns : List Int), vs = [.ref a] ∧ SqL K H a (ns.map V.int) ∧ ns.length ≤ 63 ∧ ∀ H', Q (.bl true) H'
section
variable {X : Cx}
def CDivX (_ j : Int) : Prop := j ≠ 0 ∧ j.natAbs.log2 < 9000
theorem op_fdivX : OpR X (binaryOp .FloorDiv) (rI CDivX fun i j => .int (i.fdiv j)) :=
  opI fun i j _ _ _ _ _ hc q => floordiv_int hc.1 q (.inl (PyProof.noPylong_of_log2 hc.2))
end
/-! ### the greatest number that parts -/
def spGp : Sp := fun vs H Q _ => ∃ n m : Int, vs = [.int n, .int m] ∧ Q (.int (Int.gcd n m : Nat)) H
def gpar (n m d : Int) : Int := (Int.gcd (Int.gcd n m : Nat) d : Nat)
def spP (n m d : Int) : Int := if d < 0 then -gpar n m d else gpar n m d
def spSpotOf : Sp := fun vs H Q _ => ∃ n m d : Int, vs = [.int n, .int m, .int d] ∧ d ≠ 0 ∧ d.natAbs < 2 ^ 200 ∧
  New H (.tup [.int (n / spP n m d), .int (m / spP n m d), .int (d / spP n m d)]) Q
theorem gpar_dvd (n m d : Int) : gpar n m d ∣ n ∧ gpar n m d ∣ m ∧ gpar n m d ∣ d := by
  unfold gpar
  have h1 : (Int.gcd (Int.gcd n m : Nat) d : Int) ∣ (Int.gcd n m : Nat) := Int.gcd_dvd_left ..
  refine ⟨Int.dvd_trans h1 (Int.gcd_dvd_left ..), Int.dvd_trans h1 (Int.gcd_dvd_right ..), Int.gcd_dvd_right ..⟩
theorem gpar_pos {n m d : Int} (h : d ≠ 0) : 0 < gpar n m d := by
  unfold gpar
  have : 0 < Int.gcd (Int.gcd n m : Nat) d := Int.gcd_pos_of_ne_zero_right _ h
  omega
theorem gpar_le {n m d : Int} (h : d ≠ 0) : gpar n m d ≤ d.natAbs := by
  have := (gpar_dvd n m d).2.2
  have h2 : gpar n m d ∣ (d.natAbs : Int) := Int.dvd_natAbs.mpr this
  exact Int.le_of_dvd (by omega) h2
theorem spP_dvd (n m d : Int) : spP n m d ∣ n ∧ spP n m d ∣ m ∧ spP n m d ∣ d := by
  obtain ⟨h1, h2, h3⟩ := gpar_dvd n m d
  unfold spP
  split
  · exact ⟨Int.neg_dvd.mpr h1, Int.neg_dvd.mpr h2, Int.neg_dvd.mpr h3⟩
  · exact ⟨h1, h2, h3⟩
theorem spP_ne {n m d : Int} (h : d ≠ 0) : spP n m d ≠ 0 := by
  have := gpar_pos (n := n) (m := m) h
  unfold spP
  split <;> omega
/-- the spot of d above nought: some part that all three have, taken out -/
theorem spot_pos {n m d : Int} (h : 0 < d) : ∃ p : Int, 0 < p ∧ n = n / spP n m d * p ∧ m = m / spP n m d * p ∧ d = d / spP n m d * p ∧ 0 < d / spP n m d ∧ d / spP n m d ≤ d := by
  obtain ⟨h1, h2, h3⟩ := gpar_dvd n m d
  have h0 := gpar_pos (n := n) (m := m) (d := d) (by omega)
  have e : spP n m d = gpar n m d := if_neg (by omega)
  rw [e]
  have e3 := Int.ediv_mul_cancel h3
  refine ⟨gpar n m d, h0, (Int.ediv_mul_cancel h1).symm, (Int.ediv_mul_cancel h2).symm, e3.symm, ?_, Int.ediv_le_self _ (by omega)⟩
  exact Int.ediv_pos_of_pos_of_dvd h (by omega) h3
theorem nr_spot {n m d g : Int} (h : 0 < d) : nr (n / spP n m d) (d / spP n m d * g) = nr n (d * g) ∧ nr (m / spP n m d) (d / spP n m d * g) = nr m (d * g) := by
  obtain ⟨p, hp, e1, e2, e3, _⟩ := spot_pos (n := n) (m := m) h
  have c : d * g = d / spP n m d * g * p := by
    conv => lhs; rw [e3]
    rw [Int.mul_assoc, Int.mul_assoc, Int.mul_comm p g]
  have k1 := nr_times (n := n / spP n m d) (g := d / spP n m d * g) hp
  have k2 := nr_times (n := m / spP n m d) (g := d / spP n m d * g) hp
  rw [← e1, ← c] at k1
  rw [← e2, ← c] at k2
  exact ⟨k1.symm, k2.symm⟩
theorem nr_lies {n g : Int} (h : 0 < g) : (2 * nr n g - 1) * g ≤ 2 * n ∧ 2 * n < (2 * nr n g + 1) * g := by
  unfold nr
  have e1 := Int.mul_ediv_add_emod (2 * n + g) (2 * g)
  have e2 := Int.emod_nonneg (2 * n + g) (show 2 * g ≠ 0 by omega)
  have e3 := Int.emod_lt_of_pos (2 * n + g) (show 0 < 2 * g by omega)
  generalize (2 * n + g) / (2 * g) = k at *
  generalize (2 * n + g) % (2 * g) = r at *
  have c1 : (2 * k - 1) * g = 2 * g * k - g := by rw [Int.sub_mul, Int.mul_right_comm]; omega
  have c2 : (2 * k + 1) * g = 2 * g * k + g := by rw [Int.add_mul, Int.mul_right_comm]; omega
  omega
end Cl

namespace Cl
open PySem PySem.Spec PyProof.Rows L2
/-! ### kinds of things -/
def isI : V → Bool
  | .int _ => true
  | _ => false
def isB : V → Bool
  | .bl _ => true
  | _ => false
/-- a thing with the name of its class -/
inductive Kd (K : PySem.W.Frag) (H : Hp) : V → String → Prop where
  | non : Kd K H .non "NoneType"
  | bl (b : Bool) : Kd K H (.bl b) "bool"
  | int (i : Int) : Kd K H (.int i) "int"
  | str (x : Str) : Kd K H (.str x) "str"
  | lst {a : Addr} {xs : List V} (h : SqL K H a xs) : Kd K H (.ref a) "list"
  | tup {a : Addr} {xs : List V} (h : SqT K H a xs) : Kd K H (.ref a) "tuple"
  | dct {a : Addr} {kvs : List (Key × V)} (h : H a = some (.dK kvs)) : Kd K H (.ref a) "dict"
section
variable {K : PySem.W.Frag} {H : Hp} {v : V} {T : String}
theorem Kd.ty (h : Kd K H v T) : TyX K H v (.type T) := by
  cases h with
  | non => exact .base .non
  | bl b => exact .base (.bl b)
  | int i => exact .base (.int i)
  | str x => exact .base (.str x)
  | lst h =>
    rcases h with (h | ⟨o, h⟩) | ⟨o, its, n, h1, h2, _⟩
    · exact .base (.lst h)
    · exact .base (.frz h)
    · exact .kList h1 h2
  | tup h =>
    rcases h with (h | ⟨o, h⟩) | ⟨o, its, n, h1, h2, _⟩
    · exact .base (.tup h)
    · exact .fTuple h
    · exact .kTuple h1 h2
  | dct h => exact .base (.dK h)
theorem Kd.int? (h : Kd K H v T) : kitB T "int" = some (isI v || isB v) := by
  cases h <;> first | (show kitB _ _ = some true; decide +kernel) | (show kitB _ _ = some false; decide +kernel)
theorem Kd.bool? (h : Kd K H v T) : kitB T "bool" = some (isB v) := by
  cases h <;> first | (show kitB _ _ = some true; decide +kernel) | (show kitB _ _ = some false; decide +kernel)
theorem Kd.tuple? (h : Kd K H v T) : kitB T "tuple" = some (decide (T = "tuple")) := by
  cases h <;> first | (show kitB _ _ = some true; decide +kernel) | (show kitB _ _ = some false; decide +kernel)
theorem Kd.str? (h : Kd K H v T) : kitB T "str" = some (decide (T = "str")) := by
  cases h <;> first | (show kitB _ _ = some true; decide +kernel) | (show kitB _ _ = some false; decide +kernel)
end
theorem seT {K : PySem.W.Frag} {H H' : Hp} {a : Addr} {xs : List V} (e : Same H H') (h : SqT K H a xs) : SqT K H' a xs := by
  rcases h with (h | ⟨o, h⟩) | h
  · exact .inl (.inl (e _ _ h))
  · exact .inl (.inr ⟨o, e _ _ h⟩)
  · exact .inr h
/-- isinstance(thing, a built-in class) -/
theorem isi {K : PySem.W.Frag} {H : Hp} {v : V} {T c : String} {b : Bool} {Q : VK} (h : Kd K H v T) (e : kitB T c = some b) (q : Q (.bl b) H) :
    rIsi K [v, .ty c] H Q := ⟨v, .ty c, .type T, .type c, b, rfl, .ty c, h.ty, kit_ty e, q⟩
def spWhole (K : PySem.W.Frag) : Sp := fun vs H Q _ => ∃ v T, vs = [v] ∧ Kd K H v T ∧ Q (.bl (isI v)) H

/-! ### lists of draws -/
def Acc (d l pD : Addr) (H0 : Hp) (i : Nat) (P : Int → Prop) (H' : Hp) : Prop :=
  ∃ xs : List Int, Step d l H0 H' ∧ H' pD = some (.lst (xs.map V.int)) ∧ xs.length = i ∧ ∀ x ∈ xs, P x
section
variable {d l pD : Addr} {H0 H H4 : Hp} {i : Nat} {P : Int → Prop} {y : Int}
theorem Step.updN (S : Step d l H0 H4) (h1 : pD ≠ d) (h2 : pD ≠ l) (n : H0 pD = none) {o : HO} : Step d l H0 (upd H4 pD o) := by
  obtain ⟨ns, s, c, e1, e2, e3⟩ := S.deck.ex
  refine ⟨⟨S.deck.ne, ns, s, c, by rw [upd_ne h1.symm]; exact e1, by rw [upd_ne h2.symm]; exact e2, e3⟩, ?_⟩
  refine fun b x e => ?_
  obtain ⟨n1, n2, n3⟩ := hide_at e
  have e5 := S.same b x e
  rw [hide_ne n1 n2] at e5 ⊢
  rw [upd_ne (ne_of_none n3 n)]
  exact e5
theorem Acc.start (D : Deck H0 d l) (S : Same H0 H) (e : H pD = some (.lst [])) : Acc d l pD H0 0 P H :=
  ⟨[], Step.of D S, e, rfl, fun x h => nomatch h⟩
theorem Acc.turn (A : Acc d l pD H0 i P H) (S : Step d l H H4) (D : Deck H0 d l) (n : H0 pD = none) (hi : i < 1000) (h : P y) :
    ∃ acc, H4 pD = some (.lst acc) ∧ acc.length < sizeLine ∧ Acc d l pD H0 (i + 1) P (upd H4 pD (.lst (acc ++ [.int y]))) := by
  obtain ⟨xs, S0, e, l1, a⟩ := A
  obtain ⟨h1, h2⟩ := D.nd n
  refine ⟨_, S.at h1 h2 e, by rw [List.length_map, l1]; exact small1000 (by omega), xs ++ [y], (S0.trans S).updN h1 h2 n, ?_, by rw [List.length_append, l1]; rfl, fun x hx => ?_⟩
  · rw [upd_same, List.map_append]; rfl
  · rcases List.mem_append.mp hx with z | z
    · exact a x z
    · rw [List.mem_singleton.mp z]; exact h
end
def lcR {lo : Int} {n : Nat} {g : TG} {tt : TT} {te : TE} {vs : List Nat} {σ : L2.St} {H1 : Hp} {D : Addr} {Qd : Hp → Prop}
    (Pv : Nat → Hp → Prop) (hD : H1 D = none) (h0 : ∀ H', Same H1 H' → H' D = some (.lst []) → Pv 0 H')
    (hs : ∀ i H, i < n → Pv i H → g (.int (lo + i)) (wipe σ vs) H fun σ2 H2 => wipe σ2 vs = wipe σ vs ∧ tt σ2 H2 fun b H3 =>
      if b = true then te σ2 H3 fun y H4 => ∃ acc, H4 D = some (.lst acc) ∧ acc.length < sizeLine ∧ Pv (i + 1) (upd H4 D (.lst (acc ++ [y]))) else Pv (i + 1) H3)
    (hd : ∀ H, Pv n H → Qd H) :=
  lc_range (lo := lo) (n := n) (g := g) (tt := tt) (te := te) (vs := vs) (σ := σ) (H1 := H1) (D := D) (Qd := Qd) Pv (h0 _ (same_new hD) upd_same) hs hd
theorem two {xs : List Int} (h : xs.length = 2) : ∃ x y, xs = [x, y] := by
  match xs, h with
  | [x, y], _ => exact ⟨x, y, rfl⟩
end Cl

namespace Cl
open PySem PySem.Spec PyProof.Rows L2
/-! ### pairs of whole numbers -/
def pd (p : Int × Int) : PyData := .tuple [.int p.1, .int p.2]
def At2 (K : PySem.W.Frag) (H : Hp) (v : V) (p : Int × Int) : Prop := ∃ a, v = .ref a ∧ SqT K H a [.int p.1, .int p.2]
def llt (p q : Int × Int) : Bool := decide (p.1 < q.1 ∨ (p.1 = q.1 ∧ p.2 < q.2))
def mn (p q : Int × Int) : Int × Int := if llt q p then q else p
def mx (p q : Int × Int) : Int × Int := if llt p q then q else p
theorem At2.dp {K : PySem.W.Frag} {H : Hp} {v : V} {p : Int × Int} (h : At2 K H v p) : Dp K H v (pd p) := by
  obtain ⟨a, rfl, h⟩ := h
  exact .tup h (.cons (.int _) (.cons (.int _) .nil))
theorem At2.same {K : PySem.W.Frag} {H H' : Hp} {v : V} {p : Int × Int} (h : At2 K H v p) (s : Same H H') : At2 K H' v p := by
  obtain ⟨a, rfl, h⟩ := h
  exact ⟨a, rfl, seT s h⟩
theorem lt_pd (p q : Int × Int) : PySem.W.dataLt (pd p) (pd q) = llt p q := by
  obtain ⟨a, b⟩ := p
  obtain ⟨c, d⟩ := q
  have e1 : PySem.W.keyToks (pd (a, b)) = [.inl 1, .inl a, .inl 1, .inl b, .inl 0] := by simp [pd, PySem.W.keyToks, PySem.W.keyToksAll]
  have e2 : PySem.W.keyToks (pd (c, d)) = [.inl 1, .inl c, .inl 1, .inl d, .inl 0] := by simp [pd, PySem.W.keyToks, PySem.W.keyToksAll]
  unfold PySem.W.dataLt llt
  rw [e1, e2, lex_self (O := itemOrd)]
  by_cases h : a = c
  · subst h
    rw [lex_self (O := itemOrd), lex_self (O := itemOrd)]
    by_cases h2 : b = d
    · subst h2
      rw [lex_self (O := itemOrd), lex_self (O := itemOrd)]
      simp
      rfl
    · rw [lex_diff (O := itemOrd) (by simpa using h2)]
      show decide (b < d) = _
      simp
  · rw [lex_diff (O := itemOrd) (by simpa using h)]
    show decide (a < c) = _
    simp [h]
theorem alike_pd (p q : Int × Int) : PySem.W.alike (pd p) (pd q) = true := rfl
theorem pd_inj {p q : Int × Int} (h : pd p = pd q) : p = q := by
  unfold pd at h
  injection h with h
  injection h with h1 h2
  injection h1 with h1
  injection h2 with h2 _
  injection h2 with h2
  exact Prod.ext h1 h2
section
variable {X : Cx}
def rCmp2 (K : PySem.W.Frag) (f : Int × Int → Int × Int → Bool) : R2 := fun x y H Q => ∃ p q, At2 K H x p ∧ At2 K H y q ∧ Q (.bl (f p q)) H
theorem op_le2 (hu : X.A.units + 64 < cLine) : OpR X (compareOp .LtE) (rCmp2 X.K fun p q => !llt q p) := by
  intro pins s σ H x y v u Q I rx ry ⟨p, q, hp, hq, h⟩
  obtain ⟨as, r1⟩ := Dp.reads I _ x v hp.dp rx
  obtain ⟨bs, r2⟩ := Dp.reads I _ y u hq.dp ry
  exact PySem.W.le_data r1 r2 (alike_pd p q) (fun z => nomatch z) (by show X.A.units + min 1 1 < cLine; omega) ⟨.bl _, H, I, rfl, by rw [lt_pd]; exact h⟩
theorem op_gt2 (hu : X.A.units + 64 < cLine) : OpR X (compareOp .Gt) (rCmp2 X.K fun p q => llt q p) := by
  intro pins s σ H x y v u Q I rx ry ⟨p, q, hp, hq, h⟩
  obtain ⟨as, r1⟩ := Dp.reads I _ x v hp.dp rx
  obtain ⟨bs, r2⟩ := Dp.reads I _ y u hq.dp ry
  exact PySem.W.gt_data r1 r2 (alike_pd p q) (fun z => nomatch z) (by show X.A.units + min 1 1 < cLine; omega) ⟨.bl _, H, I, rfl, by rw [lt_pd]; exact h⟩

/-- min, max of a tuple of two pairs: the pair itself -/
def rBest1 (K : PySem.W.Frag) (f : Int × Int → Int × Int → Int × Int) : List V → Hp → VK → Prop := fun xs H Q =>
  ∃ a u v p q, xs = [.ref a] ∧ SqT K H a [u, v] ∧ At2 K H u p ∧ At2 K H v q ∧ ∀ w, (w = u ∨ w = v) → At2 K H w (f p q) → Q w H
def rBest2 (K : PySem.W.Frag) (f : Int × Int → Int × Int → Int × Int) : List V → Hp → VK → Prop := fun xs H Q =>
  ∃ u v p q, xs = [u, v] ∧ At2 K H u p ∧ At2 K H v q ∧ ∀ w, (w = u ∨ w = v) → At2 K H w (f p q) → Q w H
theorem pick2 {pins : List (Addr × Obj)} {σ : L2.St} {H : Hp} {s : Shared} {h' : Heap} {tk : Nat} {u v : V} {u0 v0 w0 : Value} {p q r : Int × Int} {bs : List Addr} {Q : VK} {i : Nat}
    (I : Inv X pins σ H s) (hk : ∀ b o, s.heap.get? b = some o → h'.get? b = some o) (ru : RelV u u0) (rv : RelV v v0) (hu : At2 X.K H u p) (hv : At2 X.K H v q)
    (e : #[u0, v0][i]? = some w0) (rd : Reads h' w0 (pd r) bs) (h : ∀ w, (w = u ∨ w = v) → At2 X.K H w r → Q w H) :
    EP X pins σ Q w0 { s with heap := h', toks := tk } := by
  have J : Inv X pins σ H { s with heap := h', toks := tk } := I.kept hk
  match i, e with
  | 0, e =>
    cases e
    obtain ⟨as, r1⟩ := Dp.reads J _ u u0 hu.dp ru
    have e2 := pd_inj (rd.unique _ _ r1).1
    subst e2
    exact ⟨u, H, J, ru, h u (.inl rfl) hu⟩
  | 1, e =>
    cases e
    obtain ⟨as, r1⟩ := Dp.reads J _ v v0 hv.dp rv
    have e2 := pd_inj (rd.unique _ _ r1).1
    subst e2
    exact ⟨v, H, J, rv, h v (.inr rfl) hv⟩
  | i + 2, e => exact absurd e (by simp)
theorem all_alike (p q : Int × Int) : PySem.W.AlikeAll [pd p, pd q] := by
  constructor
  · intro x hx y hy
    simp only [List.mem_cons, List.not_mem_nil, or_false] at hx hy
    rcases hx with rfl | rfl <;> rcases hy with rfl | rfl <;> rfl
  · intro x hx
    simp only [List.mem_cons, List.not_mem_nil, or_false] at hx
    rcases hx with rfl | rfl <;> exact fun z => nomatch z
theorem best_mn (p q : Int × Int) : PySem.W.minD (pd p) [pd q] = pd (mn p q) := by
  unfold PySem.W.minD mn
  simp only [List.foldl, lt_pd]
  split <;> rfl
theorem best_mx (p q : Int × Int) : PySem.W.maxD (pd p) [pd q] = pd (mx p q) := by
  unfold PySem.W.maxD mx
  simp only [List.foldl, lt_pd]
  split <;> rfl
theorem cr_min1 (hc : X.calm = true) (hu : X.A.units + 64 < cLine) : CallR X (.builtin "min") (rBest1 X.K mn) := by
  intro pins s σ H xs us Q I r ⟨a, u, v, p, q, e, hS, hp, hq, h⟩
  subst e
  rw [Vals.ref1 r]
  obtain ⟨its, rv, ht, hz⟩ := I.tuple hS
  obtain ⟨u0, v0, rfl, r1, r2⟩ := vals2 rv
  obtain ⟨as, rd1⟩ := Dp.reads I _ u u0 hp.dp r1
  obtain ⟨bs, rd2⟩ := Dp.reads I _ v v0 hq.dp r2
  refine PySem.W.min_tuple_data (x := pd p) (xs := [pd q]) (I.ok.hd hc) ht (.cons rd1 (.cons rd2 .nil)) (all_alike p q) (by show X.A.units + 1 + max 1 (max 1 0) < cLine; omega) fun i w h' tk cs hi rd hk => ?_
  rw [best_mn] at rd
  exact pick2 I hk r1 r2 hp hq hi rd h
theorem cr_max1 (hc : X.calm = true) (hu : X.A.units + 64 < cLine) : CallR X (.builtin "max") (rBest1 X.K mx) := by
  intro pins s σ H xs us Q I r ⟨a, u, v, p, q, e, hS, hp, hq, h⟩
  subst e
  rw [Vals.ref1 r]
  obtain ⟨its, rv, ht, hz⟩ := I.tuple hS
  obtain ⟨u0, v0, rfl, r1, r2⟩ := vals2 rv
  obtain ⟨as, rd1⟩ := Dp.reads I _ u u0 hp.dp r1
  obtain ⟨bs, rd2⟩ := Dp.reads I _ v v0 hq.dp r2
  refine PySem.W.max_tuple_data (x := pd p) (xs := [pd q]) (I.ok.hd hc) ht (.cons rd1 (.cons rd2 .nil)) (all_alike p q) (by show X.A.units + 1 + max 1 (max 1 0) < cLine; omega) fun i w h' tk cs hi rd hk => ?_
  rw [best_mx] at rd
  exact pick2 I hk r1 r2 hp hq hi rd h
/-- max(u, v), min(u, v) of two pairs -/
theorem cr_max2 (hc : X.calm = true) (hu : X.A.units + 64 < cLine) : CallR X (.builtin "max") (rBest2 X.K mx) := by
  intro pins s σ H xs us Q I r ⟨u, v, p, q, e, hp, hq, h⟩
  subst e
  obtain ⟨u0, v0, rfl, r1, r2⟩ := vals2 r
  have nm : (toString "max" ++ toString ".loop" : String) = "max.loop" := by decide
  have bp : Builtin.Builtins.bindParams "max" ["key", "default"] 0 ⟨[], []⟩ = pure [none, none] := rfl
  refine call_function_tree F.kind_max F.plain_max F.entry_max (F.args_max2 _ _) ?_
  show wpAny _ X.A.in1 (Builtin.Builtins.bindParams "max" ["key", "default"] 0 ⟨[], []⟩ >>= _) _ _ s
  refine wpAny_bind (wpAny_of_eq bp ?_)
  show wpAny _ X.A.in1 (newTuple [u0, v0] >>= _) _ _ s
  refine wpAny_bind (wpAny_newObj_type ?_)
  have I1 : Inv X pins σ H { s with heap := s.heap.push { cls := .type "tuple", data := .seq #[u0, v0] } } :=
    I.kept (t' := s.toks) fun b ob z => Heap.get?_push_of_some _ z
  obtain ⟨as, rd1⟩ := Dp.reads I1 _ u u0 hp.dp r1
  obtain ⟨bs, rd2⟩ := Dp.reads I1 _ v v0 hq.dp r2
  have rds : ReadsAll (s.heap.push { cls := .type "tuple", data := .seq #[u0, v0] }) [u0, v0] [pd p, pd q] _ := .cons rd1 (.cons rd2 .nil)
  have cm := PySem.W.cmpIn_gt (prog := X.prog) (w := X.w) (A := X.A.in1) (s := { s with heap := s.heap.push { cls := .type "tuple", data := .seq #[u0, v0] } }) (vs := #[u0, v0]) rds (all_alike p q)
    (by show X.A.units + 1 + max 1 (max 1 0) < cLine; omega)
  refine wpAny_bind (wpAny_mono (PySem.W.iter_tupleW (A := X.A.in1) (vs := #[u0, v0]) (I.ok.hd hc) ⟨_, Heap.get?_push_size _ rfl, rfl, _, rfl⟩ (Q := fun it s2 => ∃ I' fp wr, ∃ G : Array GenState → Array GenState → Prop, ∃ St : Nat → Shared → Prop, it = .ref I' ∧
    WalksS X.prog X.w X.A.in1 I' fp wr G 2 (fun i v => #[u0, v0][i]? = some v) St ∧ St 0 s2 ∧ (∀ b ∈ fp, b < s2.heap.objs.size) ∧ (∀ b o, (s.heap.push { cls := .type "tuple", data := .seq #[u0, v0] }).get? b = some o → b ∉ wr) ∧
    (∀ b o, (s.heap.push { cls := .type "tuple", data := .seq #[u0, v0] }).get? b = some o → s2.heap.get? b = some o) ∧ s2.os = s.os ∧ s2.gens = s.gens ∧ G = (fun a b => b = a) ∧ s2.drawn = s.drawn) fun s2 e2 W st hfp hw hk => ?_) (fun it s2 hh => ?_) fun _ _ z => z)
  · exact ⟨_, _, _, _, _, rfl, W, st, hfp, hw, hk, by rw [e2], by rw [e2], rfl, by rw [e2]⟩
  · obtain ⟨I', fp, wr, G, St, rfl, W, hst, hfp, hw, hkeep, eo, eg, hG, ed⟩ := hh
    refine wpAny_bind (wpAny_newObj_type ?_)
    have hSf : s2.heap.objs.size ∉ fp := fun hm => Nat.lt_irrefl _ (hfp _ hm)
    rw [nm]
    refine wpAny_pure ⟨plainId_quiet F.plain_max_loop _, codeAny_max_loop_firstH W _ hw _ cm s2.heap.objs.size hSf (fresh_in hkeep) _ (by decide)
      (fun b o e => Heap.get?_push_of_some _ (hkeep b o e)) (W.frame 0 s2 _ s2.toks hst (Nat.le_refl _) fun b _ o e => Heap.get?_push_of_some _ e) (Heap.get?_push_size _ rfl) fun v' s' hP hm => ?_⟩
    have m := Moved.drop_new (tk := s2.toks) hm (Nat.le_refl _)
    have eb : argBest (fun i j => PySem.W.dataLt ([pd p, pd q].getD j PyData.none) ([pd p, pd q].getD i PyData.none)) (2 - 1) = if llt p q = true then 1 else 0 := by
      show (if PySem.W.dataLt (pd p) (pd q) = true then 1 else 0) = _
      rw [lt_pd]
    rw [eb] at hP
    have hs' : s' = { s with heap := s'.heap, toks := s'.toks } := by
      obtain ⟨hp', g', d', tk', os'⟩ := s'
      have h1 := m.gens
      rw [hG] at h1
      have h1 : g' = s.gens := h1.trans eg
      have h2 : d' = s.drawn := m.drawn.trans ed
      have h3 : os' = s.os := m.os.trans eo
      subst h1 h2 h3
      rfl
    have J : Inv X pins σ H { s with heap := s'.heap, toks := s'.toks } := I.kept fun b o z => by
      have z1 := Heap.get?_push_of_some { cls := .type "tuple", data := .seq #[u0, v0] } z
      exact m.heap b o (hw _ _ z1) (hkeep _ _ z1)
    rw [hs']
    cases hl : llt p q with
    | true =>
      rw [hl] at hP
      cases hP
      have e3 : mx p q = q := if_pos hl
      exact ⟨v, H, J, r2, h v (.inr rfl) (by rw [e3]; exact hq)⟩
    | false =>
      rw [hl] at hP
      cases hP
      have e3 : mx p q = p := if_neg (by rw [hl]; decide)
      exact ⟨u, H, J, r1, h u (.inl rfl) (by rw [e3]; exact hp)⟩
/-- min(u, v) of two pairs -/
theorem cr_min2 (hc : X.calm = true) (hu : X.A.units + 64 < cLine) : CallR X (.builtin "min") (rBest2 X.K mn) := by
  intro pins s σ H xs us Q I r ⟨u, v, p, q, e, hp, hq, h⟩
  subst e
  obtain ⟨u0, v0, rfl, r1, r2⟩ := vals2 r
  have nm : (toString "min" ++ toString ".loop" : String) = "min.loop" := by decide
  have bp : Builtin.Builtins.bindParams "min" ["key", "default"] 0 ⟨[], []⟩ = pure [none, none] := rfl
  refine call_function_tree F.kind_min F.plain_min F.entry_min (F.args_min2 _ _) ?_
  show wpAny _ X.A.in1 (Builtin.Builtins.bindParams "min" ["key", "default"] 0 ⟨[], []⟩ >>= _) _ _ s
  refine wpAny_bind (wpAny_of_eq bp ?_)
  show wpAny _ X.A.in1 (newTuple [u0, v0] >>= _) _ _ s
  refine wpAny_bind (wpAny_newObj_type ?_)
  have I1 : Inv X pins σ H { s with heap := s.heap.push { cls := .type "tuple", data := .seq #[u0, v0] } } :=
    I.kept (t' := s.toks) fun b ob z => Heap.get?_push_of_some _ z
  obtain ⟨as, rd1⟩ := Dp.reads I1 _ u u0 hp.dp r1
  obtain ⟨bs, rd2⟩ := Dp.reads I1 _ v v0 hq.dp r2
  have rds : ReadsAll (s.heap.push { cls := .type "tuple", data := .seq #[u0, v0] }) [u0, v0] [pd p, pd q] _ := .cons rd1 (.cons rd2 .nil)
  have cm := PySem.W.cmpIn_lt (prog := X.prog) (w := X.w) (A := X.A.in1) (s := { s with heap := s.heap.push { cls := .type "tuple", data := .seq #[u0, v0] } }) (vs := #[u0, v0]) rds (all_alike p q)
    (by show X.A.units + 1 + max 1 (max 1 0) < cLine; omega)
  refine wpAny_bind (wpAny_mono (PySem.W.iter_tupleW (A := X.A.in1) (vs := #[u0, v0]) (I.ok.hd hc) ⟨_, Heap.get?_push_size _ rfl, rfl, _, rfl⟩ (Q := fun it s2 => ∃ I' fp wr, ∃ G : Array GenState → Array GenState → Prop, ∃ St : Nat → Shared → Prop, it = .ref I' ∧
    WalksS X.prog X.w X.A.in1 I' fp wr G 2 (fun i v => #[u0, v0][i]? = some v) St ∧ St 0 s2 ∧ (∀ b ∈ fp, b < s2.heap.objs.size) ∧ (∀ b o, (s.heap.push { cls := .type "tuple", data := .seq #[u0, v0] }).get? b = some o → b ∉ wr) ∧
    (∀ b o, (s.heap.push { cls := .type "tuple", data := .seq #[u0, v0] }).get? b = some o → s2.heap.get? b = some o) ∧ s2.os = s.os ∧ s2.gens = s.gens ∧ G = (fun a b => b = a) ∧ s2.drawn = s.drawn) fun s2 e2 W st hfp hw hk => ?_) (fun it s2 hh => ?_) fun _ _ z => z)
  · exact ⟨_, _, _, _, _, rfl, W, st, hfp, hw, hk, by rw [e2], by rw [e2], rfl, by rw [e2]⟩
  · obtain ⟨I', fp, wr, G, St, rfl, W, hst, hfp, hw, hkeep, eo, eg, hG, ed⟩ := hh
    refine wpAny_bind (wpAny_newObj_type ?_)
    have hSf : s2.heap.objs.size ∉ fp := fun hm => Nat.lt_irrefl _ (hfp _ hm)
    rw [nm]
    refine wpAny_pure ⟨plainId_quiet F.plain_min_loop _, codeAny_min_loop_firstH W _ hw _ cm s2.heap.objs.size hSf (fresh_in hkeep) _ (by decide)
      (fun b o e => Heap.get?_push_of_some _ (hkeep b o e)) (W.frame 0 s2 _ s2.toks hst (Nat.le_refl _) fun b _ o e => Heap.get?_push_of_some _ e) (Heap.get?_push_size _ rfl) fun v' s' hP hm => ?_⟩
    have m := Moved.drop_new (tk := s2.toks) hm (Nat.le_refl _)
    have eb : argBest (fun i j => PySem.W.dataLt ([pd p, pd q].getD i PyData.none) ([pd p, pd q].getD j PyData.none)) (2 - 1) = if llt q p = true then 1 else 0 := by
      show (if PySem.W.dataLt (pd q) (pd p) = true then 1 else 0) = _
      rw [lt_pd]
    rw [eb] at hP
    have hs' : s' = { s with heap := s'.heap, toks := s'.toks } := by
      obtain ⟨hp', g', d', tk', os'⟩ := s'
      have h1 := m.gens
      rw [hG] at h1
      have h1 : g' = s.gens := h1.trans eg
      have h2 : d' = s.drawn := m.drawn.trans ed
      have h3 : os' = s.os := m.os.trans eo
      subst h1 h2 h3
      rfl
    have J : Inv X pins σ H { s with heap := s'.heap, toks := s'.toks } := I.kept fun b o z => by
      have z1 := Heap.get?_push_of_some { cls := .type "tuple", data := .seq #[u0, v0] } z
      exact m.heap b o (hw _ _ z1) (hkeep _ _ z1)
    rw [hs']
    cases hl : llt q p with
    | true =>
      rw [hl] at hP
      cases hP
      have e3 : mn p q = q := if_pos hl
      exact ⟨v, H, J, r2, h v (.inr rfl) (by rw [e3]; exact hq)⟩
    | false =>
      rw [hl] at hP
      cases hP
      have e3 : mn p q = p := if_neg (by rw [hl]; decide)
      exact ⟨u, H, J, r1, h u (.inl rfl) (by rw [e3]; exact hp)⟩
end
end Cl

namespace Cl
open PySem PySem.Spec PyProof.Rows L2
def pr (q : Addr × List Int) : Int × Int := (q.2.getD 0 0, q.2.getD 1 0)
def le2 (q r : Addr × List Int) : Prop := llt (pr r) (pr q) = false
theorem pr_of {q : Addr × List Int} (h : q.2.length = 2) : q.2 = [(pr q).1, (pr q).2] := by
  obtain ⟨a, xs⟩ := q
  match xs, h with
  | [x, y], _ => rfl
section
variable {P : Program} {w : World} {A : Around} {E : Value → Shared → Prop} {s : Shared} {a : Addr} {L : List (Addr × List Int)}
  {es : Array (Int × Value)} {ep : Nat} {t : SetTable} {Q : Value → Shared → Prop}
/-- sorted(set) of pairs of any whole numbers -/
theorem sorted_set2 (R : SetTR P w s.heap a L es ep t) (hh : A.handled = none) (h2 : ∀ p ∈ L, p.2.length = 2) (hu : A.units + 64 < cLine)
    (hQ : ∀ s' p (out : Array Value) (c : Nat) (L' : List (Addr × List Int)), (∀ b o, s.heap.get? b = some o → s'.heap.get? b = some o) →
      s'.gens = s.gens → s'.os = s.os → s.heap.objs.size ≤ p → s'.heap.get? p = some (seqObj "list" out c) →
      out.toList = L'.map (fun q => Value.ref q.1) → L'.Perm L → L'.Pairwise le2 → Q (.ref p) s') :
    wpAny (model P w) A (call (.builtin "sorted") [.ref a]) Q E s := by
  obtain ⟨o, ho, hex, hd⟩ := R.ob
  have nfew := R.few
  refine Calls.call_function_entry kind_sorted plain_sorted entry_sorted (args_sorted1 _) ?_
  unfold Builtin.«sorted»
  refine wpAny_bind (m := checkCount "sorted" 1 1 _) (wpAny_pure ?_)
  refine wpAny_bind (collect_set (A := A.in1) hh ⟨o, ho, hex.1, hd⟩ R.fits (by unfold scanBound; have := R.size; omega) R.tab.ris R.led fun s1 vs k1 hz g1 o1 pm => ?_)
  have rows : es.toList.map (·.2) = L.map fun q => Value.ref q.1 := by
    rw [R.rows]
    unfold rowsOf
    rw [List.map_map]
    rfl
  rw [rows] at pm
  -- what was collected is the set's rows, put in some order
  obtain ⟨L1, e1, p1⟩ : ∃ L1 : List (Addr × List Int), vs = L1.map (fun q => Value.ref q.1) ∧ L1.Perm L := by
    clear hQ k1 g1 o1 hz
    have gen : ∀ (L : List (Addr × List Int)) (us vs : List Value), us = L.map (fun q => Value.ref q.1) → vs.Perm us → ∃ L1 : List (Addr × List Int), vs = L1.map (fun q => Value.ref q.1) ∧ L1.Perm L := by
      intro L us vs eu hp
      induction hp generalizing L with
      | nil =>
        cases L with
        | nil => exact ⟨[], rfl, .nil⟩
        | cons q L => cases eu
      | @cons x l1 l2 hp ih =>
        cases L with
        | nil => cases eu
        | cons q L =>
          rw [List.map_cons] at eu
          injection eu with e2 e3
          obtain ⟨L1, e4, p4⟩ := ih L e3
          exact ⟨q :: L1, by rw [List.map_cons, e2, e4], p4.cons q⟩
      | swap x y l =>
        match L, eu with
        | q :: r :: L, eu =>
          rw [List.map_cons, List.map_cons] at eu
          injection eu with e2 e3
          injection e3 with e3 e4
          exact ⟨r :: q :: L, by rw [List.map_cons, List.map_cons, e2, e3, e4], .swap ..⟩
        | [_], eu => cases eu
        | [], eu => cases eu
      | trans h1 h2 ih1 ih2 =>
        obtain ⟨L2, e2, p2⟩ := ih2 L eu
        obtain ⟨L1, e1, p1⟩ := ih1 L2 e2
        exact ⟨L1, e1, p1.trans p2⟩
    exact gen L _ vs rfl pm
  have n1 : vs.length = L.length := by rw [e1, List.length_map, p1.length_eq]
  have small : vs.length ≤ sizeLine := by rw [sizeLine_eq]; omega
  refine wpAny_bind (wpAny_newList ?_ small)
  have oL : (s1.heap.push (seqObj "list" vs.toArray 0)).get? s1.heap.objs.size = some (seqObj "list" vs.toArray 0) := Heap.get?_push_size _ rfl
  let enc : Addr × List Int → PyData := fun q => .tuple [.int (pr q).1, .int (pr q).2]
  have reads : ∀ q ∈ L, ∃ as, Reads (s1.heap.push (seqObj "list" vs.toArray 0)) (.ref q.1) (enc q) as ∧ s1.heap.objs.size ∉ as := fun q hq => by
    obtain ⟨ob, its, n, x1, x2, x3, x4⟩ := R.tup q hq
    have x5 := ints_of_items x4
    rw [pr_of (h2 q hq)] at x5
    have lt := Heap.lt_size x1
    have y1 := Heap.get?_push_of_some (seqObj "list" vs.toArray 0) (k1 _ _ x1)
    obtain ⟨l, el⟩ : ∃ l, its.toList = l := ⟨_, rfl⟩
    rw [el] at x5
    have ei : its = l.toArray := by rw [← el]
    subst ei
    match l, x5 with
    | [.int _ t1, .int _ t2], .cons _ _ (.cons _ _ .nil) =>
      refine ⟨_, Reads.tuple y1 x2 x3 (.cons (.int _ _) (.cons (.int _ _) .nil)), fun z => ?_⟩
      have z2 : s1.heap.objs.size = q.1 := by simpa using z
      exact absurd (Nat.lt_of_lt_of_le lt hz) (by rw [z2]; exact Nat.lt_irrefl _)
  have each : ∀ l : List (Addr × List Int), (∀ q ∈ l, q ∈ L) → PySem.W.EachIs (fun (v : Value) (q : Addr × List Int) => v = .ref q.1) (l.map fun q => Value.ref q.1) l ∧
      PySem.W.EachIs (fun v q => ∃ as, Reads (s1.heap.push (seqObj "list" vs.toArray 0)) v (enc q) as ∧ s1.heap.objs.size ∉ as) (l.map fun q => Value.ref q.1) l := by
    intro l
    induction l with
    | nil => intro _; exact ⟨.nil, .nil⟩
    | cons q l ih =>
      intro h
      obtain ⟨i1, i2⟩ := ih fun r hr => h r (List.mem_cons_of_mem _ hr)
      exact ⟨.cons rfl i1, .cons (reads q (h q List.mem_cons_self)) i2⟩
  obtain ⟨c1, c2⟩ := each L1 fun q hq => p1.mem_iff.mp hq
  rw [← e1] at c1 c2
  refine wpAny_bind (wpAny_holding (PySem.W.list_sort_data (s := { s1 with heap := s1.heap.push (seqObj "list" vs.toArray 0) }) (enc := enc) oL c1 c2 (.of fun _ _ => rfl) (.tuples fun b => ⟨_, _, rfl⟩) (by rw [p1.length_eq, sizeLine_eq]; omega)
    (fun b _ => by show A.in1.units + 1 + 1 < cLine; show A.units + 1 + 1 + 1 < cLine; omega) fun out a1 a2 => ?_))
  obtain ⟨c, hc⟩ := sortedHeap_at (vs := vs) (out := out.toArray) oL
  have eo : out = (L1.mergeSort (PySem.W.dataLe false enc)).map fun q => Value.ref q.1 := by
    revert a2
    generalize L1.mergeSort (PySem.W.dataLe false enc) = M
    intro a2
    clear hc a1
    induction a2 with
    | nil => rfl
    | cons h t ih => rw [List.map_cons, ← ih, h]
  have pM : (L1.mergeSort (PySem.W.dataLe false enc)).Perm L := (List.mergeSort_perm _ _).trans p1
  have pw : (L1.mergeSort (PySem.W.dataLe false enc)).Pairwise le2 := by
    have hle : PySem.W.dataLe false enc = fun p q => decide ((pr p).1 < (pr q).1 ∨ ((pr p).1 = (pr q).1 ∧ (pr p).2 ≤ (pr q).2)) :=
      PySem.W.dataLe_ii (fun q => (pr q).1) (fun q => (pr q).2)
    rw [hle]
    refine List.Pairwise.imp (fun {q r} h => ?_) (List.pairwise_mergeSort (fun p q r h1 h2 => ?_) (fun p q => ?_) L1)
    · have h := of_decide_eq_true h
      unfold le2 llt
      exact decide_eq_false (by omega)
    · have h1 := of_decide_eq_true h1
      have h2 := of_decide_eq_true h2
      exact decide_eq_true (by omega)
    · rw [Bool.or_eq_true, decide_eq_true_eq, decide_eq_true_eq]
      omega
  refine wpAny_pure ⟨_, rfl, hQ _ s1.heap.objs.size out.toArray c (L1.mergeSort (PySem.W.dataLe false enc)) (fun b u e => ?_) g1 o1 hz hc eo pM pw⟩
  have e5 := k1 b u e
  have lt5 := Heap.lt_size e5
  show (sortedHeap (s1.heap.push (seqObj "list" vs.toArray 0)) s1.heap.objs.size vs out.toArray).get? b = some u
  rw [sortedHeap_old (Nat.ne_of_lt lt5) (by rw [size_push']; exact Nat.lt_succ_of_lt lt5)]
  exact Heap.get?_push_of_some _ e5
end
section
variable {X : Cx}
def rSortedS2 (K : PySem.W.Frag) (P : Program) (w : World) : List V → Hp → VK → Prop := fun vs H Q => ∃ (a : Addr) (L : List (Addr × List Int)),
  vs = [V.ref a] ∧ H a = some (SetTO P w a L) ∧ (∀ p ∈ L, SqT K H p.1 (p.2.map V.int)) ∧ (∀ p ∈ L, p.2.length = 2) ∧
  ∀ L' : List (Addr × List Int), L'.Perm L → (L'.map (·.2)).Nodup → L'.Pairwise le2 → New H (.lst (L'.map fun q => V.ref q.1)) Q
theorem cr_sortedS2 (hc : X.calm = true) (hu : X.A.units + 64 < cLine) : CallR X (.builtin "sorted") (rSortedS2 X.K X.prog X.w) := by
  intro pins s σ H vs us Q I r ⟨a, L, e, ha, hk, h2, q⟩
  subst e
  obtain ⟨es, ep, t, R⟩ := SetT0.full (I.hok a _ ha).1 fun p hp => I.isT (hk p hp)
  rw [Vals.ref1 r]
  refine sorted_set2 R (I.ok.hd hc) h2 hu fun s' p out c L' k g o hp hg hout pm pw => ?_
  have few : L'.length < 64 := by rw [pm.length_eq]; exact R.few
  have len : (L'.map fun q => V.ref q.1).length ≤ sizeLine := by rw [List.length_map, sizeLine_eq]; omega
  have hn : H p = none := I.hok.fresh hp
  have hv : Vals (L'.map fun q => V.ref q.1) out.toList := by rw [hout]; exact vals_of_refs L'
  have J : Inv X pins σ (upd H p (.lst (L'.map fun q => V.ref q.1))) { s with heap := s'.heap, gens := s'.gens, drawn := s'.drawn, toks := s'.toks } :=
    I.call (ch := []) (Un.laid k hp hn) (I.hok.laid k hp ⟨len, out.toList, c, hv, hg⟩) (by rw [g]; exact I.bare) (fun _ z => nomatch z)
  have e : s' = { s with heap := s'.heap, gens := s'.gens, drawn := s'.drawn, toks := s'.toks } := by
    cases s'
    cases s
    cases o
    rfl
  rw [e]
  exact ⟨.ref p, _, J, rfl, (q L' pm ((pm.map (·.2)).nodup_iff.mpr R.nd) pw).go p hn⟩
def rSetN (K : PySem.W.Frag) (P : Program) (w : World) : List V → Hp → VK → Prop := fun xs H Q => ∃ (l : Addr) (ks : List (Addr × List Int)), xs = [V.ref l] ∧ SqL K H l (ks.map fun p => V.ref p.1) ∧
  (∀ p ∈ ks, SqT K H p.1 (p.2.map V.int)) ∧ ks.length < 64 ∧ ∀ a H' L, Same H H' → H a = none → H' a = some (SetTO P w a L) → (∀ p ∈ L, p ∈ ks) → (∀ p ∈ ks, p.2 ∈ L.map (·.2)) → Q (.ref a) H'
theorem cr_setN (hc : X.calm = true) (hu : X.A.units + 64 < cLine) : CallR X (.type "set") (rSetN X.K X.prog X.w) := by
  intro pins s σ H xs us Q I r ⟨l, ks, e, h1, h2, h3, q⟩
  exact cr_setOfT hc hu pins s σ H xs us Q I r ⟨l, ks, e, h1, h2, h3, fun a L n s1 s2 => q a _ L (same_new n) n upd_same s1 s2⟩
end
end Cl

namespace Cl
open PySem PySem.Spec PyProof.Rows L2 HT
/-! ### t[::-1] of a tuple -/
theorem rev_adjust (n : Nat) : Builtin.Slice.sliceAdjust none none (-1) (n : Int) = ((n : Int) - 1, -1) := rfl
theorem rev_places (n : Nat) : Builtin.Slice.slicePlaces ((n : Int) - 1) (-1) (-1) = n := by
  unfold Builtin.Slice.slicePlaces
  rw [if_neg (by decide)]
  split
  · rw [show ((n : Int) - 1 - -1 - 1) / (- -1) = (n : Int) - 1 by rw [show (- -1 : Int) = 1 by decide, Int.ediv_one]; omega]
    omega
  · omega
theorem fm_congr {α β : Type} {f g : α → Option β} : ∀ (l : List α), (∀ k ∈ l, f k = g k) → l.filterMap f = l.filterMap g
  | [], _ => rfl
  | x :: l, h => by
    rw [List.filterMap_cons, List.filterMap_cons, h x List.mem_cons_self, fm_congr l fun k hk => h k (List.mem_cons_of_mem _ hk)]
theorem rev_pick (xs : Array Value) : ((List.range xs.size).filterMap fun (k : Nat) => xs[((xs.size : Int) - 1 + (k : Int) * -1).toNat]?).toArray = xs.toList.reverse.toArray := by
  congr 1
  have e : (List.range xs.size).filterMap (fun (k : Nat) => xs[((xs.size : Int) - 1 + (k : Int) * -1).toNat]?) =
      ((List.range xs.size).map fun k => xs.size - 1 - k).filterMap (xs[·]?) := by
    rw [List.filterMap_map]
    refine fm_congr _ fun k hk => ?_
    have hk := List.mem_range.mp hk
    show xs[((xs.size : Int) - 1 + (k : Int) * -1).toNat]? = xs[xs.size - 1 - k]?
    congr 1
    omega
  rw [e, PySem.W.krv_range, List.filterMap_reverse, PySem.W.krv_all]
section
variable {prog : Program} {w : World} {A : Around} {E : Value → Shared → Prop} {s : Shared}
theorem getItem_tuple_rev {t sl : Addr} {items : Array Value} {tk : Tok} {Q : Value → Shared → Prop} (ht : IsTup s.heap t items)
    (hs : s.heap.IsSliceOf sl .none .none (.int (-1) tk)) (hsz : items.size ≤ sizeLine)
    (h : Q (.ref s.heap.objs.size) { s with heap := s.heap.push { cls := .type "tuple", data := .seq items.toList.reverse.toArray } }) :
    wpAny (model prog w) A (getItem (.ref t) (.ref sl)) Q E s := by
  obtain ⟨os, hos, hcs, hds⟩ := id hs
  have isS : s.TypeIs (.ref sl) "slice" := ⟨os, hos, hcs⟩
  have fits : sizeOk (.seq items.toList.reverse.toArray) := by
    show items.toList.reverse.toArray.size ≤ sizeLine
    rw [List.size_toArray, List.length_reverse, Array.length_toList]
    exact hsz
  unfold getItem
  try with_reducible refine wpAny_holding ?_
  first | refine wpAny_bind (wpAny_pure ?_) | skip
  refine wpAny_bind (wpAny_sequenceKey ht.typeIs (by decide) ?_)
  refine wpAny_bind (wpAny_callSpecial?_slot (name := Str.ofString "__getitem__") ht.typeIs PyProof.Rows.slot_tuple_getitem
    (wpAny_call_entry PyProof.Rows.slot_tuple_getitem ht.typeIs entry_tuple_getitem ?_ (args_tuple_getitem _ _)))
  show wpAny _ _ (Builtin.Tuple.tupleItemsOf (.ref t) >>= _) _ _ s
  refine wpAny_bind (tupleItemsOf_ ht ?_)
  refine wpAny_bind (wpAny_typeOf isS ?_)
  rw [if_pos (by decide)]
  have applied : ∀ (A' : Around) (E' : Value → Shared → Prop) (Q' : Int × Int × Nat → Shared → Prop), Q' ((items.size : Int) - 1, -1, items.size) s →
      wpAny (model prog w) A' (Builtin.Slice.sliceApplied (.ref sl) (pure (items.size : Int))) Q' E' s := fun A' E' Q' q => by
    unfold Builtin.Slice.sliceApplied Builtin.Slice.sliceFields
    refine wpAny_bind (wpAny_bind (wpAny_field hos hds (x := .none) rfl (wpAny_bind (wpAny_field hos hds (x := .none) rfl (wpAny_bind (wpAny_field hos hds (x := .int (-1) tk) rfl (wpAny_pure ?_)))))))
    refine wpAny_bind (slicePart_ (.int (-1) tk) ?_)
    show wpAny _ _ (if ((-1 : Int) == 0) = true then _ else _) _ _ s
    rw [if_neg (by decide)]
    refine wpAny_bind (slicePart_ .none (wpAny_bind (slicePart_ .none (wpAny_bind (wpAny_pure ?_)))))
    show wpAny _ _ (match Builtin.Slice.sliceAdjust none none (-1) (items.size : Int) with | (lo, hi) => pure (lo, (-1 : Int), Builtin.Slice.slicePlaces lo hi (-1))) _ _ s
    rw [rev_adjust]
    show wpAny _ _ (pure ((items.size : Int) - 1, (-1 : Int), Builtin.Slice.slicePlaces ((items.size : Int) - 1) (-1) (-1))) _ _ s
    rw [rev_places]
    exact wpAny_pure q
  refine wpAny_bind (applied _ _ _ ?_)
  have notw : ¬ ((((items.size : Int) - 1) == 0 && (-1 : Int) == 1 && items.size == items.size) = true) := by
    rw [show ((-1 : Int) == 1) = false by decide, Bool.and_false, Bool.false_and]
    decide
  show wpAny _ _ (if (((items.size : Int) - 1) == 0 && (-1 : Int) == 1 && items.size == items.size) = true then _ else _) _ _ s
  rw [if_neg notw, rev_pick]
  first
    | exact wpAny_bind (m := Builtin.Tuple.tupleExact _) (wpAny_newObj_type (wpAny_pure ⟨_, rfl, wpAny_pure h⟩) fits)
    | exact wpAny_bind (m := Builtin.Tuple.tupleExact _) (wpAny_newObj_type (wpAny_bind (wpAny_pure (wpAny_pure ⟨_, rfl, wpAny_pure h⟩))) fits)
    | exact wpAny_bind (wpAny_bind (m := Builtin.Tuple.tupleExact _) (wpAny_newObj_type (wpAny_pure (wpAny_pure ⟨_, rfl, wpAny_pure h⟩)) fits))
    | exact wpAny_bind (wpAny_bind (m := Builtin.Tuple.tupleExact _) (wpAny_newObj_type (wpAny_pure ⟨_, rfl, wpAny_pure h⟩) fits))
end
section
variable {X : Cx} {e : Expr} {te : TE}
def tRevT (K : PySem.W.Frag) (te : TE) : TE := fun σ H Q => te σ H fun x H1 => ∃ a xs, x = .ref a ∧ SqT K H1 a xs ∧ New H1 (.tup xs.reverse) Q
theorem pe_revT {p0 p1 p2 pos : Pos} {j : Nat} (he : PE X e te) :
    PE X (.Subscript e (.Slice none none (some (.UnaryOp .USub (.Constant (.int 1) j p0) p1)) p2) pos) (tRevT X.K te) := by
  constructor
  intro pins s σ H Q I h
  refine Subscript_ (thn (he.run pins s σ H _ I h) fun v s1 ⟨x, H1, I1, r1, a, xs, hx, hl, q⟩ => ?_)
  subst hx
  cases r1
  refine wpAny_Slice ?_
  rw [evalPart_none]
  refine wpAny_pure ?_
  refine wpAny_pure ?_
  rw [evalPart_some]
  have neg : PE X (.UnaryOp .USub (.Constant (.int 1) j p0) p1) _ := pe_un un_neg pe_int
  refine thn (neg.run pins s1 σ H1 (fun y H2 => y = .int (-1) ∧ H2 = H1) I1 ⟨1, rfl, rfl, rfl⟩) fun u s2 ⟨y, H2, I2, ry, hy, hH⟩ => ?_
  subst hy hH
  obtain ⟨t, rfl⟩ := ry
  have I4 : Inv X pins σ H2 { s2 with heap := s2.heap.push { cls := .type "slice", data := .fields #[.none, .none, .int (-1) t] } } :=
    I2.kept (t' := s2.toks) fun b ob z => Heap.get?_push_of_some _ z
  obtain ⟨its, r, ht, hz⟩ := I4.tuple hl
  have nl := r.length
  refine tail_any ht.typeIs PyProof.Rows.slot_tuple_getitem.lookup ?_ (by with_unfolding_all rfl)
  refine getItem_tuple_rev ht (Heap.IsSliceOf.new ..) (by rw [List.size_toArray] <;> omega) ?_
  refine ⟨.ref _, _, I4.laid (t' := s2.toks) (o := .tup xs.reverse) (fun b ob z => Heap.get?_push_of_some _ z) (Nat.le_refl _) ?_, rfl, q.go _ (I4.hok.fresh (Nat.le_refl _))⟩
  exact ⟨by rw [List.length_reverse]; exact hz, _, valsRev r, IsTup.new _ _⟩
end

/-! ### more rules that hand on a new object -/
section
variable {X : Cx}
def rCatTN (K : PySem.W.Frag) : R2 := fun x y H Q => ∃ a b xs ys, x = .ref a ∧ y = .ref b ∧ SqT K H a xs ∧ SqT K H b ys ∧ xs ≠ [] ∧ ys ≠ [] ∧
  xs.length + ys.length ≤ sizeLine ∧ New H (.tup (xs ++ ys)) Q
theorem op_catTN : OpR X (binaryOp .Add) (rCatTN X.K) := fun pins s σ H x y v u Q I rx ry ⟨a, b, xs, ys, h1, h2, h3, h4, h5, h6, h7, q⟩ =>
  op_catT pins s σ H x y v u Q I rx ry ⟨a, b, xs, ys, h1, h2, h3, h4, h5, h7, fun z => absurd z h6, fun _ => q.go⟩
def rCatLN : R2 := fun x y H Q => ∃ l b xs zs, x = .ref l ∧ y = .ref b ∧ H l = some (.lst xs) ∧ H b = some (.lst zs) ∧ xs.length + zs.length ≤ sizeLine ∧ New H (.lst (xs ++ zs)) Q
theorem op_catLN : OpR X (binaryOp .Add) rCatLN := fun pins s σ H x y v u Q I rx ry ⟨l, b, xs, zs, h1, h2, h3, h4, h5, q⟩ =>
  op_cat pins s σ H x y v u Q I rx ry ⟨l, b, xs, zs, h1, h2, h3, h4, h5, q.go⟩
theorem call_tuple_ofN : CallR X (.type "tuple") (fun xs H Q => ∃ p ys, xs = [.ref p] ∧ SqL X.K H p ys ∧ New H (.tup ys) Q) :=
  fun pins s σ H xs us Q I r ⟨p, ys, h1, h2, q⟩ => call_tuple_of pins s σ H xs us Q I r ⟨p, ys, h1, .inl ⟨h2, q.go⟩⟩
end
end Cl

namespace Cl
open PySem PySem.Spec PyProof.Rows L2
/-! ### what two lines have in common: the mathematics -/
abbrev Pt := Int × Int
abbrev Ln := Pt × Pt
abbrev S3 := Int × Int × Int
def trn (p q : Pt) : Int := p.1 * q.2 - p.2 * q.1
def less (p q : Pt) : Pt := (p.1 - q.1, p.2 - q.2)
def sp3 (n m d : Int) : S3 := (n / spP n m d, m / spP n m d, d / spP n m d)
theorem sp3_scale {n m d t : Int} (ht : 0 < t) (hd : 0 < d) : sp3 (n * t) (m * t) (d * t) = sp3 n m d := by
  have hdt : 0 < d * t := Int.mul_pos hd ht
  have e : spP (n * t) (m * t) (d * t) = spP n m d * t := by
    unfold spP gpar
    rw [if_neg (by omega), if_neg (by omega), Int.gcd_mul_right]
    have c : (((Int.gcd n m * t.natAbs : Nat)) : Int) = (Int.gcd n m : Nat) * t := by
      rw [Int.natCast_mul, Int.natAbs_of_nonneg (by omega)]
    rw [c, Int.gcd_mul_right, Int.natCast_mul, Int.natAbs_of_nonneg (by omega)]
  unfold sp3
  rw [e, Int.mul_ediv_mul_of_pos_left _ _ ht, Int.mul_ediv_mul_of_pos_left _ _ ht, Int.mul_ediv_mul_of_pos_left _ _ ht]
/-- the shares and their bottom, the bottom above nought -/
def kfs (l r : Ln) : Int := if trn (less l.2 l.1) (less r.2 r.1) < 0 then -1 else 1
def klm (l r : Ln) : Int × Int × Int :=
  (trn (less r.1 l.1) (less r.2 r.1) * kfs l r, trn (less r.1 l.1) (less l.2 l.1) * kfs l r, trn (less l.2 l.1) (less r.2 r.1) * kfs l r)
def acr (l r : Ln) : List S3 :=
  let t := klm l r
  if (0 ≤ t.1 ∧ t.1 ≤ t.2.2) ∧ (0 ≤ t.2.1 ∧ t.2.1 ≤ t.2.2) then
    [sp3 (t.2.2 * l.1.1 + t.1 * (l.2.1 - l.1.1)) (t.2.2 * l.1.2 + t.1 * (l.2.2 - l.1.2)) t.2.2] else []
def lo (l r : Ln) : Pt := mx (mn l.1 l.2) (mn r.1 r.2)
def hi (l r : Ln) : Pt := mn (mx l.1 l.2) (mx r.1 r.2)
def alo (l r : Ln) : List S3 :=
  if llt (hi l r) (lo l r) then [] else if lo l r = hi l r then [((lo l r).1, (lo l r).2, 1)] else [((lo l r).1, (lo l r).2, 1), ((hi l r).1, (hi l r).2, 1)]
def cmn (l r : Ln) : List S3 :=
  if trn (less l.2 l.1) (less r.2 r.1) ≠ 0 then acr l r else if trn (less l.2 l.1) (less r.1 l.1) ≠ 0 then [] else alo l r
def rev (l : Ln) : Ln := (l.2, l.1)

theorem trn_neg (p q : Pt) : trn p q = -trn q p := by
  unfold trn; grind
theorem mn_comm (p q : Pt) : mn p q = mn q p := by
  obtain ⟨a, b⟩ := p
  obtain ⟨c, d⟩ := q
  unfold mn llt
  by_cases h1 : c < a ∨ (c = a ∧ d < b) <;> by_cases h2 : a < c ∨ (a = c ∧ b < d) <;> simp [h1, h2] <;> omega
theorem mx_comm (p q : Pt) : mx p q = mx q p := by
  obtain ⟨a, b⟩ := p
  obtain ⟨c, d⟩ := q
  unfold mx llt
  by_cases h1 : c < a ∨ (c = a ∧ d < b) <;> by_cases h2 : a < c ∨ (a = c ∧ b < d) <;> simp [h1, h2] <;> omega
theorem lo_swap (l r : Ln) : lo r l = lo l r := mx_comm ..
theorem hi_swap (l r : Ln) : hi r l = hi l r := mn_comm ..
theorem alo_swap (l r : Ln) : alo r l = alo l r := by unfold alo; rw [lo_swap, hi_swap]
theorem alo_rev (l r : Ln) : alo (rev l) r = alo l r := by
  unfold alo lo hi rev
  rw [mn_comm l.2, mx_comm l.2]

theorem klm_swap (l r : Ln) (h : trn (less l.2 l.1) (less r.2 r.1) ≠ 0) : klm r l = ((klm l r).2.1, (klm l r).1, (klm l r).2.2) := by
  have e := trn_neg (less r.2 r.1) (less l.2 l.1)
  have ek : kfs r l = -kfs l r := by
    unfold kfs
    rw [e]
    split <;> split <;> omega
  unfold klm
  rw [ek]
  unfold trn less
  refine Prod.ext ?_ (Prod.ext ?_ ?_) <;> simp only <;> grind
theorem klm_pos (l r : Ln) (h : trn (less l.2 l.1) (less r.2 r.1) ≠ 0) : 0 < (klm l r).2.2 := by
  show 0 < trn (less l.2 l.1) (less r.2 r.1) * kfs l r
  unfold kfs
  split <;> omega
theorem acr_swap (l r : Ln) (h : trn (less l.2 l.1) (less r.2 r.1) ≠ 0) : acr r l = acr l r := by
  unfold acr
  rw [klm_swap l r h]
  simp only
  have e1 : (klm l r).2.2 * r.1.1 + (klm l r).2.1 * (r.2.1 - r.1.1) = (klm l r).2.2 * l.1.1 + (klm l r).1 * (l.2.1 - l.1.1) := by
    unfold klm trn less
    simp only
    grind
  have e2 : (klm l r).2.2 * r.1.2 + (klm l r).2.1 * (r.2.2 - r.1.2) = (klm l r).2.2 * l.1.2 + (klm l r).1 * (l.2.2 - l.1.2) := by
    unfold klm trn less
    simp only
    grind
  rw [e1, e2]
  split <;> split <;> first | rfl | (exfalso; omega)
theorem klm_rev (l r : Ln) (h : trn (less l.2 l.1) (less r.2 r.1) ≠ 0) : klm (rev l) r = ((klm l r).2.2 - (klm l r).1, (klm l r).2.1, (klm l r).2.2) := by
  have e : trn (less l.1 l.2) (less r.2 r.1) = -trn (less l.2 l.1) (less r.2 r.1) := by unfold trn less; grind
  have ek : kfs (rev l) r = -kfs l r := by
    unfold kfs rev
    simp only
    rw [e]
    split <;> split <;> omega
  unfold klm
  rw [ek]
  unfold trn less rev
  refine Prod.ext ?_ (Prod.ext ?_ ?_) <;> simp only <;> grind
theorem acr_rev (l r : Ln) (h : trn (less l.2 l.1) (less r.2 r.1) ≠ 0) : acr (rev l) r = acr l r := by
  unfold acr
  rw [klm_rev l r h]
  simp only
  have e1 : (klm l r).2.2 * (rev l).1.1 + ((klm l r).2.2 - (klm l r).1) * ((rev l).2.1 - (rev l).1.1) = (klm l r).2.2 * l.1.1 + (klm l r).1 * (l.2.1 - l.1.1) := by
    unfold rev
    grind
  have e2 : (klm l r).2.2 * (rev l).1.2 + ((klm l r).2.2 - (klm l r).1) * ((rev l).2.2 - (rev l).1.2) = (klm l r).2.2 * l.1.2 + (klm l r).1 * (l.2.2 - l.1.2) := by
    unfold rev
    grind
  rw [e1, e2]
  split <;> split <;> first | rfl | (exfalso; omega)
theorem cmn_rev (l r : Ln) : cmn (rev l) r = cmn l r := by
  have e : trn (less l.1 l.2) (less r.2 r.1) = -trn (less l.2 l.1) (less r.2 r.1) := by unfold trn less; grind
  have e2 : trn (less l.1 l.2) (less r.1 l.2) = -trn (less l.2 l.1) (less r.1 l.1) := by unfold trn less; grind
  unfold cmn
  show (if trn (less l.1 l.2) (less r.2 r.1) ≠ 0 then acr (rev l) r else if trn (less l.1 l.2) (less r.1 l.2) ≠ 0 then [] else alo (rev l) r) = _
  rw [e, e2, alo_rev]
  by_cases h : trn (less l.2 l.1) (less r.2 r.1) = 0
  · rw [h]; by_cases h2 : trn (less l.2 l.1) (less r.1 l.1) = 0 <;> simp [h2]
  · rw [if_pos (by omega), if_pos h, acr_rev l r h]
theorem par (w u f : Pt) (hw : w ≠ (0, 0)) (h1 : trn w u = 0) (h2 : trn w f = 0) : trn u f = 0 := by
  obtain ⟨w1, w2⟩ := w
  obtain ⟨u1, u2⟩ := u
  obtain ⟨f1, f2⟩ := f
  unfold trn at *
  simp only at *
  by_cases h : w1 = 0
  · have h0 : w2 ≠ 0 := fun z => hw (by rw [h, z])
    have : w2 * (u1 * f2 - u2 * f1) = 0 := by grind
    rcases Int.mul_eq_zero.mp this with z | z
    · exact absurd z h0
    · exact z
  · have : w1 * (u1 * f2 - u2 * f1) = 0 := by grind
    rcases Int.mul_eq_zero.mp this with z | z
    · exact absurd z h
    · exact z
theorem less_ne {p q : Pt} (h : q ≠ p) : less p q ≠ (0, 0) := fun z => h (by
  obtain ⟨a, b⟩ := p
  obtain ⟨c, d⟩ := q
  unfold less at z
  injection z with z1 z2
  simp only at z1 z2
  exact Prod.ext (by simp only; omega) (by simp only; omega))
theorem cmn_swap (l r : Ln) (hl : l.1 ≠ l.2) (hr : r.1 ≠ r.2) : cmn r l = cmn l r := by
  unfold cmn
  have e := trn_neg (less r.2 r.1) (less l.2 l.1)
  by_cases h : trn (less l.2 l.1) (less r.2 r.1) = 0
  · rw [e, h, alo_swap]
    have e3 : trn (less r.2 r.1) (less l.1 r.1) = 0 ↔ trn (less l.2 l.1) (less r.1 l.1) = 0 := by
      have n1 : ∀ p : Pt, trn p (less l.1 r.1) = -trn p (less r.1 l.1) := fun p => by unfold trn less; grind
      rw [n1]
      constructor
      · intro z
        exact par _ _ _ (less_ne hr) (by rw [e, h]; rfl) (by omega)
      · intro z
        have := par _ _ _ (less_ne hl) h z
        omega
    by_cases h2 : trn (less l.2 l.1) (less r.1 l.1) = 0
    · simp [h2, e3.mpr h2]
    · simp [h2, show ¬ trn (less r.2 r.1) (less l.1 r.1) = 0 from fun z => h2 (e3.mp z)]
  · rw [if_pos (by omega), if_pos h, acr_swap l r h]
theorem cmn_rev2 (l r : Ln) (hl : l.1 ≠ l.2) (hr : r.1 ≠ r.2) : cmn l (rev r) = cmn l r := by
  rw [← cmn_swap l (rev r) hl (fun z => hr z.symm), cmn_rev, cmn_swap l r hl hr]

/-! ### along one straight line: the first and the last of what lies in both -/
def ple (p q : Pt) : Prop := llt q p = false
theorem ple_iff {p q : Pt} : ple p q ↔ ¬ (q.1 < p.1 ∨ (q.1 = p.1 ∧ q.2 < p.2)) := by
  unfold ple llt
  exact decide_eq_false_iff_not
theorem ple_refl (p : Pt) : ple p p := ple_iff.mpr (by omega)
theorem ple_trans {p q r : Pt} (h1 : ple p q) (h2 : ple q r) : ple p r := by
  rw [ple_iff] at *
  omega
theorem ple_antisymm {p q : Pt} (h1 : ple p q) (h2 : ple q p) : p = q := by
  rw [ple_iff] at *
  exact Prod.ext (by omega) (by omega)
theorem ple_of {p q : Pt} (h : llt p q = true) : ple p q := by
  have h := of_decide_eq_true h
  rw [ple_iff]
  omega
theorem mn_or (p q : Pt) : (mn p q = p ∨ mn p q = q) ∧ ple (mn p q) p ∧ ple (mn p q) q := by
  unfold mn
  cases h : llt q p with
  | true => exact ⟨.inr rfl, ple_of h, ple_refl _⟩
  | false => exact ⟨.inl rfl, ple_refl _, h⟩
theorem mx_or (p q : Pt) : (mx p q = p ∨ mx p q = q) ∧ ple p (mx p q) ∧ ple q (mx p q) := by
  unfold mx
  cases h : llt p q with
  | true => exact ⟨.inr rfl, ple_of h, ple_refl _⟩
  | false => exact ⟨.inl rfl, ple_refl _, h⟩
def within (p : Pt) (r : Ln) : Prop := ple (mn r.1 r.2) p ∧ ple p (mx r.1 r.2)
def inBoth (l r : Ln) (p : Pt) : Prop := ((p = l.1 ∨ p = l.2) ∧ within p r) ∨ ((p = r.1 ∨ p = r.2) ∧ within p l)
theorem self_in {p : Pt} {l : Ln} (h : p = l.1 ∨ p = l.2) : within p l := by
  obtain ⟨_, a2, a3⟩ := mn_or l.1 l.2
  obtain ⟨_, b2, b3⟩ := mx_or l.1 l.2
  rcases h with rfl | rfl
  · exact ⟨a2, b2⟩
  · exact ⟨a3, b3⟩
theorem inBoth_two {l r : Ln} {p : Pt} (h : inBoth l r p) : within p l ∧ within p r := by
  rcases h with ⟨h1, h2⟩ | ⟨h1, h2⟩
  · exact ⟨self_in h1, h2⟩
  · exact ⟨h2, self_in h1⟩
theorem inBoth_mid {l r : Ln} {p : Pt} (h : inBoth l r p) : ple (lo l r) p ∧ ple p (hi l r) := by
  obtain ⟨⟨a1, a2⟩, b1, b2⟩ := inBoth_two h
  unfold lo hi
  constructor
  · rcases (mx_or (mn l.1 l.2) (mn r.1 r.2)).1 with z | z <;> rw [z] <;> assumption
  · rcases (mn_or (mx l.1 l.2) (mx r.1 r.2)).1 with z | z <;> rw [z] <;> assumption
theorem lo_in {l r : Ln} (h : ple (lo l r) (hi l r)) : inBoth l r (lo l r) := by
  have hl : ple (lo l r) (mx l.1 l.2) := ple_trans h (mn_or _ _).2.1
  have hr : ple (lo l r) (mx r.1 r.2) := ple_trans h (mn_or _ _).2.2
  obtain ⟨c, d1, d2⟩ := mx_or (mn l.1 l.2) (mn r.1 r.2)
  rcases c with z | z
  · refine .inl ⟨?_, d2, hr⟩
    show lo l r = _ ∨ lo l r = _
    unfold lo; rw [z]; exact (mn_or _ _).1
  · refine .inr ⟨?_, d1, hl⟩
    show lo l r = _ ∨ lo l r = _
    unfold lo; rw [z]; exact (mn_or _ _).1
theorem hi_in {l r : Ln} (h : ple (lo l r) (hi l r)) : inBoth l r (hi l r) := by
  have hl : ple (mn l.1 l.2) (hi l r) := ple_trans (mx_or _ _).2.1 h
  have hr : ple (mn r.1 r.2) (hi l r) := ple_trans (mx_or _ _).2.2 h
  obtain ⟨c, d1, d2⟩ := mn_or (mx l.1 l.2) (mx r.1 r.2)
  rcases c with z | z
  · refine .inl ⟨?_, hr, d2⟩
    show hi l r = _ ∨ hi l r = _
    unfold hi; rw [z]; exact (mx_or _ _).1
  · refine .inr ⟨?_, hl, d1⟩
    show hi l r = _ ∨ hi l r = _
    unfold hi; rw [z]; exact (mx_or _ _).1
def one3 (p : Pt) : S3 := (p.1, p.2, 1)
theorem along_due (l r : Ln) (T : List Pt) (hs : T.Pairwise ple) (nd : T.Nodup) (mem : ∀ p, p ∈ T ↔ inBoth l r p) :
    (T.take 1 ++ (T.drop 1).drop ((T.drop 1).length - 1)).map one3 = alo l r := by
  unfold alo
  cases hh : llt (hi l r) (lo l r) with
  | true =>
    have : T = [] := by
      refine List.eq_nil_iff_forall_not_mem.mpr fun p hp => ?_
      obtain ⟨a, b⟩ := inBoth_mid ((mem p).mp hp)
      have z : ple (lo l r) (hi l r) := ple_trans a b
      unfold ple at z
      rw [hh] at z
      cases z
    subst this
    rfl
  | false =>
    have hle : ple (lo l r) (hi l r) := hh
    have m1 := (mem _).mpr (lo_in hle)
    have m2 := (mem _).mpr (hi_in hle)
    cases T with
    | nil => cases m1
    | cons a t =>
      obtain ⟨p1, p2⟩ := List.pairwise_cons.mp hs
      obtain ⟨n1, n2⟩ := List.nodup_cons.mp nd
      have ha : a = lo l r := by
        have b := (inBoth_mid ((mem a).mp List.mem_cons_self)).1
        rcases List.mem_cons.mp m1 with z | z
        · exact z.symm
        · exact ple_antisymm (p1 _ z) b
      subst ha
      rw [if_neg (by decide)]
      rcases List.eq_nil_or_concat t with rfl | ⟨t', b, rfl⟩
      · have : hi l r = lo l r := by simpa using m2
        rw [if_pos this.symm]
        rfl
      · have hb : b = hi l r := by
          have c := (inBoth_mid ((mem b).mp (List.mem_cons_of_mem _ (by simp)))).2
          refine ple_antisymm c ?_
          rcases List.mem_cons.mp m2 with z | z
          · rw [z]; exact p1 b (by simp)
          · rcases List.mem_append.mp (by simpa using z : hi l r ∈ t' ++ [b]) with z | z
            · rw [List.concat_eq_append] at p2
              exact (List.pairwise_append.mp p2).2.2 _ z _ (by simp)
            · rw [List.mem_singleton.mp z]; exact ple_refl _
        have ne : lo l r ≠ hi l r := fun z => n1 (by rw [z, ← hb]; simp)
        rw [if_neg ne]
        subst hb
        simp [one3]
end Cl

namespace Cl
open PySem PySem.Spec PyProof.Rows L2
/-! ### lines, spots and tuples of them where they stand -/
def AtL (K : PySem.W.Frag) (H : Hp) (v : V) (l : Ln) : Prop := ∃ a u w, v = .ref a ∧ SqT K H a [u, w] ∧ At2 K H u l.1 ∧ At2 K H w l.2
def At3 (K : PySem.W.Frag) (H : Hp) (v : V) (s : S3) : Prop := ∃ a, v = .ref a ∧ SqT K H a [.int s.1, .int s.2.1, .int s.2.2]
inductive AllAt {α : Type} (R : V → α → Prop) : List V → List α → Prop
  | nil : AllAt R [] []
  | cons {v : V} {x : α} {vs : List V} {xs : List α} : R v x → AllAt R vs xs → AllAt R (v :: vs) (x :: xs)
def AtS (K : PySem.W.Frag) (H : Hp) (v : V) (ss : List S3) : Prop := ∃ a vs, v = .ref a ∧ SqT K H a vs ∧ AllAt (At3 K H) vs ss
def AtP (K : PySem.W.Frag) (H : Hp) (v : V) (ps : List Pt) : Prop := ∃ a vs, v = .ref a ∧ SqT K H a vs ∧ AllAt (At2 K H) vs ps
def BdP (p : Pt) : Prop := (-(2 ^ 60) < p.1 ∧ p.1 < 2 ^ 60) ∧ (-(2 ^ 60) < p.2 ∧ p.2 < 2 ^ 60)
def BdC (p : Pt) : Prop := (-(2 ^ 40) < p.1 ∧ p.1 < 2 ^ 40) ∧ (-(2 ^ 40) < p.2 ∧ p.2 < 2 ^ 40)
def BdL (l : Ln) : Prop := BdC l.1 ∧ BdC l.2
section
variable {K : PySem.W.Frag} {H H' : Hp} {v : V}
theorem AtL.same {l : Ln} (h : AtL K H v l) (s : Same H H') : AtL K H' v l := by
  obtain ⟨a, u, w, rfl, h1, h2, h3⟩ := h
  exact ⟨a, u, w, rfl, seT s h1, h2.same s, h3.same s⟩
theorem At3.same {t : S3} (h : At3 K H v t) (s : Same H H') : At3 K H' v t := by
  obtain ⟨a, rfl, h⟩ := h
  exact ⟨a, rfl, seT s h⟩
theorem AllAt.map {α : Type} {R R' : V → α → Prop} (f : ∀ v x, R v x → R' v x) : ∀ {vs : List V} {xs : List α}, AllAt R vs xs → AllAt R' vs xs
  | _, _, .nil => .nil
  | _, _, .cons h t => .cons (f _ _ h) (AllAt.map f t)
theorem AllAt.length {α : Type} {R : V → α → Prop} : ∀ {vs : List V} {xs : List α}, AllAt R vs xs → vs.length = xs.length
  | _, _, .nil => rfl
  | _, _, .cons _ t => by rw [List.length_cons, List.length_cons, t.length]
theorem AllAt.get {α : Type} {R : V → α → Prop} : ∀ {vs : List V} {xs : List α} {i : Nat} {v : V}, AllAt R vs xs → vs[i]? = some v → ∃ x, xs[i]? = some x ∧ R v x
  | _, _, 0, v, .cons h t, e => by cases e; exact ⟨_, rfl, h⟩
  | _, _, i + 1, v, .cons h t, e => AllAt.get t (i := i) e
theorem AllAt.app {α : Type} {R : V → α → Prop} : ∀ {vs ws : List V} {xs ys : List α}, AllAt R vs xs → AllAt R ws ys → AllAt R (vs ++ ws) (xs ++ ys)
  | _, _, _, _, .nil, h => h
  | _, _, _, _, .cons a t, h => .cons a (AllAt.app t h)
theorem AtS.same {ss : List S3} (h : AtS K H v ss) (s : Same H H') : AtS K H' v ss := by
  obtain ⟨a, vs, rfl, h1, h2⟩ := h
  exact ⟨a, vs, rfl, seT s h1, h2.map fun _ _ z => z.same s⟩
theorem AtP.same {ps : List Pt} (h : AtP K H v ps) (s : Same H H') : AtP K H' v ps := by
  obtain ⟨a, vs, rfl, h1, h2⟩ := h
  exact ⟨a, vs, rfl, seT s h1, h2.map fun _ _ z => z.same s⟩
def d3 (s : S3) : PyData := .tuple [.int s.1, .int s.2.1, .int s.2.2]
theorem AtS.dp {ss : List S3} (h : AtS K H v ss) : Dp K H v (.tuple (ss.map d3)) := by
  obtain ⟨a, vs, rfl, h1, h2⟩ := h
  refine .tup h1 ?_
  clear h1
  induction h2 with
  | nil => exact .nil
  | cons h t ih =>
    obtain ⟨b, rfl, h⟩ := h
    exact .cons (.tup h (.cons (.int _) (.cons (.int _) (.cons (.int _) .nil)))) ih
theorem AtL.rev {l : Ln} {a : Addr} {xs : List V} (h : AtL K H (.ref a) l) (h2 : SqT K H a xs) : True := trivial
end
theorem bd_less {p q : Pt} (h1 : BdC p) (h2 : BdC q) : BdP (less p q) := by
  unfold BdP BdC less at *
  simp only at *
  omega
theorem BdL.rev {l : Ln} (h : BdL l) : BdL (rev l) := ⟨h.2, h.1⟩
/-! ### promises of the program's defs -/
def spStep (K : PySem.W.Frag) : Sp := fun vs H Q _ => ∃ v l, vs = [v] ∧ AtL K H v l ∧ ∀ w H', Same H H' → At2 K H' w (less l.2 l.1) → Q w H'
def spTurn (K : PySem.W.Frag) : Sp := fun vs H Q _ => ∃ u v p q, vs = [u, v] ∧ At2 K H u p ∧ At2 K H v q ∧ BdP p ∧ Q (.int (trn p q)) H
def spSide (K : PySem.W.Frag) : Sp := fun vs H Q _ => ∃ u v l p, vs = [u, v] ∧ AtL K H u l ∧ At2 K H v p ∧ BdL l ∧ ∀ H', Same H H' → Q (.int (trn (less l.2 l.1) (less p l.1))) H'
def spSpotAt (K : PySem.W.Frag) : Sp := fun vs H Q _ => ∃ v l k m, vs = [v, .int k, .int m] ∧ AtL K H v l ∧ BdL l ∧ m ≠ 0 ∧ m.natAbs < 2 ^ 200 ∧
  ∀ w H', Same H H' → At3 K H' w (sp3 (m * l.1.1 + k * (l.2.1 - l.1.1)) (m * l.1.2 + k * (l.2.2 - l.1.2)) m) → Q w H'
def spTwo (K : PySem.W.Frag) (f : Ln → Ln → List S3) (C : Ln → Ln → Prop) : Sp := fun vs H Q _ => ∃ u v l r, vs = [u, v] ∧ AtL K H u l ∧ AtL K H v r ∧ BdL l ∧ BdL r ∧ C l r ∧
  ∀ w H', Same H H' → AtS K H' w (f l r) → Q w H'
theorem trn_lt {p q : Pt} (hp : BdP p) (hq : BdP q) : (trn p q).natAbs < 2 ^ 122 := by
  unfold BdP at *
  unfold trn
  have b : ∀ a b : Int, -(2 ^ 60) < a → a < 2 ^ 60 → -(2 ^ 60) < b → b < 2 ^ 60 → (a * b).natAbs < 2 ^ 120 := fun a b h1 h2 h3 h4 => wide_lt (a := 60) (b := 60) (by omega) (by omega)
  have b1 := b p.1 q.2 (by omega) (by omega) (by omega) (by omega)
  have b2 := b p.2 q.1 (by omega) (by omega) (by omega) (by omega)
  omega

section
variable {K : PySem.W.Frag} {H H' : Hp} {v : V} {d l : Addr}
theorem stT {a : Addr} {xs : List V} (S : Step d l H H') (D : Deck H d l) (h : SqT K H a xs) : SqT K H' a xs := by
  obtain ⟨ns, s, c, h1, h2, h3⟩ := D.ex
  rcases h with (h | ⟨o, h⟩) | h
  · exact .inl (.inl (S.tupH D h))
  · exact .inl (.inr ⟨o, S.at (ne_of h h1 (by intro z; cases z)) (ne_of h h2 (by intro z; cases z)) h⟩)
  · exact .inr h
theorem At2.step {p : Pt} (h : At2 K H v p) (S : Step d l H H') (D : Deck H d l) : At2 K H' v p := by
  obtain ⟨a, rfl, h⟩ := h
  exact ⟨a, rfl, stT S D h⟩
theorem AtL.step {r : Ln} (h : AtL K H v r) (S : Step d l H H') (D : Deck H d l) : AtL K H' v r := by
  obtain ⟨a, u, w, rfl, h1, h2, h3⟩ := h
  exact ⟨a, u, w, rfl, stT S D h1, h2.step S D, h3.step S D⟩
end
def BdN (B : Int) (p : Pt) : Prop := (-B ≤ p.1 ∧ p.1 ≤ B) ∧ (-B ≤ p.2 ∧ p.2 ≤ B)
def spUnlike (K : PySem.W.Frag) : Sp := fun vs H Q _ => ∃ u v p q, vs = [u, v] ∧ At2 K H u p ∧ At2 K H v q ∧
  ∀ w H' l, Same H H' → AtL K H' w l → l.1 = p → l.1 ≠ l.2 → (l.2 = q ∨ l.2 = (p.1 + 1, p.2)) → Q w H'
def spLess (K : PySem.W.Frag) : Sp := fun vs H Q _ => ∃ u v p q, vs = [u, v] ∧ At2 K H u p ∧ At2 K H v q ∧ ∀ w H', Same H H' → At2 K H' w (less p q) → Q w H'
def spLowest (K : PySem.W.Frag) : Sp := fun vs H Q _ => ∃ n m d : Int, vs = [.int n, .int m, .int d] ∧ 0 < d ∧ d.natAbs < 2 ^ 200 ∧ ∀ w H', Same H H' → At3 K H' w (sp3 n m d) → Q w H'
def spRight (K : PySem.W.Frag) : Sp := fun vs H Q _ => ∃ u v l r, vs = [u, v] ∧ AtL K H u l ∧ AtL K H v r ∧ BdL l ∧ BdL r ∧ l.1 ≠ l.2 ∧ r.1 ≠ r.2 ∧ ∀ H', Same H H' → Q (.bl true) H'
theorem gcd_fmod (a b : Int) (h : b ≠ 0) : Int.gcd b (a.fmod b) = Int.gcd a b := by
  have e : a.fmod b = a - b * a.fdiv b := Int.fmod_def a b
  rw [e, Int.gcd_comm a b, Int.sub_eq_add_neg, ← Int.mul_neg, Int.gcd_add_mul_left_right]
theorem fmod_small (a b : Int) (h : b ≠ 0) : (a.fmod b).natAbs < b.natAbs := by
  rcases Int.lt_or_gt_of_ne h with hb | hb
  · have e1 : (-a).fmod (-b) = -(a.fmod b) := Int.neg_fmod_neg ..
    have h1 := Int.fmod_nonneg_of_pos (-a) (show 0 < -b by omega)
    have h2 := Int.fmod_lt_of_pos (-a) (show 0 < -b by omega)
    omega
  · have h1 := Int.fmod_nonneg_of_pos a hb
    have h2 := Int.fmod_lt_of_pos a hb
    omega

/-! ### what a comprehension picks of two points -/
structure Sel (K : PySem.W.Frag) (H0 : Hp) (pts : List Pt) (r : Ln) (i : Nat) (ks : List (Addr × List Int)) : Prop where
  tup : ∀ q ∈ ks, SqT K H0 q.1 (q.2.map V.int) ∧ q.2.length = 2
  len : ks.length ≤ i
  mem : ∀ x, (∃ q ∈ ks, pr q = x) ↔ ∃ j, j < i ∧ pts[j]? = some x ∧ within x r
section
variable {K : PySem.W.Frag} {H0 : Hp} {pts : List Pt} {r : Ln} {i : Nat} {ks : List (Addr × List Int)} {pt : Pt} {c : Addr}
theorem Sel.nil : Sel K H0 pts r 0 [] := ⟨fun q h => (nomatch h), Nat.le_refl _, fun x => ⟨fun ⟨q, h, _⟩ => (nomatch h), fun ⟨j, h, _⟩ => absurd h (Nat.not_lt_zero _)⟩⟩
theorem Sel.keep (S : Sel K H0 pts r i ks) (h : pts[i]? = some pt) (w : within pt r) (hc : SqT K H0 c [.int pt.1, .int pt.2]) :
    Sel K H0 pts r (i + 1) (ks ++ [(c, [pt.1, pt.2])]) := by
  refine ⟨fun q hq => ?_, by rw [List.length_append]; exact Nat.add_le_add_right S.len 1, fun x => ⟨?_, ?_⟩⟩
  · rcases List.mem_append.mp hq with z | z
    · exact S.tup q z
    · rw [List.mem_singleton.mp z]; exact ⟨hc, rfl⟩
  · rintro ⟨q, hq, e⟩
    rcases List.mem_append.mp hq with z | z
    · obtain ⟨j, a, b⟩ := (S.mem x).mp ⟨q, z, e⟩
      exact ⟨j, by omega, b⟩
    · rw [List.mem_singleton.mp z] at e
      subst e
      exact ⟨i, by omega, h, w⟩
  · rintro ⟨j, hj, a, b⟩
    by_cases e : j = i
    · subst e
      rw [h] at a
      cases a
      exact ⟨_, List.mem_append.mpr (.inr (List.mem_singleton.mpr rfl)), rfl⟩
    · obtain ⟨q, z, e2⟩ := (S.mem x).mpr ⟨j, by omega, a, b⟩
      exact ⟨q, List.mem_append.mpr (.inl z), e2⟩
theorem Sel.drop (S : Sel K H0 pts r i ks) (h : pts[i]? = some pt) (w : ¬ within pt r) : Sel K H0 pts r (i + 1) ks := by
  refine ⟨S.tup, Nat.le_succ_of_le S.len, fun x => ⟨fun z => ?_, ?_⟩⟩
  · obtain ⟨j, a, b⟩ := (S.mem x).mp z
    exact ⟨j, by omega, b⟩
  · rintro ⟨j, hj, a, b⟩
    by_cases e : j = i
    · subst e
      rw [h] at a
      cases a
      exact absurd b w
    · exact (S.mem x).mpr ⟨j, by omega, a, b⟩
theorem Sel.two {p q : Pt} (S : Sel K H0 [p, q] r 2 ks) (x : Pt) : (∃ q ∈ ks, pr q = x) ↔ (x = p ∨ x = q) ∧ within x r := by
  rw [S.mem x]
  constructor
  · rintro ⟨j, hj, a, b⟩
    match j, hj, a with
    | 0, _, a => cases a; exact ⟨.inl rfl, b⟩
    | 1, _, a => cases a; exact ⟨.inr rfl, b⟩
  · rintro ⟨a | a, b⟩
    · exact ⟨0, by omega, by rw [a]; rfl, b⟩
    · exact ⟨1, by omega, by rw [a]; rfl, b⟩
end
theorem pr_ints {q : Addr × List Int} (h : q.2.length = 2) : q.2.map V.int = [.int (pr q).1, .int (pr q).2] := by
  rw [pr_of h]
  rfl
theorem nodup_pr {L : List (Addr × List Int)} (h : ∀ q ∈ L, q.2.length = 2) (nd : (L.map (·.2)).Nodup) : (L.map pr).Nodup := by
  have e : ∀ l : List (Addr × List Int), (∀ q ∈ l, q.2.length = 2) → l.map (·.2) = (l.map pr).map fun p : Pt => [p.1, p.2] := by
    intro l
    induction l with
    | nil => intro _; rfl
    | cons q l ih =>
      intro h
      rw [List.map_cons, List.map_cons, List.map_cons, ih fun r hr => h r (List.mem_cons_of_mem _ hr), pr_of (h q List.mem_cons_self)]
  rw [e L h] at nd
  exact List.Pairwise.of_map _ (fun _ _ hne z => hne (by rw [z])) nd
theorem cut_first (xs : List V) : cutV xs none (some 1) = xs.take 1 := by
  unfold cutV
  rw [HT.sIx_none, show HT.sIx xs.length xs.length (some 1) = min 1 xs.length from HT.sIx_nat _ _ 1, List.drop_zero, Nat.sub_zero]
  cases xs with
  | nil => rfl
  | cons x r => rw [List.length_cons, Nat.min_eq_left (by omega)]
theorem cut_rest (xs : List V) : cutV xs (some 1) none = xs.drop 1 := by
  unfold cutV
  rw [HT.sIx_none, show HT.sIx xs.length 0 (some 1) = min 1 xs.length from HT.sIx_nat _ _ 1]
  cases xs with
  | nil => rfl
  | cons x r =>
    rw [List.length_cons, Nat.min_eq_left (by omega)]
    show List.take (r.length + 1 - 1) r = r
    rw [Nat.add_sub_cancel, List.take_length]
theorem cut_last (xs : List V) : cutV xs (some (-1)) none = xs.drop (xs.length - 1) := by
  unfold cutV
  have e : HT.sIx xs.length 0 (some (-1)) = xs.length - 1 := by
    show (if (-1 : Int) < 0 then ((-1 : Int) + (xs.length : Int)).toNat else min (-1 : Int).toNat xs.length) = _
    rw [if_pos (by decide)]
    omega
  rw [HT.sIx_none, e]
  exact List.take_of_length_le (by rw [List.length_drop]; omega)

/-! ### the same rules within a comprehension, the written part named -/
section
variable {X : Cx} {K : PySem.W.Frag}
theorem op_le2k (hK : X.K = K) (hu : X.A.units + 64 < cLine) : OpR X (compareOp .LtE) (rCmp2 K fun p q => !llt q p) := hK ▸ op_le2 hu
theorem op_gt2k (hK : X.K = K) (hu : X.A.units + 64 < cLine) : OpR X (compareOp .Gt) (rCmp2 K fun p q => llt q p) := hK ▸ op_gt2 hu
theorem cr_min1k (hK : X.K = K) (hc : X.calm = true) (hu : X.A.units + 64 < cLine) : CallR X (.builtin "min") (rBest1 K mn) := hK ▸ cr_min1 hc hu
theorem cr_max1k (hK : X.K = K) (hc : X.calm = true) (hu : X.A.units + 64 < cLine) : CallR X (.builtin "max") (rBest1 K mx) := hK ▸ cr_max1 hc hu
theorem op_catTNk (hK : X.K = K) : OpR X (binaryOp .Add) (rCatTN K) := hK ▸ op_catTN
theorem ix_tupk (hK : X.K = K) : IxR X (rIxT K) := hK ▸ ix_tup
theorem ix_listk (hK : X.K = K) : IxR X (rIxL K) := hK ▸ ix_list
theorem op_neDk (hK : X.K = K) (hu : X.A.units + 64 < cLine) : OpR X (compareOp .NotEq) (rNeD K) := hK ▸ op_neD hu
theorem op_eqDk (hK : X.K = K) (hu : X.A.units + 64 < cLine) : OpR X (compareOp .Eq) (rEqD K) := hK ▸ op_eqD hu
end

theorem acc3 {K : PySem.W.Frag} {H5 H' H7 : Hp} {pD p7 : Addr} {ws : List V} {ss : List S3} {t : S3} (nD : H5 pD = none) (t1 : Same H5 H') (e : H' pD = some (.lst ws))
    (all : AllAt (At3 K H') ws ss) (s7 : Same H' H7) (n7 : H' p7 = none) (g7 : H7 p7 = some (.tup [.int t.1, .int t.2.1, .int t.2.2])) (len : ss.length ≤ 900) :
    ∃ acc, H7 pD = some (.lst acc) ∧ acc.length < sizeLine ∧ (Same H5 (upd H7 pD (.lst (acc ++ [.ref p7]))) ∧
      ∃ ws', (upd H7 pD (.lst (acc ++ [.ref p7]))) pD = some (.lst ws') ∧ AllAt (At3 K (upd H7 pD (.lst (acc ++ [.ref p7])))) ws' (ss ++ [t])) := by
  have npD : pD ≠ p7 := ne_of_none e n7
  have k7 := s7 _ _ e
  have lw := all.length
  have sT : ∀ {o : HO} {b : Addr} {xs : List V}, SqT K H7 b xs → SqT K (upd H7 pD o) b xs := fun {o b xs} z => by
    rcases z with (z | ⟨oo, z⟩) | z
    · exact .inl (.inl (by rw [upd_ne (ne_of z k7 (by intro z; cases z))]; exact z))
    · exact .inl (.inr ⟨oo, by rw [upd_ne (ne_of z k7 (by intro z; cases z))]; exact z⟩)
    · exact .inr z
  refine ⟨ws, k7, small1000 (by omega), fun b o z => ?_, ws ++ [.ref p7], upd_same, ?_⟩
  · rw [upd_ne (ne_of_none z nD)]
    exact (t1.trans s7) _ _ z
  · refine AllAt.app (all.map fun v s h => ?_) (.cons ⟨p7, rfl, .inl (.inl ?_)⟩ .nil)
    · obtain ⟨b, rfl, h9⟩ := h.same s7
      exact ⟨b, rfl, sT h9⟩
    · rw [upd_ne npD.symm]
      exact g7
end Cl

namespace Cl
open PySem PySem.Spec PyProof.Rows L2
/-! ### what two lines have in common is shown shortly -/
def ok3 (s : S3) : Prop := okI s.1 ∧ okI s.2.1 ∧ okI s.2.2
theorem okI.sh {i : Int} (h : okI i) : i.natAbs.log2 < 1920 := by have := h.log; omega
theorem fine3 : ∀ {ss : List S3}, ss.length ≤ 2 → (∀ s ∈ ss, ok3 s) → Fine (.tuple (ss.map d3))
  | [], _, _ => by constructor <;> decide
  | [a], _, h => by
    obtain ⟨h1, h2, h3⟩ := h a (by simp)
    have a1 := h1.len
    have a2 := h2.len
    have a3 := h3.len
    have b1 := h1.sh
    have b2 := h2.sh
    have b3 := h3.sh
    constructor
    · simp [d3, PyData.leavesShort, PyData.leavesShortAll, a1, a2, a3]
    · simp [d3, PyData.showable, PyData.showableAll, b1, b2, b3]
    · rfl
    · simp [d3, PyData.depth, PyData.depthAll]
    · simp [d3, PyData.bulk, PyData.bulkAll]
  | [a, b], _, h => by
    obtain ⟨h1, h2, h3⟩ := h a (by simp)
    obtain ⟨g1, g2, g3⟩ := h b (by simp)
    have a1 := h1.len
    have a2 := h2.len
    have a3 := h3.len
    have b1 := h1.sh
    have b2 := h2.sh
    have b3 := h3.sh
    have c1 := g1.len
    have c2 := g2.len
    have c3 := g3.len
    have e1 := g1.sh
    have e2 := g2.sh
    have e3 := g3.sh
    constructor
    · simp [d3, PyData.leavesShort, PyData.leavesShortAll, a1, a2, a3, c1, c2, c3]
    · simp [d3, PyData.showable, PyData.showableAll, b1, b2, b3, e1, e2, e3]
    · rfl
    · simp [d3, PyData.depth, PyData.depthAll]
    · simp [d3, PyData.bulk, PyData.bulkAll]
theorem BdC.or {p q r : Pt} (hp : BdC p) (hq : BdC q) (h : r = p ∨ r = q) : BdC r := by rcases h with rfl | rfl <;> assumption
theorem ok_one3 {p : Pt} (h : BdC p) : ok3 (one3 p) := by
  unfold BdC at h
  exact ⟨okI.of (show -(2 ^ 189) < p.1 by omega) (show p.1 < 2 ^ 189 by omega), okI.of (show -(2 ^ 189) < p.2 by omega) (show p.2 < 2 ^ 189 by omega), okI.of (show -(2 ^ 189) < (1 : Int) by omega) (show (1 : Int) < 2 ^ 189 by omega)⟩
theorem okI_div {n p : Int} (h : n.natAbs < 2 ^ 190) : okI (n / p) := Nat.lt_of_le_of_lt (Int.natAbs_ediv_le_natAbs n p) h
theorem fine_cmn {l r : Ln} (bl : BdL l) (br : BdL r) : Fine (.tuple ((cmn l r).map d3)) := by
  have b1 := bd_less bl.2 bl.1
  have b2 := bd_less br.2 br.1
  have b3 := bd_less br.1 bl.1
  have t1 := trn_lt b1 b2
  have t2 := trn_lt b3 b2
  have kM : (klm l r).2.2.natAbs < 2 ^ 122 := by
    show (trn (less l.2 l.1) (less r.2 r.1) * kfs l r).natAbs < 2 ^ 122
    unfold kfs
    split <;> omega
  have kN : (klm l r).1.natAbs < 2 ^ 122 := by
    show (trn (less r.1 l.1) (less r.2 r.1) * kfs l r).natAbs < 2 ^ 122
    unfold kfs
    split <;> omega
  have hlo : BdC (lo l r) := by
    obtain ⟨c, _⟩ := mx_or (mn l.1 l.2) (mn r.1 r.2)
    exact BdC.or (BdC.or bl.1 bl.2 (mn_or l.1 l.2).1) (BdC.or br.1 br.2 (mn_or r.1 r.2).1) c
  have hhi : BdC (hi l r) := by
    obtain ⟨c, _⟩ := mn_or (mx l.1 l.2) (mx r.1 r.2)
    exact BdC.or (BdC.or bl.1 bl.2 (mx_or l.1 l.2).1) (BdC.or br.1 br.2 (mx_or r.1 r.2).1) c
  unfold cmn
  split
  · unfold acr
    simp only
    split
    · refine fine3 (by simp) fun s hs => ?_
      rw [List.mem_singleton.mp hs]
      obtain ⟨⟨x1, x2⟩, x3, x4⟩ := bl.1
      unfold BdP less at b1
      obtain ⟨⟨y1, y2⟩, y3, y4⟩ := b1
      simp only at y1 y2 y3 y4
      have m1 := wide_lt (i := (klm l r).2.2) (j := l.1.1) (a := 122) (b := 40) kM (by omega)
      have m2 := wide_lt (i := (klm l r).2.2) (j := l.1.2) (a := 122) (b := 40) kM (by omega)
      have m3 := wide_lt (i := (klm l r).1) (j := l.2.1 - l.1.1) (a := 122) (b := 60) kN (by omega)
      have m4 := wide_lt (i := (klm l r).1) (j := l.2.2 - l.1.2) (a := 122) (b := 60) kN (by omega)
      exact ⟨okI_div (by omega), okI_div (by omega), okI_div (by omega)⟩
    · exact fine3 (by simp) fun s hs => nomatch hs
  · split
    · exact fine3 (by simp) fun s hs => nomatch hs
    · unfold alo
      split
      · exact fine3 (by simp) fun s hs => nomatch hs
      · split
        · refine fine3 (by simp) fun s hs => ?_
          rw [List.mem_singleton.mp hs]
          exact ok_one3 hlo
        · refine fine3 (by simp) fun s hs => ?_
          rcases List.mem_cons.mp hs with rfl | hs
          · exact ok_one3 hlo
          · rw [List.mem_singleton.mp hs]
            exact ok_one3 hhi

/-! ### a list that is written to: tuples and the deck stay -/
section
variable {K : PySem.W.Frag} {H : Hp} {M d l : Addr} {xs : List V} {o : HO} {v : V}
theorem updT {b : Addr} {ys : List V} (e : H M = some (.lst xs)) (h : SqT K H b ys) : SqT K (upd H M o) b ys := by
  rcases h with (z | ⟨oo, z⟩) | z
  · exact .inl (.inl (by rw [upd_ne (ne_of z e (by intro z; cases z))]; exact z))
  · exact .inl (.inr ⟨oo, by rw [upd_ne (ne_of z e (by intro z; cases z))]; exact z⟩)
  · exact .inr z
theorem At2.upd {p : Pt} (h : At2 K H v p) (e : H M = some (.lst xs)) : At2 K (upd H M o) v p := by
  obtain ⟨a, rfl, h⟩ := h
  exact ⟨a, rfl, updT e h⟩
theorem AtL.upd {r : Ln} (h : AtL K H v r) (e : H M = some (.lst xs)) : AtL K (L2.upd H M o) v r := by
  obtain ⟨a, u, w, rfl, h1, h2, h3⟩ := h
  exact ⟨a, u, w, rfl, updT e h1, At2.upd h2 e, At2.upd h3 e⟩
theorem Deck.upd (D : Deck H d l) (h1 : M ≠ d) (h2 : M ≠ l) : Deck (L2.upd H M o) d l := by
  obtain ⟨ns, s, c, e1, e2, e3⟩ := D.ex
  exact ⟨D.ne, ns, s, c, by rw [upd_ne h1.symm]; exact e1, by rw [upd_ne h2.symm]; exact e2, e3⟩
end
/-! ### lines drawn -/
def GoodLn (B : Int) (r : Ln) : Prop := BdN B r.1 ∧ BdN B r.2 ∧ r.1 ≠ r.2
def spPoint (K : PySem.W.Frag) : Sp := fun vs H Q _ => ∃ (d l : Addr) (g : Int), vs = [.ref d, .int g] ∧ 0 < g ∧ g ≤ 10 ∧ Deck H d l ∧
  ∀ w H' p, Step d l H H' → At2 K H' w p → BdN 100 p → Q w H'
def spBeside (K : PySem.W.Frag) : Sp := fun vs H Q _ => ∃ (d l : Addr) (v u w : V) (r : Ln) (p q : Pt), vs = [.ref d, v, u, w] ∧ Deck H d l ∧ AtL K H v r ∧ GoodLn 200 r ∧
  At2 K H u p ∧ BdN 100 p ∧ At2 K H w q ∧ BdN 100 q ∧ ∀ w H' r', Step d l H H' → AtL K H' w r' → GoodLn 3000 r' → Q w H'
def spLine (K : PySem.W.Frag) : Sp := fun vs H Q _ => ∃ (d l : Addr) (g : Int) (L : Addr) (ws : List V) (ls : List Ln), vs = [.ref d, .int g, .ref L] ∧ 0 < g ∧ g ≤ 10 ∧ Deck H d l ∧
  L ≠ d ∧ L ≠ l ∧ H L = some (.lst ws) ∧ AllAt (AtL K H) ws ls ∧ ls.length ≤ 10 ∧ (∀ r ∈ ls, GoodLn 3000 r) ∧
  ∀ w H' r', Step d l H H' → AtL K H' w r' → GoodLn 3000 r' → Q w H'
def AtT (K : PySem.W.Frag) (H : Hp) (v : V) (ls : List Ln) : Prop := ∃ a vs, v = .ref a ∧ SqT K H a vs ∧ AllAt (AtL K H) vs ls
def spLines (K : PySem.W.Frag) (n : Nat) : Sp := fun vs H Q _ => ∃ (d l : Addr) (g : Int), vs = [.ref d, .int g, .int n] ∧ 0 < g ∧ g ≤ 10 ∧ Deck H d l ∧
  ∀ w H' ls, Step d l H H' → AtT K H' w ls → ls.length = n → (∀ r ∈ ls, BdL r ∧ r.1 ≠ r.2) → Q w H'
def dl (r : Ln) : PyData := .tuple [pd r.1, pd r.2]
theorem AtL.dp {K : PySem.W.Frag} {H : Hp} {v : V} {r : Ln} (h : AtL K H v r) : Dp K H v (dl r) := by
  obtain ⟨a, u, w, rfl, h1, h2, h3⟩ := h
  exact .tup h1 (.cons h2.dp (.cons h3.dp .nil))
theorem lines_dp {K : PySem.W.Frag} {H : Hp} : ∀ {ws : List V} {ls : List Ln}, AllAt (AtL K H) ws ls → DpAll K H ws (ls.map dl)
  | _, _, .nil => .nil
  | _, _, .cons h t => .cons h.dp (lines_dp t)
theorem shapedLines (ls : List Ln) : SeqAt.shaped (.list (ls.map dl)) = true := by
  have h1 : ∀ ls : List Ln, PyData.canLayAll0 (ls.map dl) = true := by
    intro ls
    induction ls with
    | nil => rfl
    | cons n r ih => simp [PyData.canLayAll0, PyData.canLay0, dl, pd, ih]
  have h2 : ∀ ls : List Ln, PyData.depthAll (ls.map dl) ≤ 2 := by
    intro ls
    induction ls with
    | nil => decide
    | cons n r ih =>
      simp only [List.map_cons, PyData.depthAll]
      have : (dl n).depth = 2 := by simp [dl, pd, PyData.depth, PyData.depthAll]
      omega
  have h3 := h2 ls
  simp [SeqAt.shaped, PyData.canLay0, PyData.depth, h1]
  omega
theorem eqvNilL (ls : List Ln) : PyData.eqv (.list (ls.map dl)) (.list []) = ls.isEmpty := by
  cases ls <;> simp [PyData.eqv, PyData.eqvAll]
theorem AllAt.three {α : Type} {R : V → α → Prop} {vs : List V} {xs : List α} (h : AllAt R vs xs) (l : xs.length = 3) :
    ∃ v0 v1 v2 x0 x1 x2, vs = [v0, v1, v2] ∧ xs = [x0, x1, x2] ∧ R v0 x0 ∧ R v1 x1 ∧ R v2 x2 := by
  cases h with
  | nil => cases l
  | cons h0 h =>
    cases h with
    | nil => cases l
    | cons h1 h =>
      cases h with
      | nil => cases l
      | cons h2 h =>
        cases h with
        | nil => exact ⟨_, _, _, _, _, _, rfl, rfl, h0, h1, h2⟩
        | cons _ _ => simp at l
end Cl

namespace Cl
open PySem PySem.Spec PyProof.Rows L2
/-! ### what part of a line lies in a cell -/
abbrev Sh := Int × Int
def later (a b : Sh) : Sh := if a.1 * b.2 < b.1 * a.2 then b else a
def soon (a b : Sh) : Sh := if b.1 * a.2 < a.1 * b.2 then b else a
theorem frac_le {a b c d e f : Int} (h1 : a * d ≤ c * b) (h2 : c * f ≤ e * d) (hb : 0 < b) (hd : 0 < d) (hf : 0 < f) : a * f ≤ e * b := by
  refine Int.le_of_mul_le_mul_right (a := d) ?_ hd
  have k1 := Int.mul_le_mul_of_nonneg_right h1 (Int.le_of_lt hf)
  have k2 := Int.mul_le_mul_of_nonneg_right h2 (Int.le_of_lt hb)
  grind
theorem later_le {a b : Sh} {p q : Int} (ha : 0 < a.2) (hb : 0 < b.2) (hq : 0 < q) :
    ((later a b).1 * q ≤ p * (later a b).2) ↔ (a.1 * q ≤ p * a.2 ∧ b.1 * q ≤ p * b.2) := by
  unfold later
  split
  · rename_i h
    exact ⟨fun z => ⟨frac_le (Int.le_of_lt h) z ha hb hq, z⟩, fun z => z.2⟩
  · rename_i h
    exact ⟨fun z => ⟨z, frac_le (Int.not_lt.mp h) z hb ha hq⟩, fun z => z.1⟩
theorem soon_le {a b : Sh} {p q : Int} (ha : 0 < a.2) (hb : 0 < b.2) (hq : 0 < q) :
    (p * (soon a b).2 ≤ (soon a b).1 * q) ↔ (p * a.2 ≤ a.1 * q ∧ p * b.2 ≤ b.1 * q) := by
  unfold soon
  split
  · rename_i h
    exact ⟨fun z => ⟨frac_le z (Int.le_of_lt h) hq hb ha, z⟩, fun z => z.2⟩
  · rename_i h
    exact ⟨fun z => ⟨z, frac_le z (Int.not_lt.mp h) hq ha hb⟩, fun z => z.1⟩
theorem later_pos {a b : Sh} (ha : 0 < a.2) (hb : 0 < b.2) : 0 < (later a b).2 := by unfold later; split <;> assumption
theorem soon_pos {a b : Sh} (ha : 0 < a.2) (hb : 0 < b.2) : 0 < (soon a b).2 := by unfold soon; split <;> assumption
/-- the point at the share p of q lies in the cell's row or column, the greater side not with it -/
def HO1 (g start step num p q : Int) : Prop := (2 * num - 1) * g * q ≤ 2 * (start * q + step * p) ∧ 2 * (start * q + step * p) < (2 * num + 1) * g * q
def CL1 (g start step num p q : Int) : Prop := (2 * num - 1) * g * q ≤ 2 * (start * q + step * p) ∧ 2 * (start * q + step * p) ≤ (2 * num + 1) * g * q
def inc (f l : Sh) (step near far : Int) : Option (Sh × Sh) :=
  if step = 0 then (if near > 0 ∨ far < 0 then none else some (f, l))
  else if step < 0 then some (later f (-far, 2 * -step), soon l (-near, 2 * -step)) else some (later f (near, 2 * step), soon l (far, 2 * step))
theorem cl1_iff (g start step num p q : Int) : CL1 g start step num p q ↔ (((2 * num - 1) * g - 2 * start) * q ≤ 2 * step * p ∧ 2 * step * p ≤ ((2 * num + 1) * g - 2 * start) * q) := by
  unfold CL1
  constructor <;> intro h <;> constructor <;> grind
theorem inc_none {g start step num : Int} {f l : Sh} (h : inc f l step ((2 * num - 1) * g - 2 * start) ((2 * num + 1) * g - 2 * start) = none) {p q : Int} (hq : 0 < q) : ¬ CL1 g start step num p q := by
  unfold inc at h
  split at h
  · rename_i hs
    split at h
    · rename_i hz
      rw [cl1_iff, hs]
      intro ⟨k1, k2⟩
      rcases hz with z | z
      · have := Int.mul_pos z hq
        omega
      · have := Int.mul_pos (show 0 < -((2 * num + 1) * g - 2 * start) by omega) hq
        rw [Int.neg_mul] at this
        omega
    · cases h
  · split at h <;> cases h
theorem inc_some {g start step num : Int} {f l f' l' : Sh} (hf : 0 < f.2) (hl : 0 < l.2) (h : inc f l step ((2 * num - 1) * g - 2 * start) ((2 * num + 1) * g - 2 * start) = some (f', l')) :
    0 < f'.2 ∧ 0 < l'.2 ∧ ∀ p q : Int, 0 < q → ((f.1 * q ≤ p * f.2 ∧ p * l.2 ≤ l.1 * q ∧ CL1 g start step num p q) ↔ (f'.1 * q ≤ p * f'.2 ∧ p * l'.2 ≤ l'.1 * q)) := by
  unfold inc at h
  split at h
  · rename_i hs
    split at h
    · cases h
    · rename_i hz
      cases h
      refine ⟨hf, hl, fun p q hq => ⟨fun z => ⟨z.1, z.2.1⟩, fun z => ⟨z.1, z.2, ?_⟩⟩⟩
      rw [cl1_iff, hs]
      have h1 : ((2 * num - 1) * g - 2 * start) ≤ 0 := by omega
      have h2 : 0 ≤ ((2 * num + 1) * g - 2 * start) := by omega
      have := Int.mul_le_mul_of_nonneg_right h1 (Int.le_of_lt hq)
      have := Int.mul_nonneg h2 (Int.le_of_lt hq)
      omega
  · rename_i hs
    split at h
    · rename_i hz
      cases h
      have h2 : (0 : Int) < 2 * -step := by omega
      refine ⟨later_pos hf h2, soon_pos hl h2, fun p q hq => ?_⟩
      rw [later_le hf h2 hq, soon_le hl h2 hq, cl1_iff]
      simp only
      constructor
      · intro ⟨a, b, c, d⟩
        refine ⟨⟨a, ?_⟩, b, ?_⟩ <;> grind
      · intro ⟨⟨a, c⟩, b, d⟩
        refine ⟨a, b, ?_, ?_⟩ <;> grind
    · rename_i hz
      cases h
      have h2 : (0 : Int) < 2 * step := by omega
      refine ⟨later_pos hf h2, soon_pos hl h2, fun p q hq => ?_⟩
      rw [later_le hf h2 hq, soon_le hl h2 hq, cl1_iff]
      simp only
      constructor
      · intro ⟨a, b, c, d⟩
        refine ⟨⟨a, ?_⟩, b, ?_⟩ <;> grind
      · intro ⟨⟨a, c⟩, b, d⟩
        refine ⟨a, b, ?_, ?_⟩ <;> grind
def HOc (g : Int) (r : Ln) (c : Pt) (p q : Int) : Prop := HO1 g r.1.1 (r.2.1 - r.1.1) c.1 p q ∧ HO1 g r.1.2 (r.2.2 - r.1.2) c.2 p q
def Meets (g : Int) (r : Ln) (c : Pt) : Prop := ∃ p q : Int, 0 < q ∧ 0 ≤ p ∧ p ≤ q ∧ HOc g r c p q
def rimL (g n : Int) : Int := (2 * n - 1) * g
def rimH (g n : Int) : Int := (2 * n + 1) * g
def sharesW (g : Int) (r : Ln) (c : Pt) : Option (Sh × Sh) :=
  match inc (0, 1) (1, 1) (r.2.1 - r.1.1) (rimL g c.1 - 2 * r.1.1) (rimH g c.1 - 2 * r.1.1) with
  | none => none
  | some (f, l) => match inc f l (r.2.2 - r.1.2) (rimL g c.2 - 2 * r.1.2) (rimH g c.2 - 2 * r.1.2) with
    | none => none
    | some (f, l) => if l.1 * f.2 < f.1 * l.2 then none else some (f, l)
def midP (f l : Sh) : Int := f.1 * l.2 + l.1 * f.2
def midQ (f l : Sh) : Int := 2 * f.2 * l.2
theorem sharesW_none {g : Int} {r : Ln} {c : Pt} (h : sharesW g r c = none) : ¬ Meets g r c := by
  intro ⟨p, q, hq, h0, h1, ha, hb⟩
  have ca : CL1 g r.1.1 (r.2.1 - r.1.1) c.1 p q := ⟨ha.1, Int.le_of_lt ha.2⟩
  have cb : CL1 g r.1.2 (r.2.2 - r.1.2) c.2 p q := ⟨hb.1, Int.le_of_lt hb.2⟩
  unfold sharesW rimL rimH at h
  split at h
  · exact inc_none (by assumption) hq ca
  · rename_i f l e1
    obtain ⟨f2, l2, k1⟩ := inc_some (by decide) (by decide) e1
    have k1 := (k1 p q hq).mp ⟨by simp only; omega, by simp only; omega, ca⟩
    split at h
    · exact inc_none (by assumption) hq cb
    · rename_i f' l' e2
      obtain ⟨f3, l3, k2⟩ := inc_some f2 l2 e2
      have k2 := (k2 p q hq).mp ⟨k1.1, k1.2, cb⟩
      split at h
      · rename_i z
        have := frac_le k2.1 k2.2 f3 hq l3
        omega
      · cases h
theorem sharesW_some {g : Int} {r : Ln} {c : Pt} {f l : Sh} (h : sharesW g r c = some (f, l)) :
    0 < f.2 ∧ 0 < l.2 ∧ f.1 * l.2 ≤ l.1 * f.2 ∧ ∀ p q : Int, 0 < q → ((0 ≤ p ∧ p ≤ q ∧ CL1 g r.1.1 (r.2.1 - r.1.1) c.1 p q ∧ CL1 g r.1.2 (r.2.2 - r.1.2) c.2 p q) ↔ (f.1 * q ≤ p * f.2 ∧ p * l.2 ≤ l.1 * q)) := by
  unfold sharesW rimL rimH at h
  split at h
  · cases h
  · rename_i f1 l1 e1
    obtain ⟨f2, l2, k1⟩ := inc_some (by decide) (by decide) e1
    split at h
    · cases h
    · rename_i f' l' e2
      obtain ⟨f3, l3, k2⟩ := inc_some f2 l2 e2
      split at h
      · cases h
      · rename_i z
        cases h
        refine ⟨f3, l3, by omega, fun p q hq => ⟨fun w => (k2 p q hq).mp ?_, fun w => ?_⟩⟩
        · have := (k1 p q hq).mp ⟨by simp only; omega, by simp only; omega, w.2.2.1⟩
          exact ⟨this.1, this.2, w.2.2.2⟩
        · obtain ⟨a, b, d⟩ := (k2 p q hq).mpr w
          obtain ⟨a', b', d'⟩ := (k1 p q hq).mpr ⟨a, b⟩
          simp only at a' b'
          exact ⟨by omega, by omega, d', d⟩
theorem at_end {a s p q z n F : Int} (w : 2 * (a * q + s * p) * n < F * q * n) (w2 : 2 * (a * n + s * z) * q = F * n * q) (k : s * (z * q) ≤ s * (p * n)) : False := by
  have e1 : 2 * (a * q + s * p) * n = 2 * (a * q * n) + 2 * (s * (p * n)) := by grind
  have e2 : 2 * (a * n + s * z) * q = 2 * (a * q * n) + 2 * (s * (z * q)) := by grind
  have e3 : F * n * q = F * q * n := Int.mul_right_comm ..
  omega
theorem ends_eq {a s k l m n F : Int} (e : 2 * (a * (2 * m * n) + s * (k * n + l * m)) = F * (2 * m * n)) (e1 : 2 * (a * m + s * k) * n ≤ F * m * n) (e2 : 2 * (a * n + s * l) * m ≤ F * n * m) :
    2 * (a * m + s * k) * n = F * m * n ∧ 2 * (a * n + s * l) * m = F * n * m := by
  have c1 : 2 * (a * (2 * m * n) + s * (k * n + l * m)) = 2 * (a * m + s * k) * n + 2 * (a * n + s * l) * m := by grind
  have c2 : F * (2 * m * n) = F * m * n + F * n * m := by grind
  omega
/-- the middle of the part within lies in the cell, or nothing does -/
theorem meets_mid {g : Int} {r : Ln} {c : Pt} {f l : Sh} (h : sharesW g r c = some (f, l)) : Meets g r c ↔ HOc g r c (midP f l) (midQ f l) := by
  obtain ⟨f2, l2, fl, k⟩ := sharesW_some h
  have hQ : 0 < midQ f l := Int.mul_pos (by omega) l2
  have hm : f.1 * midQ f l ≤ midP f l * f.2 ∧ midP f l * l.2 ≤ l.1 * midQ f l := by
    unfold midP midQ
    have a1 := Int.mul_le_mul_of_nonneg_right fl (Int.le_of_lt f2)
    have a2 := Int.mul_le_mul_of_nonneg_right fl (Int.le_of_lt l2)
    constructor <;> grind
  obtain ⟨m0, m1, ca, cb⟩ := (k _ _ hQ).mpr hm
  constructor
  · intro ⟨p, q, hq, h0, h1, ha, hb⟩
    have kt := (k p q hq).mp ⟨h0, h1, ⟨ha.1, Int.le_of_lt ha.2⟩, ⟨hb.1, Int.le_of_lt hb.2⟩⟩
    have kf := (k f.1 f.2 f2).mpr ⟨Int.le_refl _, fl⟩
    have kl := (k l.1 l.2 l2).mpr ⟨fl, Int.le_refl _⟩
    have one : ∀ start step num : Int, HO1 g start step num p q → CL1 g start step num f.1 f.2 → CL1 g start step num l.1 l.2 → CL1 g start step num (midP f l) (midQ f l) → HO1 g start step num (midP f l) (midQ f l) := by
      intro start step num ht hf hl hmid
      refine ⟨hmid.1, Int.lt_iff_le_and_ne.mpr ⟨hmid.2, fun e => ?_⟩⟩
      -- both ends lie at the greater side
      have e1 : 2 * (start * f.2 + step * f.1) * l.2 ≤ (2 * num + 1) * g * f.2 * l.2 := Int.mul_le_mul_of_nonneg_right hf.2 (Int.le_of_lt l2)
      have e2 : 2 * (start * l.2 + step * l.1) * f.2 ≤ (2 * num + 1) * g * l.2 * f.2 := Int.mul_le_mul_of_nonneg_right hl.2 (Int.le_of_lt f2)
      obtain ⟨s1, s2⟩ := ends_eq e e1 e2
      have t1 : 2 * (start * f.2 + step * f.1) = (2 * num + 1) * g * f.2 := Int.eq_of_mul_eq_mul_right (by omega) s1
      have t2 : 2 * (start * l.2 + step * l.1) = (2 * num + 1) * g * l.2 := Int.eq_of_mul_eq_mul_right (by omega) s2
      have ht2 := ht.2
      rcases Int.lt_or_le step 0 with hs | hs
      · have k3 := Int.mul_le_mul_of_nonneg_left kt.2 (show 0 ≤ -step by omega)
        rw [Int.neg_mul, Int.neg_mul] at k3
        exact at_end (Int.mul_lt_mul_of_pos_right ht2 l2) (by rw [t2]) (by omega)
      · have k3 := Int.mul_le_mul_of_nonneg_left kt.1 hs
        exact at_end (Int.mul_lt_mul_of_pos_right ht2 f2) (by rw [t1]) k3
    exact ⟨one _ _ _ ha kf.2.2.1 kl.2.2.1 ca, one _ _ _ hb kf.2.2.2 kl.2.2.2 cb⟩
  · intro w
    exact ⟨_, _, hQ, m0, m1, w⟩
end Cl

namespace Cl
open PySem PySem.Spec PyProof.Rows L2
/-! ### shares that are tried one by one -/
/-- of a rising list: what N parted by q is, is in it, or lies strictly between two neighbours -/
theorem consec {q N : Int} (hq : 0 < q) : ∀ (L : List Int), L.Pairwise (· ≤ ·) → (∃ a ∈ L, a * q ≤ N) → (∃ b ∈ L, N ≤ b * q) →
    (∃ a ∈ L, a * q = N) ∨ ∃ a b, (a, b) ∈ L.dropLast.zip L.tail ∧ a * q < N ∧ N < b * q ∧ ∀ c ∈ L, c ≤ a ∨ b ≤ c
  | [], _, ⟨_, h, _⟩, _ => nomatch h
  | [a], _, ⟨x, hx, h1⟩, ⟨y, hy, h2⟩ => by
    rw [List.mem_singleton] at hx hy
    subst hx
    subst hy
    exact .inl ⟨_, List.mem_singleton_self _, Int.le_antisymm h1 h2⟩
  | a :: b :: r, hp, ⟨x, hx, h1⟩, ⟨y, hy, h2⟩ => by
    have ha : ∀ {z : Int}, z ∈ b :: r → a ≤ z := fun h => List.rel_of_pairwise_cons hp h
    have hp2 := List.Pairwise.of_cons hp
    have hax : a * q ≤ N := by
      rcases List.mem_cons.mp hx with rfl | hx
      · exact h1
      · exact Int.le_trans (Int.mul_le_mul_of_nonneg_right (ha hx) (Int.le_of_lt hq)) h1
    rcases Int.lt_or_le N (b * q) with hb | hb
    · rcases Int.lt_or_eq_of_le hax with h | h
      · refine .inr ⟨a, b, ?_, h, hb, fun c hc => ?_⟩
        · simp
        · rcases List.mem_cons.mp hc with rfl | hc
          · exact .inl (Int.le_refl _)
          · rcases List.mem_cons.mp hc with rfl | hc
            · exact .inr (Int.le_refl _)
            · exact .inr (List.rel_of_pairwise_cons hp2 hc)
      · exact .inl ⟨a, List.mem_cons_self .., h⟩
    · have hy2 : ∃ y ∈ b :: r, N ≤ y * q := by
        rcases List.mem_cons.mp hy with rfl | hy
        · exact ⟨b, List.mem_cons_self .., Int.le_trans h2 (Int.mul_le_mul_of_nonneg_right (ha (List.mem_cons_self ..)) (Int.le_of_lt hq))⟩
        · exact ⟨y, hy, h2⟩
      rcases consec hq (b :: r) hp2 ⟨b, List.mem_cons_self .., hb⟩ hy2 with ⟨z, hz, e⟩ | ⟨u, v, hz, k1, k2, k3⟩
      · exact .inl ⟨z, List.mem_cons_of_mem _ hz, e⟩
      · refine .inr ⟨u, v, ?_, k1, k2, fun c hc => ?_⟩
        · show (u, v) ∈ (a :: (b :: r).dropLast).zip ((b :: r).tail.cons b)
          simp only [List.tail_cons, List.zip_cons_cons, List.mem_cons]
          exact .inr hz
        · rcases List.mem_cons.mp hc with rfl | hc
          · left
            have hub : b ≤ u ∨ u < b := by omega
            rcases k3 b (List.mem_cons_self ..) with h | h
            · exact Int.le_trans (ha (List.mem_cons_self ..)) h
            · have : v * q ≤ b * q := Int.mul_le_mul_of_nonneg_right h (Int.le_of_lt hq)
              omega
          · exact k3 c hc
/-- one of the two rows: where what lies at the share p of q lies in it, so what lies at s, no crossing of its sides being strictly between -/
theorem row_mid {g start step num W p q a b s : Int} (hW : 0 < W) (hq : 0 < q) (ht : HO1 g start step num p q) (h1 : a * q < 2 * W * p) (h2 : 2 * W * p < b * q) (m1 : a < s) (m2 : s < b)
    (hc : step ≠ 0 → ∀ side ∈ [rimL g num, rimH g num], ∃ c : Int, 2 * step * c = (side - 2 * start) * W ∧ (2 * c ≤ a ∨ b ≤ 2 * c)) : HO1 g start step num s (2 * W) := by
  obtain ⟨t1, t2⟩ := ht
  have W2 : 0 < 2 * W := by omega
  by_cases hs : step = 0
  · subst hs
    have e1 : (2 * num - 1) * g ≤ 2 * start := Int.le_of_mul_le_mul_right (a := q) (by
      have : 2 * (start * q + 0 * p) = 2 * start * q := by rw [Int.zero_mul, Int.add_zero, Int.mul_assoc]
      omega) hq
    have e2 : 2 * start < (2 * num + 1) * g := Int.lt_of_mul_lt_mul_right (a := q) (by
      have : 2 * (start * q + 0 * p) = 2 * start * q := by rw [Int.zero_mul, Int.add_zero, Int.mul_assoc]
      omega) (Int.le_of_lt hq)
    have k : 2 * (start * (2 * W) + 0 * s) = 2 * start * (2 * W) := by rw [Int.zero_mul, Int.add_zero, Int.mul_assoc]
    refine ⟨?_, ?_⟩
    · rw [k]; exact Int.mul_le_mul_of_nonneg_right e1 (Int.le_of_lt W2)
    · rw [k]; exact Int.mul_lt_mul_of_pos_right e2 W2
  · obtain ⟨c1, e1, n1⟩ := hc hs (rimL g num) (by simp)
    obtain ⟨c2, e2, n2⟩ := hc hs (rimH g num) (by simp)
    unfold rimL at e1
    unfold rimH at e2
    unfold HO1
    generalize (2 * num - 1) * g = lo at *
    generalize (2 * num + 1) * g = hi at *
    -- times 2 W: step (2 W p - 2 c1 q) ≥ 0, step (2 W p - 2 c2 q) < 0
    have f1 := Int.mul_le_mul_of_nonneg_right t1 (Int.le_of_lt W2)
    have f2 := Int.mul_lt_mul_of_pos_right t2 W2
    have x1 : lo * q * (2 * W) = 2 * (step * (2 * c1 * q)) + 2 * (start * q * (2 * W)) := by
      have : 2 * step * c1 * q = (lo - 2 * start) * W * q := by rw [e1]
      grind
    have x2 : hi * q * (2 * W) = 2 * (step * (2 * c2 * q)) + 2 * (start * q * (2 * W)) := by
      have : 2 * step * c2 * q = (hi - 2 * start) * W * q := by rw [e2]
      grind
    have x3 : 2 * (start * q + step * p) * (2 * W) = 2 * (step * (2 * W * p)) + 2 * (start * q * (2 * W)) := by grind
    have g1 : step * (2 * c1 * q) ≤ step * (2 * W * p) := by omega
    have g2 : step * (2 * W * p) < step * (2 * c2 * q) := by omega
    have y1 : lo * (2 * W) = 2 * (step * (2 * c1)) + 2 * (start * (2 * W)) := by grind
    have y2 : hi * (2 * W) = 2 * (step * (2 * c2)) + 2 * (start * (2 * W)) := by grind
    have y3 : 2 * (start * (2 * W) + step * s) = 2 * (step * s) + 2 * (start * (2 * W)) := by grind
    have mul_q : ∀ u v : Int, u ≤ v → u * q ≤ v * q := fun u v h => Int.mul_le_mul_of_nonneg_right h (Int.le_of_lt hq)
    rcases Int.lt_or_le step 0 with hs | hs
    · have h1' : 2 * W * p ≤ 2 * c1 * q := Int.not_lt.mp fun z => by
        have := Int.mul_lt_mul_of_pos_left z (show 0 < -step by omega)
        rw [Int.neg_mul, Int.neg_mul] at this
        omega
      have h2' : 2 * c2 * q < 2 * W * p := Int.lt_of_not_ge fun z => by
        have := Int.mul_le_mul_of_nonneg_left z (show 0 ≤ -step by omega)
        rw [Int.neg_mul, Int.neg_mul] at this
        omega
      have b1 : b ≤ 2 * c1 := by
        rcases n1 with z | z
        · have := mul_q _ _ z
          omega
        · exact z
      have b2 : 2 * c2 ≤ a := by
        rcases n2 with z | z
        · exact z
        · have := mul_q _ _ z
          omega
      have w1 := Int.mul_lt_mul_of_pos_left (show s < 2 * c1 by omega) (show 0 < -step by omega)
      have w2 := Int.mul_lt_mul_of_pos_left (show 2 * c2 < s by omega) (show 0 < -step by omega)
      rw [Int.neg_mul, Int.neg_mul] at w1 w2
      exact ⟨by omega, by omega⟩
    · have hs' : 0 < step := by omega
      have h1' : 2 * c1 * q ≤ 2 * W * p := Int.le_of_mul_le_mul_left g1 hs'
      have h2' : 2 * W * p < 2 * c2 * q := Int.lt_of_mul_lt_mul_left g2 hs
      have b1 : 2 * c1 ≤ a := by
        rcases n1 with z | z
        · exact z
        · have := mul_q _ _ z
          omega
      have b2 : b ≤ 2 * c2 := by
        rcases n2 with z | z
        · have := mul_q _ _ z
          omega
        · exact z
      have w1 := Int.mul_lt_mul_of_pos_left (show 2 * c1 < s by omega) hs'
      have w2 := Int.mul_lt_mul_of_pos_left (show s < 2 * c2 by omega) hs'
      exact ⟨by omega, by omega⟩
theorem mem_zip_tail {a b : Int} : ∀ {L : List Int}, (a, b) ∈ L.dropLast.zip L.tail → a ∈ L ∧ b ∈ L := by
  intro L h
  have h1 := (List.of_mem_zip h).1
  have h2 := (List.of_mem_zip h).2
  exact ⟨(List.dropLast_sublist L).subset h1, List.mem_of_mem_tail h2⟩
/-- the shares that are tried: some of 2 W, rising, both ends and each crossing within them there, and the middles of neighbours -/
theorem tried {g W : Int} {r : Ln} {c : Pt} {L : List Int} (hW : 0 < W) (hp : L.Pairwise (· ≤ ·)) (hL : ∀ s ∈ L, ∃ t : Int, s = 2 * t ∧ 0 ≤ t ∧ t ≤ W) (h0 : 0 ∈ L) (h1 : 2 * W ∈ L)
    (hx : r.2.1 - r.1.1 ≠ 0 → ∀ side ∈ [rimL g c.1, rimH g c.1], ∃ k : Int, 2 * (r.2.1 - r.1.1) * k = (side - 2 * r.1.1) * W ∧ (0 ≤ k → k ≤ W → 2 * k ∈ L))
    (hy : r.2.2 - r.1.2 ≠ 0 → ∀ side ∈ [rimL g c.2, rimH g c.2], ∃ k : Int, 2 * (r.2.2 - r.1.2) * k = (side - 2 * r.1.2) * W ∧ (0 ≤ k → k ≤ W → 2 * k ∈ L)) :
    Meets g r c ↔ ∃ s ∈ L ++ (L.dropLast.zip L.tail).map (fun z => (z.1 + z.2) / 2), HOc g r c s (2 * W) := by
  have rng : ∀ s ∈ L ++ (L.dropLast.zip L.tail).map (fun z => (z.1 + z.2) / 2), 0 ≤ s ∧ s ≤ 2 * W := fun s hs => by
    rcases List.mem_append.mp hs with h | h
    · obtain ⟨t, e, t0, t1⟩ := hL s h
      omega
    · obtain ⟨⟨a, b⟩, hm, rfl⟩ := List.mem_map.mp h
      obtain ⟨ha, hb⟩ := mem_zip_tail hm
      obtain ⟨t, e, t0, t1⟩ := hL _ ha
      obtain ⟨u, f, u0, u1⟩ := hL _ hb
      simp only
      omega
  constructor
  · intro ⟨p, q, hq, p0, p1, ha, hb⟩
    have hN0 : (0 : Int) * q ≤ 2 * W * p := by
      rw [Int.zero_mul]
      exact Int.mul_nonneg (by omega) p0
    have hN1 : 2 * W * p ≤ 2 * W * q := Int.mul_le_mul_of_nonneg_left p1 (by omega)
    rcases consec hq L hp ⟨0, h0, hN0⟩ ⟨2 * W, h1, hN1⟩ with ⟨a, ha', e⟩ | ⟨a, b, hz, k1, k2, k3⟩
    · refine ⟨a, List.mem_append_left _ ha', ?_⟩
      have same : ∀ start step num : Int, HO1 g start step num p q → HO1 g start step num a (2 * W) := fun start step num ⟨t1, t2⟩ => by
        have x : 2 * (start * (2 * W) + step * a) * q = 2 * (start * q + step * p) * (2 * W) := by
          have : step * (a * q) = step * (2 * W * p) := by rw [e]
          grind
        have y : ∀ z : Int, z * q * (2 * W) = z * (2 * W) * q := fun z => by rw [Int.mul_right_comm]
        have s1 := Int.mul_le_mul_of_nonneg_right t1 (show 0 ≤ 2 * W by omega)
        have s2 := Int.mul_lt_mul_of_pos_right t2 (show 0 < 2 * W by omega)
        rw [y, ← x] at s1
        rw [y, ← x] at s2
        exact ⟨Int.le_of_mul_le_mul_right s1 hq, Int.lt_of_mul_lt_mul_right s2 (Int.le_of_lt hq)⟩
      exact ⟨same _ _ _ ha, same _ _ _ hb⟩
    · obtain ⟨ma, mb⟩ := mem_zip_tail hz
      obtain ⟨t, ea, t0, t1⟩ := hL _ ma
      obtain ⟨u, eb, u0, u1⟩ := hL _ mb
      have hab : a < b := Int.lt_of_mul_lt_mul_right (Int.lt_trans k1 k2) (Int.le_of_lt hq)
      have m1 : a < (a + b) / 2 := by omega
      have m2 : (a + b) / 2 < b := by omega
      refine ⟨(a + b) / 2, List.mem_append_right _ (List.mem_map.mpr ⟨(a, b), hz, rfl⟩), ?_, ?_⟩
      · refine row_mid hW hq ha k1 k2 m1 m2 fun hs side hm => ?_
        obtain ⟨k, e, hk⟩ := hx hs side hm
        refine ⟨k, e, ?_⟩
        by_cases z0 : 0 ≤ k
        · by_cases z1 : k ≤ W
          · exact k3 _ (hk z0 z1)
          · right; omega
        · left; omega
      · refine row_mid hW hq hb k1 k2 m1 m2 fun hs side hm => ?_
        obtain ⟨k, e, hk⟩ := hy hs side hm
        refine ⟨k, e, ?_⟩
        by_cases z0 : 0 ≤ k
        · by_cases z1 : k ≤ W
          · exact k3 _ (hk z0 z1)
          · right; omega
        · left; omega
  · intro ⟨s, hs, h⟩
    obtain ⟨s0, s1⟩ := rng s hs
    exact ⟨s, 2 * W, by omega, s0, s1, h⟩
/-- turned about, and moved by whole corners -/
theorem Meets.rev {g : Int} {r : Ln} {c : Pt} : Meets g (r.2, r.1) c ↔ Meets g r c := by
  have one : ∀ {r : Ln}, Meets g r c → Meets g (r.2, r.1) c := fun {r} ⟨p, q, hq, p0, p1, ha, hb⟩ => by
    refine ⟨q - p, q, hq, by omega, by omega, ?_, ?_⟩
    · have e : r.2.1 * q + (r.1.1 - r.2.1) * (q - p) = r.1.1 * q + (r.2.1 - r.1.1) * p := by grind
      unfold HO1 at ha ⊢
      simp only
      rw [e]
      exact ha
    · have e : r.2.2 * q + (r.1.2 - r.2.2) * (q - p) = r.1.2 * q + (r.2.2 - r.1.2) * p := by grind
      unfold HO1 at hb ⊢
      simp only
      rw [e]
      exact hb
  exact ⟨fun h => one h, fun h => one h⟩
theorem Meets.move {g i j : Int} {r : Ln} {c : Pt} : Meets g ((r.1.1 + i * g, r.1.2 + j * g), (r.2.1 + i * g, r.2.2 + j * g)) (c.1 + i, c.2 + j) ↔ Meets g r c := by
  have one : ∀ start step num i p q : Int, HO1 g (start + i * g) step (num + i) p q ↔ HO1 g start step num p q := fun start step num i p q => by
    unfold HO1
    have e1 : (2 * (num + i) - 1) * g * q = (2 * num - 1) * g * q + 2 * (i * g * q) := by grind
    have e2 : (2 * (num + i) + 1) * g * q = (2 * num + 1) * g * q + 2 * (i * g * q) := by grind
    have e3 : 2 * ((start + i * g) * q + step * p) = 2 * (start * q + step * p) + 2 * (i * g * q) := by grind
    rw [e1, e2, e3]
    omega
  unfold Meets HOc
  simp only [show ∀ a b k : Int, a + k - (b + k) = a - b from fun a b k => by omega, one]
theorem nr_eq {n d i : Int} (h : 0 < d) : nr n d = i ↔ (2 * i - 1) * d ≤ 2 * n ∧ 2 * n < (2 * i + 1) * d := by
  have k := nr_lies (n := n) h
  constructor
  · intro e
    rw [← e]
    exact k
  · intro ⟨a, b⟩
    have c1 : (2 * nr n d - 1) * d < (2 * i + 1) * d := by omega
    have c2 : (2 * i - 1) * d < (2 * nr n d + 1) * d := by omega
    have := Int.lt_of_mul_lt_mul_right c1 (Int.le_of_lt h)
    have := Int.lt_of_mul_lt_mul_right c2 (Int.le_of_lt h)
    omega
theorem in_cell {g start step num p q : Int} (hg : 0 < g) (hq : 0 < q) : nr (q * start + p * step) (q * g) = num ↔ HO1 g start step num p q := by
  rw [nr_eq (Int.mul_pos hq hg)]
  unfold HO1
  rw [show start * q + step * p = q * start + p * step by rw [Int.mul_comm q, Int.mul_comm p], show (2 * num - 1) * g * q = (2 * num - 1) * (q * g) by rw [Int.mul_assoc, Int.mul_comm g q], show (2 * num + 1) * g * q = (2 * num + 1) * (q * g) by rw [Int.mul_assoc, Int.mul_comm g q]]
theorem HO1.scale {g start step num p q k : Int} (hk : 0 < k) : HO1 g start step num (p * k) (q * k) ↔ HO1 g start step num p q := by
  unfold HO1
  have e1 : (2 * num - 1) * g * (q * k) = (2 * num - 1) * g * q * k := by rw [Int.mul_assoc _ q k]
  have e2 : (2 * num + 1) * g * (q * k) = (2 * num + 1) * g * q * k := by rw [Int.mul_assoc _ q k]
  have e3 : 2 * (start * (q * k) + step * (p * k)) = 2 * (start * q + step * p) * k := by grind
  rw [e1, e2, e3]
  exact ⟨fun ⟨a, b⟩ => ⟨Int.le_of_mul_le_mul_right a hk, Int.lt_of_mul_lt_mul_right b (Int.le_of_lt hk)⟩, fun ⟨a, b⟩ => ⟨Int.mul_le_mul_of_nonneg_right a (Int.le_of_lt hk), Int.mul_lt_mul_of_pos_right b hk⟩⟩
/-- in lowest terms the middle lies in the cell just when it does -/
theorem mid_low {g p q k : Int} {r : Ln} {c : Pt} (hk : 0 < k) : HOc g r c (p * k) (q * k) ↔ HOc g r c p q := by
  unfold HOc
  rw [HO1.scale hk, HO1.scale hk]
end Cl

namespace Cl
open PySem PySem.Spec PyProof.Rows L2
/-! ### promises: shares of lines within cells -/
def ShB (s : Sh) : Prop := -(2 ^ 60) < s.1 ∧ s.1 < 2 ^ 60 ∧ 0 < s.2 ∧ s.2 < 2 ^ 60
def spRims (K : PySem.W.Frag) : Sp := fun vs H Q _ => ∃ g n : Int, vs = [.int g, .int n] ∧ 0 < g ∧ g < 2 ^ 60 ∧ New H (.tup [.int (rimL g n), .int (rimH g n)]) Q
def spLow (K : PySem.W.Frag) : Sp := fun vs H Q _ => ∃ n d : Int, vs = [.int n, .int d] ∧ 0 < d ∧ d < 2 ^ 200 ∧
  ∀ w H' (p q k : Int), Same H H' → 0 < k → n = p * k → d = q * k → 0 < q → At2 K H' w (p, q) → Q w H'
def spSooner (K : PySem.W.Frag) : Sp := fun vs H Q _ => ∃ u v p q, vs = [u, v] ∧ At2 K H u p ∧ At2 K H v q ∧ ShB p ∧ ShB q ∧ Q (.bl (decide (p.1 * q.2 < q.1 * p.2))) H
def spLater (K : PySem.W.Frag) (f : Sh → Sh → Sh) : Sp := fun vs H Q _ => ∃ u v p q, vs = [u, v] ∧ At2 K H u p ∧ At2 K H v q ∧ ShB p ∧ ShB q ∧ ∀ w, At2 K H w (f p q) → Q w H
theorem later_ShB {a b : Sh} (ha : ShB a) (hb : ShB b) : ShB (later a b) := by unfold later; split <;> assumption
theorem soon_ShB {a b : Sh} (ha : ShB a) (hb : ShB b) : ShB (soon a b) := by unfold soon; split <;> assumption
theorem low_parts {n d : Int} (hd : 0 < d) : ∃ k : Int, k = (Int.gcd n d : Nat) ∧ 0 < k ∧ k ≤ d ∧ n = n / k * k ∧ d = d / k * k ∧ 0 < d / k := by
  have h0 : 0 < Int.gcd n d := Int.gcd_pos_of_ne_zero_right _ (by omega)
  have h1 : ((Int.gcd n d : Nat) : Int) ∣ n := Int.gcd_dvd_left ..
  have h2 : ((Int.gcd n d : Nat) : Int) ∣ d := Int.gcd_dvd_right ..
  refine ⟨_, rfl, by omega, Int.le_of_dvd hd h2, (Int.ediv_mul_cancel h1).symm, (Int.ediv_mul_cancel h2).symm, Int.ediv_pos_of_pos_of_dvd hd (by omega) h2⟩
end Cl

namespace Cl
open PySem PySem.Spec PyProof.Rows L2
/-! ### a loop over zip of three tuples -/
def Itz3 (K : PySem.W.Frag) (a b c : Addr) : It :=
  ⟨fun i H => ∃ xs ys zs : List V, SqT K H a xs ∧ SqT K H b ys ∧ SqT K H c zs ∧ i < xs.length ∧ i < ys.length ∧ i < zs.length,
    fun i H v H' => ∃ T x y u, v = .ref T ∧ H T = none ∧ H' = upd H T (.tup [x, y, u]) ∧ (∀ xs, SqT K H a xs → xs[i]? = some x) ∧ (∀ ys, SqT K H b ys → ys[i]? = some y) ∧ ∀ zs, SqT K H c zs → zs[i]? = some u,
    fun i H => ∃ xs ys zs : List V, SqT K H a xs ∧ SqT K H b ys ∧ SqT K H c zs ∧ i = min (min xs.length ys.length) zs.length⟩
theorem turn_zip3 {P : Program} {w : World} {K : PySem.W.Frag} {elts : List Expr} {kk : Nat} {tpos : Pos} {a b c z TI TO i1 i2 i3 : Addr} (S : ZipSep3 z TI TO i1 i2 i3 [i1, a] [i2, b] [i3, c]) (n1 : a ≠ i1) (n2 : b ≠ i2) (n3 : c ≠ i3) :
    Turn P w K (.Tuple elts kk tpos) (Itz3 K a b c) [z, TI, TO, i1, i2, i3] z (fun i h => IsZip h z TI TO .none ∧ IsTupOf3 h TI (.ref i1) (.ref i2) (.ref i3) ∧ (∃ x y u, IsTupOf3 h TO x y u) ∧ h.IsTupleIter i1 a i ∧ h.IsTupleIter i2 b i ∧ h.IsTupleIter i3 c i) where
  mem := by simp
  obj := fun i h st d hd => by
    obtain ⟨hz, hTI, ⟨x, y, u, hTO⟩, ⟨o1, e1, _, d1⟩, ⟨o2, e2, _, d2⟩, ⟨o3, e3, _, d3⟩⟩ := st
    simp only [List.mem_cons, List.not_mem_nil, or_false] at hd
    rcases hd with rfl | rfl | rfl | rfl | rfl | rfl
    · exact ⟨_, hz, fun v q => nomatch q⟩
    · exact ⟨_, hTI, fun v q => nomatch q⟩
    · exact ⟨_, hTO, fun v q => nomatch q⟩
    · exact ⟨o1, e1, fun v q => by rw [d1] at q; cases q⟩
    · exact ⟨o2, e2, fun v q => by rw [d2] at q; cases q⟩
    · exact ⟨o3, e3, fun v q => by rw [d3] at q; cases q⟩
  keep := fun i h h' st k => by
    obtain ⟨hz, hTI, ⟨x, y, u, hTO⟩, h1, h2, h3⟩ := st
    exact ⟨k z (by simp) _ hz, k TI (by simp) _ hTI, ⟨x, y, u, k TO (by simp) _ hTO⟩, h1.at fun o q => k i1 (by simp) o q, h2.at fun o q => k i2 (by simp) o q, h3.at fun o q => k i3 (by simp) o q⟩
  item := by
    intro X hP hw hK hc i pins s σ H E I hf st hg
    subst hP hw hK
    obtain ⟨hz, hTI, hTO, h1, h2, h3⟩ := st
    obtain ⟨xs, ys, zs, q1, q2, q3, l1, l2, l3⟩ := hg
    obtain ⟨t1, r1, p1, _⟩ := I.tuple q1
    obtain ⟨t2, r2, p2, _⟩ := I.tuple q2
    obtain ⟨t3, r3, p3, _⟩ := I.tuple q3
    have m1 := r1.length
    have m2 := r2.length
    have m3 := r3.length
    have hh : X.A.in1.handled = none := I.ok.hd hc
    have W := GoesN.zip3 (elts := elts) (x1 := kk) (pos := tpos) S (Draws.tuple (prog := X.prog) (w := X.w) hh i1 a n1 t1.toArray) (Draws.tuple hh i2 b n2 t2.toArray) (Draws.tuple hh i3 c n3 t3.toArray)
    refine W.goes i s _ E (by simp; omega) ⟨hz, hTI, hTO, ⟨h1, p1⟩, ⟨h2, p2⟩, ⟨h3, p3⟩⟩ fun v h' tk hY st' hk htk => ?_
    obtain ⟨T, x, y, u, rfl, hT, hx, hy, hu, hTup⟩ := hY
    obtain ⟨z', TI', TO', ⟨h1', _⟩, ⟨h2', _⟩, ⟨h3', _⟩⟩ := st'
    obtain ⟨x', ex, rx⟩ := r1.get (List.getElem?_eq_getElem l1)
    obtain ⟨y', ey, ry⟩ := r2.get (List.getElem?_eq_getElem l2)
    obtain ⟨u', eu, ru⟩ := r3.get (List.getElem?_eq_getElem l3)
    have ex' : x' = x := by simpa [ex] using hx
    have ey' : y' = y := by simpa [ey] using hy
    have eu' : u' = u := by simpa [eu] using hu
    subst ex' ey' eu'
    have new : ObjOk X.prog X.w (upd H T (.tup [xs[i], ys[i], zs[i]])) h' T (.tup [xs[i], ys[i], zs[i]]) :=
      ⟨by show 3 ≤ sizeLine; decide, [x', y', u'], .cons rx (.cons ry (.cons ru .nil)), hTup⟩
    have hk2 : ∀ d o, d ∉ [z, TI, TO, i1, i2, i3] → s.heap.get? d = some o → h'.get? d = some o := fun d o hd e =>
      hk d o (fun q => hd (by simp only [List.mem_cons, List.not_mem_nil, or_false] at q ⊢; rcases q with q | q | q | q | q <;> simp [q])) e
    have I1 := I.turnedNew (t' := tk) (ch := [z, TI, TO, i1, i2, i3]) hk2 hf hT new
    refine ⟨.ref T, _, I1, rfl, ⟨T, _, _, _, rfl, I.hok.fresh hT, rfl, fun l hl => by rw [I.tuple_inj hl q1]; exact List.getElem?_eq_getElem l1, fun l hl => by rw [I.tuple_inj hl q2]; exact List.getElem?_eq_getElem l2, fun l hl => by rw [I.tuple_inj hl q3]; exact List.getElem?_eq_getElem l3⟩, ⟨z', TI', TO', h1', h2', h3'⟩, fun d hd => ?_⟩
    have hlt : d < s.heap.objs.size := by
      simp only [List.mem_cons, List.not_mem_nil, or_false] at hd
      obtain ⟨_, _, _, hTO⟩ := hTO
      rcases hd with q | q | q | q | q | q
      · rw [q]; exact Heap.lt_size hz
      · rw [q]; exact Heap.lt_size hTI
      · rw [q]; exact Heap.lt_size hTO
      · rw [q]; obtain ⟨_, e1, _⟩ := h1; exact Heap.lt_size e1
      · rw [q]; obtain ⟨_, e1, _⟩ := h2; exact Heap.lt_size e1
      · rw [q]; obtain ⟨_, e1, _⟩ := h3; exact Heap.lt_size e1
    rw [upd_ne (Nat.ne_of_lt (Nat.lt_of_lt_of_le hlt hT))]
    exact (hf d hd).1
  done := by
    intro X hP hw hK hc i pins s σ H E I hf st hg
    subst hP hw hK
    obtain ⟨hz, hTI, hTO, h1, h2, h3⟩ := st
    obtain ⟨xs, ys, zs, q1, q2, q3, l⟩ := hg
    obtain ⟨t1, r1, p1, _⟩ := I.tuple q1
    obtain ⟨t2, r2, p2, _⟩ := I.tuple q2
    obtain ⟨t3, r3, p3, _⟩ := I.tuple q3
    have m1 := r1.length
    have m2 := r2.length
    have m3 := r3.length
    have hh : X.A.in1.handled = none := I.ok.hd hc
    have W := GoesN.zip3 (elts := elts) (x1 := kk) (pos := tpos) S (Draws.tuple (prog := X.prog) (w := X.w) hh i1 a n1 t1.toArray) (Draws.tuple hh i2 b n2 t2.toArray) (Draws.tuple hh i3 c n3 t3.toArray)
    have hi : i = min (min t1.toArray.size t2.toArray.size) t3.toArray.size := by simp; omega
    subst hi
    refine W.stops s _ E ⟨hz, hTI, hTO, ⟨h1, p1⟩, ⟨h2, p2⟩, ⟨h3, p3⟩⟩ fun h' tk hk htk => I.turnedL (t' := tk) (ch := [z, TI, TO, i1, i2, i3]) (fun d o hd e => ?_) hf
    exact hk d o (fun q => hd (by simp only [List.mem_cons, List.not_mem_nil, or_false] at q ⊢; rcases q with q | q | q | q | q <;> simp [q])) e
  self := fun A i s Q E st h => wpAny_pyIter_zip st.1 h
def iZip3 (K : PySem.W.Frag) (ta : TA) : TI := fun σ H R => ta σ H fun vs H1 => ∃ a b c xs ys zs, vs = [.ref a, .ref b, .ref c] ∧ SqT K H1 a xs ∧ SqT K H1 b ys ∧ SqT K H1 c zs ∧ R (Itz3 K a b c) H1
theorem pi_zip3 {X : Cx} {e e2 e3 : Expr} {ta : TA} {p pos tpos : Pos} {elts : List Expr} {kk : Nat} (hg : Gl X "zip") (hm : X.mg "zip" = none) (ha : PA X [e, e2, e3] ta)
    (hs : starEach [e, e2, e3] X.env = (false, eval e X.env) :: starEach [e2, e3] X.env := by rfl) (hpl : (backTo pos (starEach [e2, e3] X.env)).any (·.1) = false := by rfl) :
    PI X (.Tuple elts kk tpos) (.Call (.Name "zip" p) [e, e2, e3] [] pos) (iZip3 X.K ta) := by
  refine ⟨fun pins s σ H R I h => ?_⟩
  refine Call_ (ld_blt I hg hm PyProof.Rows.boot_zip (PyProof.Rows.callWith_type1 (thn (ha.run pos pins s σ H _ I h) fun us s1 ⟨vs, H1, I1, r1, q1⟩ => ?_) hs hpl))
  obtain ⟨a, b, c, xs, ys, zs, ex, q1, q2, q3, q⟩ := q1
  subst ex
  cases r1 with
  | cons r rr =>
    cases rr with
    | cons r' rr =>
      cases rr with
      | cons r'' rr =>
        cases rr
        cases r
        cases r'
        cases r''
        obtain ⟨t1, v1, p1, _⟩ := I1.tuple q1
        obtain ⟨t2, v2, p2, _⟩ := I1.tuple q2
        obtain ⟨t3, v3, p3, _⟩ := I1.tuple q3
        have la : a < s1.heap.objs.size := by obtain ⟨o1, g1, _⟩ := id p1; exact Heap.lt_size g1
        have lb : b < s1.heap.objs.size := by obtain ⟨o1, g1, _⟩ := id p2; exact Heap.lt_size g1
        have lc : c < s1.heap.objs.size := by obtain ⟨o1, g1, _⟩ := id p3; exact Heap.lt_size g1
        have fresh : ∀ d, d ∈ [s1.heap.objs.size + 5, s1.heap.objs.size + 3, s1.heap.objs.size + 4, s1.heap.objs.size, s1.heap.objs.size + 1, s1.heap.objs.size + 2] → FpOk X pins H1 d := fun d hd => by
          have hle : s1.heap.objs.size ≤ d := by
            simp only [List.mem_cons, List.not_mem_nil, or_false] at hd
            rcases hd with z | z | z | z | z | z
            · rw [z]; exact Nat.le_add_right _ _
            · rw [z]; exact Nat.le_add_right _ _
            · rw [z]; exact Nat.le_add_right _ _
            · rw [z]; exact Nat.le_refl _
            · rw [z]; exact Nat.le_add_right _ _
            · rw [z]; exact Nat.le_add_right _ _
          exact I1.fpOk hle (I1.hok.fresh hle)
        refine zip_begins3 (begins_tuple a t1.toArray) (begins_tuple b t2.toArray) (begins_tuple c t3.toArray) p1 p2 p3 fun h' hz hTI hTO h1 h2 h3 hsz hk => wpAny_pyIter_zip hz ?_
        have I2 : Inv X pins σ H1 { s1 with heap := h' } := I1.kept (t' := s1.toks) hk
        have ne : ∀ (d : Addr) (k : Nat), d < s1.heap.objs.size → d ≠ s1.heap.objs.size + k := fun d k hd => Nat.ne_of_lt (Nat.lt_of_lt_of_le hd (Nat.le_add_right _ _))
        exact ⟨s1.heap.objs.size + 5, [s1.heap.objs.size + 5, s1.heap.objs.size + 3, s1.heap.objs.size + 4, s1.heap.objs.size, s1.heap.objs.size + 1, s1.heap.objs.size + 2], _, _, H1, rfl, I2,
          turn_zip3 (zip_sep3 (fp1 := [a]) (fp2 := [b]) (fp3 := [c]) (fun d hd => by rw [List.mem_singleton.mp hd]; exact la) (fun d hd => by rw [List.mem_singleton.mp hd]; exact lb) (fun d hd => by rw [List.mem_singleton.mp hd]; exact lc)) (ne a 0 la) (ne b 1 lb) (ne c 2 lc),
          ⟨hz, hTI, ⟨_, _, _, hTO⟩, ⟨_, h1, rfl, rfl⟩, ⟨_, h2, rfl, rfl⟩, ⟨_, h3, rfl, rfl⟩⟩, fresh, q⟩
theorem for_zip3 {K : PySem.W.Frag} {a b c : Addr} {xs ys zs : List V} {g : TG} {tb : TS} {D : Ends} {σ : L2.St} {H : Hp} (hl : xs.length = ys.length) (hl2 : xs.length = zs.length) (Pv : Nat → L2.St → Hp → Prop) (h0 : Pv 0 σ H) (hq : ∀ i σ H, Pv i σ H → SqT K H a xs ∧ SqT K H b ys ∧ SqT K H c zs)
    (hs : ∀ (i : Nat) (x y u : V) (T : Addr) (σ : L2.St) (H : Hp), xs[i]? = some x → ys[i]? = some y → zs[i]? = some u → Pv i σ H → H T = none → g (.ref T) σ (upd H T (.tup [x, y, u])) fun σ2 H2 => tb { D with nx := Pv (i + 1), ct := Pv (i + 1), bk := D.nx } σ2 H2) (hd : ∀ σ H, Pv xs.length σ H → D.nx σ H) :
    ∃ W : Nat → Nat → L2.St → Hp → Prop, (∃ m, W 0 m σ H) ∧ ∀ i m σ H, W i m σ H →
      ((Itz3 K a b c).stop i H ∧ D.nx σ H) ∨ ((Itz3 K a b c).go i H ∧ ∃ N : L2.St → Hp → Prop, (∀ σ' H', N σ' H' → ∃ m', m' < m ∧ W (i + 1) m' σ' H') ∧ ∀ v H', (Itz3 K a b c).yld i H v H' → g v σ H' fun σ2 H2 => tb { D with nx := N, ct := N, bk := D.nx } σ2 H2) := by
  refine ⟨fun i m σ H => m = xs.length - i ∧ i ≤ xs.length ∧ Pv i σ H, ⟨xs.length, rfl, Nat.zero_le _, h0⟩, ?_⟩
  rintro i m σ H ⟨rfl, hi, p⟩
  obtain ⟨qx, qy, qz⟩ := hq i σ H p
  by_cases hlt : i < xs.length
  · refine .inr ⟨⟨xs, ys, zs, qx, qy, qz, hlt, by omega, by omega⟩, Pv (i + 1), fun σ' H' p' => ⟨xs.length - (i + 1), by omega, rfl, hlt, p'⟩, fun v H' y => ?_⟩
    obtain ⟨T, x', y', u', rfl, hT, rfl, f1, f2, f3⟩ := y
    exact hs i x' y' u' T σ H (f1 xs qx) (f2 ys qy) (f3 zs qz) p hT
  · have e : i = xs.length := by omega
    subst e
    exact .inl ⟨⟨xs, ys, zs, qx, qy, qz, by omega⟩, hd σ H p⟩
end Cl

namespace Cl
open PySem PySem.Spec PyProof.Rows L2
/-! ### pairs of lines of great numbers -/
def AtPair (K : PySem.W.Frag) (H : Hp) (v : V) (l r : Ln) : Prop := ∃ a u w, v = .ref a ∧ SqT K H a [u, w] ∧ AtL K H u l ∧ AtL K H w r
def GoodPair (l r : Ln) : Prop := BdL l ∧ BdL r ∧ l.1 ≠ l.2 ∧ r.1 ≠ r.2
def spPair (K : PySem.W.Frag) : Sp := fun vs H Q _ => ∃ (d l : Addr), vs = [.ref d] ∧ Deck H d l ∧
  ∀ w H' m n, Step d l H H' → AtPair K H' w m n → GoodPair m n → Q w H'
def spNum (B : Int) : Sp := fun vs H Q _ => ∃ (d l : Addr), vs = [.ref d] ∧ Deck H d l ∧ ∀ v H', -B ≤ v → v ≤ B → Step d l H H' → Q (.int v) H'
def spStepsP (K : PySem.W.Frag) : Sp := fun vs H Q _ => ∃ (d l : Addr), vs = [.ref d] ∧ Deck H d l ∧
  ∀ w H' p, Step d l H H' → At2 K H' w p → BdN 60000 p → p ≠ (0, 0) → Q w H'
theorem bdC_of {p : Pt} (h : BdN 10000000 p) : BdC p := by
  unfold BdN at h
  unfold BdC
  omega
theorem AllAt.twoLn {K : PySem.W.Frag} {H : Hp} {vs : List V} {p q : Pt} (h : AllAt (At2 K H) vs [p, q]) : ∃ u w, vs = [u, w] ∧ At2 K H u p ∧ At2 K H w q := by
  match vs, h with
  | [u, w], .cons a (.cons b .nil) => exact ⟨u, w, rfl, a, b⟩
theorem four {xs : List Int} (h : xs.length = 4) : ∃ x y z w, xs = [x, y, z, w] := by
  match xs, h with
  | [x, y, z, w], _ => exact ⟨x, y, z, w, rfl⟩
end Cl

namespace Cl
open PySem PySem.Spec PyProof.Rows L2
/-! ### a call of a def with a starred argument behind the first -/
section
variable {X : Cx} {k : Nat} {ps : List Str} {sp : Sp} {x : Str} {p pos : Pos} {e : Expr} {es : List Expr} {t : TA}
theorem callDS (D : Def X.prog X.w X.K X.mg X.base k x ps sp) (hr : RG k X.A) (ha : PA X (e :: es) t)
    (hg : Gl X x := by rfl) (hdb : (x == ("__debug__" : Str)) = false := by decide)
    (he : starEach (e :: es) X.env = (false, eval e X.env) :: starEach es X.env := by rfl)
    (hst : (backTo pos (starEach es X.env)).any (·.1) = true := by rfl) :
    PE X (.Call (.Name x p) (e :: es) [] pos) (tCall sp [] E0 t) := by
  obtain ⟨f, fd, F, hm, hk, hb⟩ := D.ex
  constructor
  intro pins s σ H Q I h
  refine wpAny_Call_Name_kw (ld_glob I hg hm ?_ hdb)
  refine PySem.W.callWith_S2 (h₀ := X.base) I.ok.mod.kin hk ?_ he hst
  refine thn (ha.run pos pins s σ H _ I h) fun us s1 ⟨vs, H1, I1, r, q⟩ => ⟨I1.kIn, ?_⟩
  have r2 : Vals (vs ++ []) (us ++ []) := r.append .nil
  have h2 : sp (vs ++ []) H1 Q E0 := q
  have n2 : (us ++ []).length = ps.length := r2.length.symm.trans (F.len _ _ _ _ h2)
  have run := F.run X.A X.stack s1 H1 ⟨us, []⟩ (us ++ []) (vs ++ []) Q E0 hr I1.env0 (hb s1 us I1.kIn n2) r2 h2
  refine wpAny_call (codeAny_mono run fun res s' hq => ?_)
  match res, hq with
  | .error ee, hq => exact pass0 pins σ H1 s1 ee s' I1 hq
  | .ok (.ret u), hq => exact I1.after hq
  | .ok .next, hq => exact hq.elim
  | .ok .brk, hq => exact hq.elim
  | .ok .cont, hq => exact hq.elim
end
/-! ### promises: the part of a line within a cell -/
def BdW (g : Int) (r : Ln) (c : Pt) : Prop := 0 < g ∧ g ≤ 1000 ∧ BdN 3000000 r.1 ∧ BdN 3000000 r.2 ∧ BdN 3000000 c
def AtSh (K : PySem.W.Frag) (H : Hp) (v : V) (f l : Sh) : Prop := ∃ a u w, v = .ref a ∧ SqT K H a [u, w] ∧ At2 K H u f ∧ At2 K H w l
def ShN (s : Sh) : Prop := -(2 ^ 36) < s.1 ∧ s.1 < 2 ^ 36 ∧ 0 < s.2 ∧ s.2 < 2 ^ 24
theorem ShN.b {s : Sh} (h : ShN s) : ShB s := by
  unfold ShN at h
  unfold ShB
  omega
theorem later_ShN {a b : Sh} (ha : ShN a) (hb : ShN b) : ShN (later a b) := by unfold later; split <;> assumption
theorem soon_ShN {a b : Sh} (ha : ShN a) (hb : ShN b) : ShN (soon a b) := by unfold soon; split <;> assumption
def spWithin (K : PySem.W.Frag) : Sp := fun vs H Q _ => ∃ g v r u c, vs = [.int g, v, u] ∧ AtL K H v r ∧ At2 K H u c ∧ BdW g r c ∧
  (sharesW g r c = none → ∀ H', Same H H' → Q .non H') ∧ ∀ f l w H', sharesW g r c = some (f, l) → Same H H' → AtSh K H' w f l → ShN f → ShN l → Q w H'
/-- the two numbers of a point, by 0 and 1 -/
def crd (p : Int × Int) (i : Nat) : Int := if i = 0 then p.1 else p.2
def stg (g : Int) (r : Ln) (c : Pt) : Nat → Option (Sh × Sh)
  | 0 => some ((0, 1), (1, 1))
  | i + 1 => match stg g r c i with
    | none => none
    | some (f, l) => inc f l (crd r.2 i - crd r.1 i) (rimL g (crd c i) - 2 * crd r.1 i) (rimH g (crd c i) - 2 * crd r.1 i)
theorem sharesW_stg (g : Int) (r : Ln) (c : Pt) : sharesW g r c = match stg g r c 2 with
    | none => none
    | some (f, l) => if l.1 * f.2 < f.1 * l.2 then none else some (f, l) := by
  unfold sharesW
  cases h : inc (0, 1) (1, 1) (r.2.1 - r.1.1) (rimL g c.1 - 2 * r.1.1) (rimH g c.1 - 2 * r.1.1) with
  | none => simp [stg, crd, h]
  | some z =>
    obtain ⟨f, l⟩ := z
    cases h2 : inc f l (r.2.2 - r.1.2) (rimL g c.2 - 2 * r.1.2) (rimH g c.2 - 2 * r.1.2) with
    | none => simp [stg, crd, h, h2]
    | some z => simp [stg, crd, h, h2]
theorem stg_none {g : Int} {r : Ln} {c : Pt} {i : Nat} (hi : i < 2) (h : stg g r c (i + 1) = none) : sharesW g r c = none := by
  rw [sharesW_stg]
  obtain rfl | rfl : i = 0 ∨ i = 1 := by omega
  · rw [show stg g r c 2 = match stg g r c 1 with
      | none => none
      | some (f, l) => inc f l (crd r.2 1 - crd r.1 1) (rimL g (crd c 1) - 2 * crd r.1 1) (rimH g (crd c 1) - 2 * crd r.1 1) from rfl, h]
  · rw [h]
theorem rim_b {g n : Int} (h0 : 0 < g) (h1 : g ≤ 1000) (n0 : -3000000 ≤ n) (n1 : n ≤ 3000000) : -(2 ^ 34) < rimL g n ∧ rimL g n < 2 ^ 34 ∧ -(2 ^ 34) < rimH g n ∧ rimH g n < 2 ^ 34 := by
  have k : ∀ z : Int, -6000001 ≤ z → z ≤ 6000001 → -6000001000 ≤ z * g ∧ z * g ≤ 6000001000 := fun z z0 z1 => by
    have a1 : (z + 6000001) * g ≤ (z + 6000001) * 1000 := Int.mul_le_mul_of_nonneg_left h1 (by omega)
    have a2 : (6000001 - z) * g ≤ (6000001 - z) * 1000 := Int.mul_le_mul_of_nonneg_left h1 (by omega)
    have a3 : 0 ≤ (z + 6000001) * g := Int.mul_nonneg (by omega) (by omega)
    have a4 : 0 ≤ (6000001 - z) * g := Int.mul_nonneg (by omega) (by omega)
    rw [Int.add_mul] at a1 a3
    rw [Int.sub_mul] at a2 a4
    omega
  unfold rimL rimH
  have := k (2 * n - 1) (by omega) (by omega)
  have := k (2 * n + 1) (by omega) (by omega)
  omega
/-- corner_at: its spot's corner -/
def spCornerAt (K : PySem.W.Frag) : Sp := fun vs H Q _ => ∃ (g : Int) (v : V) (s : S3), vs = [.int g, v] ∧ At3 K H v s ∧ 0 < g ∧ g < 2 ^ 60 ∧ 0 < s.2.2 ∧ s.2.2 * g < 2 ^ 60 ∧
  ∀ w H', Same H H' → At2 K H' w (nr s.1 (s.2.2 * g), nr s.2.1 (s.2.2 * g)) → Q w H'
def spShare (K : PySem.W.Frag) : Sp := fun vs H Q _ => ∃ g v r u c, vs = [.int g, v, u] ∧ AtL K H v r ∧ At2 K H u c ∧ BdW g r c ∧
  (¬ Meets g r c → ∀ H', Same H H' → Q .non H') ∧ (Meets g r c → ∀ p w H', Same H H' → At2 K H' w p → Q w H')
def spMeets (K : PySem.W.Frag) : Sp := fun vs H Q _ => ∃ g v r u c, vs = [.int g, v, u] ∧ AtL K H v r ∧ At2 K H u c ∧ BdW g r c ∧
  ∀ b H', Same H H' → (b = true ↔ Meets g r c) → Q (.bl b) H'
theorem eqv_pair (i j k l : Int) : PyData.eqv (.tuple [.int i, .int j]) (.tuple [.int k, .int l]) = decide (i = k ∧ j = l) := by
  rw [Bool.eq_iff_iff]
  simp [PyData.eqv, PyData.eqvAll]
theorem mid_b {f l : Sh} (hf : ShN f) (hl : ShN l) : 0 < midQ f l ∧ midQ f l ≤ 2 ^ 49 := by
  unfold ShN at hf hl
  unfold midQ
  have h1 : f.2 * l.2 ≤ 2 ^ 24 * 2 ^ 24 := Int.mul_le_mul (by omega) (by omega) (by omega) (by decide)
  have h2 : 0 < f.2 * l.2 := Int.mul_pos (by omega) (by omega)
  rw [Int.mul_assoc]
  omega
/-- the corner of the point at the share p of q is this one just when the point lies in its cell -/
theorem corner_share {g : Int} {r : Ln} {c : Pt} {p q : Int} (hg : 0 < g) (hq : 0 < q) :
    let s := sp3 (q * r.1.1 + p * (r.2.1 - r.1.1)) (q * r.1.2 + p * (r.2.2 - r.1.2)) q
    0 < s.2.2 ∧ s.2.2 ≤ q ∧ ((nr s.1 (s.2.2 * g), nr s.2.1 (s.2.2 * g)) = c ↔ HOc g r c p q) := by
  obtain ⟨k, _, _, _, _, h2, h3⟩ := spot_pos (n := q * r.1.1 + p * (r.2.1 - r.1.1)) (m := q * r.1.2 + p * (r.2.2 - r.1.2)) hq
  refine ⟨h2, h3, ?_⟩
  obtain ⟨e1, e2⟩ := nr_spot (n := q * r.1.1 + p * (r.2.1 - r.1.1)) (m := q * r.1.2 + p * (r.2.2 - r.1.2)) (g := g) hq
  show (nr _ (_ * g), nr _ (_ * g)) = c ↔ _
  unfold sp3
  simp only
  rw [e1, e2]
  unfold HOc
  rw [← in_cell hg hq, ← in_cell hg hq]
  constructor
  · intro e
    rw [← e]
    exact ⟨rfl, rfl⟩
  · intro ⟨a, b⟩
    exact Prod.ext a b
end Cl

namespace Cl
/-! ### where a line misses a cell, one of six ways lies beyond -/
def In1 (L U a b P Q : Int) : Prop := L * Q ≤ a * Q + b * P ∧ a * Q + b * P < U * Q
theorem lin_nn {a b P1 Q1 P2 Q2 P3 Q3 : Int} (q1 : 0 < Q1) (q2 : 0 < Q2) (q3 : 0 < Q3) (h12 : P1 * Q2 ≤ P2 * Q1) (h23 : P2 * Q3 ≤ P3 * Q2) (e1 : 0 ≤ a * Q1 + b * P1) (e3 : 0 ≤ a * Q3 + b * P3) : 0 ≤ a * Q2 + b * P2 := by
  refine Int.not_lt.mp fun z => ?_
  by_cases hb : 0 ≤ b
  · have k1 := Int.mul_nonneg e1 (Int.le_of_lt q2)
    have k2 := Int.mul_le_mul_of_nonneg_left h12 hb
    have k3 : (a * Q2 + b * P2) * Q1 = (a * Q1 + b * P1) * Q2 + (b * (P2 * Q1) - b * (P1 * Q2)) := by grind
    have k4 := Int.mul_neg_of_neg_of_pos z q1
    omega
  · have k1 := Int.mul_nonneg e3 (Int.le_of_lt q2)
    have k2 := Int.mul_le_mul_of_nonpos_left (show b ≤ 0 by omega) h23
    have k3 : (a * Q2 + b * P2) * Q3 = (a * Q3 + b * P3) * Q2 + (b * (P2 * Q3) - b * (P3 * Q2)) := by grind
    have k4 := Int.mul_neg_of_neg_of_pos z q3
    omega
theorem lin_pos {a b P1 Q1 P2 Q2 P3 Q3 : Int} (q1 : 0 < Q1) (q2 : 0 < Q2) (q3 : 0 < Q3) (h12 : P1 * Q2 ≤ P2 * Q1) (h23 : P2 * Q3 ≤ P3 * Q2) (e1 : 0 < a * Q1 + b * P1) (e3 : 0 < a * Q3 + b * P3) : 0 < a * Q2 + b * P2 := by
  refine Int.not_le.mp fun z => ?_
  by_cases hb : 0 ≤ b
  · have k1 := Int.mul_pos e1 q2
    have k2 := Int.mul_le_mul_of_nonneg_left h12 hb
    have k3 : (a * Q2 + b * P2) * Q1 = (a * Q1 + b * P1) * Q2 + (b * (P2 * Q1) - b * (P1 * Q2)) := by grind
    have k4 := Int.mul_nonneg (show 0 ≤ -(a * Q2 + b * P2) by omega) (Int.le_of_lt q1)
    rw [Int.neg_mul] at k4
    omega
  · have k1 := Int.mul_pos e3 q2
    have k2 := Int.mul_le_mul_of_nonpos_left (show b ≤ 0 by omega) h23
    have k3 : (a * Q2 + b * P2) * Q3 = (a * Q3 + b * P3) * Q2 + (b * (P2 * Q3) - b * (P3 * Q2)) := by grind
    have k4 := Int.mul_nonneg (show 0 ≤ -(a * Q2 + b * P2) by omega) (Int.le_of_lt q3)
    rw [Int.neg_mul] at k4
    omega
def Cvx (A : Int → Int → Prop) : Prop := ∀ P1 Q1 P2 Q2 P3 Q3, 0 < Q1 → 0 < Q2 → 0 < Q3 → P1 * Q2 ≤ P2 * Q1 → P2 * Q3 ≤ P3 * Q2 → A P1 Q1 → A P3 Q3 → A P2 Q2
theorem in1_cvx {L U a b : Int} : Cvx (In1 L U a b) := by
  intro P1 Q1 P2 Q2 P3 Q3 q1 q2 q3 h12 h23 ⟨e1, e2⟩ ⟨e3, e4⟩
  have k1 := lin_nn (a := a - L) (b := b) q1 q2 q3 h12 h23 (by rw [Int.sub_mul]; omega) (by rw [Int.sub_mul]; omega)
  have k2 := lin_pos (a := U - a) (b := -b) q1 q2 q3 h12 h23 (by rw [Int.sub_mul, Int.neg_mul]; omega) (by rw [Int.sub_mul, Int.neg_mul]; omega)
  rw [Int.sub_mul] at k1
  rw [Int.sub_mul, Int.neg_mul] at k2
  exact ⟨by omega, by omega⟩
theorem seg_cvx : Cvx fun P Q => 0 ≤ P ∧ P ≤ Q := by
  intro P1 Q1 P2 Q2 P3 Q3 q1 q2 q3 h12 h23 ⟨e1, e2⟩ ⟨e3, e4⟩
  have k1 := lin_nn (a := 0) (b := 1) q1 q2 q3 h12 h23 (by omega) (by omega)
  have k2 := lin_nn (a := 1) (b := -1) q1 q2 q3 h12 h23 (by omega) (by omega)
  exact ⟨by omega, by omega⟩
/-- three convex sets of shares, each two of them with one in common, have one in common -/
theorem helly {A B C : Int → Int → Prop} (cA : Cvx A) (cB : Cvx B) (cC : Cvx C) {P1 Q1 P2 Q2 P3 Q3 : Int} (q1 : 0 < Q1) (q2 : 0 < Q2) (q3 : 0 < Q3) (a1 : A P1 Q1) (b1 : B P1 Q1) (b2 : B P2 Q2) (c2 : C P2 Q2) (a3 : A P3 Q3) (c3 : C P3 Q3) :
    ∃ P Q, 0 < Q ∧ A P Q ∧ B P Q ∧ C P Q := by
  rcases Int.le_total (P1 * Q2) (P2 * Q1) with x | x
  · rcases Int.le_total (P2 * Q3) (P3 * Q2) with y | y
    · exact ⟨P2, Q2, q2, cA _ _ _ _ _ _ q1 q2 q3 x y a1 a3, b2, c2⟩
    · rcases Int.le_total (P1 * Q3) (P3 * Q1) with z | z
      · exact ⟨P3, Q3, q3, a3, cB _ _ _ _ _ _ q1 q3 q2 z y b1 b2, c3⟩
      · exact ⟨P1, Q1, q1, a1, b1, cC _ _ _ _ _ _ q3 q1 q2 z x c3 c2⟩
  · rcases Int.le_total (P1 * Q3) (P3 * Q1) with z | z
    · exact ⟨P1, Q1, q1, a1, b1, cC _ _ _ _ _ _ q2 q1 q3 x z c2 c3⟩
    · rcases Int.le_total (P2 * Q3) (P3 * Q2) with y | y
      · exact ⟨P3, Q3, q3, a3, cB _ _ _ _ _ _ q2 q3 q1 y z b2 b1, c3⟩
      · exact ⟨P2, Q2, q2, cA _ _ _ _ _ _ q3 q2 q1 y x a3 a1, b2, c2⟩
theorem in_seg {L U a b : Int} (hLU : L < U) (h1 : a < U ∨ a + b < U) (h2 : L ≤ a ∨ L ≤ a + b) : ∃ P Q, 0 < Q ∧ (0 ≤ P ∧ P ≤ Q) ∧ In1 L U a b P Q := by
  unfold In1
  by_cases c0 : L ≤ a ∧ a < U
  · exact ⟨0, 1, by omega, by omega, by omega, by omega⟩
  by_cases c1 : L ≤ a + b ∧ a + b < U
  · exact ⟨1, 1, by omega, by omega, by omega, by omega⟩
  by_cases c2 : a < L
  · have hb : 0 < b := by omega
    have e : a * b + b * (L - a) = L * b := by grind
    refine ⟨L - a, b, hb, ⟨by omega, by omega⟩, by rw [e]; exact Int.le_refl _, ?_⟩
    rw [e]
    exact Int.mul_lt_mul_of_pos_right hLU hb
  · have hb : 0 < -b := by omega
    have e : a * -b + b * (a - L) = L * -b := by grind
    refine ⟨a - L, -b, hb, ⟨by omega, by omega⟩, by rw [e]; exact Int.le_refl _, ?_⟩
    rw [e]
    exact Int.mul_lt_mul_of_pos_right hLU hb
/-- a straight line that goes to the right, rising -/
theorem both_up {L1 U1 L2 U2 a b c d : Int} (hb : 0 < b) (hd : 0 < d) (u1 : L1 < U1) (u2 : L2 < U2) (h1 : b * c + d * L1 < b * U2 + d * a) (h2 : d * a + b * L2 < d * U1 + b * c) : ∃ P Q, 0 < Q ∧ In1 L1 U1 a b P Q ∧ In1 L2 U2 c d P Q := by
  unfold In1
  by_cases k : b * L2 ≤ b * c + d * L1 - d * a
  · have e1 : a * b + b * (L1 - a) = L1 * b := by grind
    have e2 : c * b + d * (L1 - a) = b * c + d * L1 - d * a := by grind
    refine ⟨L1 - a, b, hb, ⟨by rw [e1]; exact Int.le_refl _, by rw [e1]; exact Int.mul_lt_mul_of_pos_right u1 hb⟩, by rw [e2, Int.mul_comm L2]; exact k, by rw [e2, Int.mul_comm U2]; omega⟩
  · have e1 : c * d + d * (L2 - c) = L2 * d := by grind
    have e2 : a * d + b * (L2 - c) = d * a + b * L2 - b * c := by grind
    refine ⟨L2 - c, d, hd, ⟨by rw [e2, Int.mul_comm L1]; omega, by rw [e2, Int.mul_comm U1]; omega⟩, by rw [e1]; exact Int.le_refl _, by rw [e1]; exact Int.mul_lt_mul_of_pos_right u2 hd⟩
/-- one that goes to the right, falling by e -/
theorem both_down {L1 U1 L2 U2 a b c e : Int} (hb : 0 < b) (he : 0 < e) (u1 : L1 < U1) (u2 : L2 < U2) (h3 : e * a + b * c < e * U1 + b * U2) (h4 : e * L1 + b * L2 ≤ e * a + b * c) : ∃ P Q, 0 < Q ∧ In1 L1 U1 a b P Q ∧ In1 L2 U2 c (-e) P Q := by
  unfold In1
  have m1 := Int.mul_lt_mul_of_pos_left u1 he
  have m2 := Int.mul_lt_mul_of_pos_left u2 hb
  by_cases k : b * c + e * a < b * U2 + e * L1
  · have e1 : a * b + b * (L1 - a) = L1 * b := by grind
    have e2 : c * b + -e * (L1 - a) = b * c - e * L1 + e * a := by grind
    refine ⟨L1 - a, b, hb, ⟨by rw [e1]; exact Int.le_refl _, by rw [e1]; exact Int.mul_lt_mul_of_pos_right u1 hb⟩, by rw [e2, Int.mul_comm L2]; omega, by rw [e2, Int.mul_comm U2]; omega⟩
  by_cases k2 : e * a + b * c < e * U1 + b * L2
  · have e1 : c * e + -e * (c - L2) = L2 * e := by grind
    have e2 : a * e + b * (c - L2) = e * a + b * c - b * L2 := by grind
    refine ⟨c - L2, e, he, ⟨by rw [e2, Int.mul_comm L1]; omega, by rw [e2, Int.mul_comm U1]; omega⟩, by rw [e1]; exact Int.le_refl _, by rw [e1]; exact Int.mul_lt_mul_of_pos_right u2 he⟩
  · have e1 : a * (2 * b * e) + b * ((c - U2) * b + (U1 - a) * e) = (e * a + b * c - b * U2 + e * U1) * b := by grind
    have e2 : c * (2 * b * e) + -e * ((c - U2) * b + (U1 - a) * e) = (b * c + b * U2 - e * U1 + e * a) * e := by grind
    have f1 : L1 * (2 * b * e) = (2 * (e * L1)) * b := by grind
    have f2 : U1 * (2 * b * e) = (2 * (e * U1)) * b := by grind
    have f3 : L2 * (2 * b * e) = (2 * (b * L2)) * e := by grind
    have f4 : U2 * (2 * b * e) = (2 * (b * U2)) * e := by grind
    refine ⟨(c - U2) * b + (U1 - a) * e, 2 * b * e, Int.mul_pos (by omega) he, ⟨?_, ?_⟩, ?_, ?_⟩
    · rw [e1, f1]
      exact Int.mul_le_mul_of_nonneg_right (by omega) (Int.le_of_lt hb)
    · rw [e1, f2]
      exact Int.mul_lt_mul_of_pos_right (by omega) hb
    · rw [e2, f3]
      exact Int.mul_le_mul_of_nonneg_right (by omega) (Int.le_of_lt he)
    · rw [e2, f4]
      exact Int.mul_lt_mul_of_pos_right (by omega) he
end Cl

namespace Cl
open PySem PySem.Spec PyProof.Rows L2
/-! ### a test of a thing's kind by a small def, asked quietly -/
/-- the thing u stands in the heap with its class's name -/
def KQ (K : PySem.W.Frag) (h : Heap) (u : Value) (T : String) : Prop := ∃ P : Heap → Prop, PySem.W.KitX K u (.type T) P ∧ P h ∧ (∀ h' : Heap, (∀ a o, u = .ref a → h.get? a = some o → h'.get? a = some o) → P h') ∧
  u ≠ .builtin "__main__.__loader__#opaque" ∧ ∀ a, u = .ref a → ∃ o, h.get? a = some o ∧ o.cls = .type T
theorem kq_at {K : PySem.W.Frag} {h : Heap} {a : Addr} {T : String} (Z : PySem.W.KitX K (.ref a) (.type T) (PySem.W.KitAt a T)) (p : ∃ o, h.get? a = some o ∧ o.cls = .type T) : KQ K h (.ref a) T :=
  ⟨_, Z, p, fun h' k => let ⟨o, e, c⟩ := p; ⟨o, k a o rfl e, c⟩, (fun z => nomatch z), fun b e => by cases e; exact p⟩
theorem Kd.kq {X : Cx} {pins : List (Addr × Obj)} {σ : L2.St} {H : Hp} {s : Shared} {v : V} {T : String} {u : Value} (I : Inv X pins σ H s) (h : Kd X.K H v T) (r : RelV v u) : KQ X.K s.heap u T := by
  cases h with
  | non => cases (show u = Value.none from r); exact ⟨_, PySem.W.kitx_none, trivial, fun _ _ => trivial, (fun z => nomatch z), fun a z => nomatch z⟩
  | bl b => cases (show u = Value.bool b from r); exact ⟨_, PySem.W.kitx_bool, trivial, fun _ _ => trivial, (fun z => nomatch z), fun a z => nomatch z⟩
  | int i => obtain ⟨t, q⟩ := (show ∃ t, u = Value.int i t from r); cases q; exact ⟨_, PySem.W.kitx_int, trivial, fun _ _ => trivial, (fun z => nomatch z), fun a z => nomatch z⟩
  | str x => obtain ⟨t, q⟩ := (show ∃ t, u = Value.str x t from r); cases q; exact ⟨_, PySem.W.kitx_str, trivial, fun _ _ => trivial, (fun z => nomatch z), fun a z => nomatch z⟩
  | @lst a xs h =>
    cases (show u = Value.ref a from r)
    obtain ⟨its, rv, ht, hz⟩ := I.list h
    exact kq_at PySem.W.kitx_list ht.isList.typeIs
  | @tup a xs h =>
    cases (show u = Value.ref a from r)
    obtain ⟨its, rv, ht, hz⟩ := I.tuple h
    exact kq_at PySem.W.kitx_tuple ht.typeIs
  | @dct a kvs ea =>
    cases (show u = Value.ref a from r)
    obtain ⟨_, _, vs, _, o, es, ep, h1, h2, _⟩ := (show ObjOk X.prog X.w H s.heap a (.dK kvs) from I.hok a _ ea)
    exact kq_at PySem.W.kitx_dict ⟨o, h1, h2.1⟩
theorem KQ.keeps {K : PySem.W.Frag} {h h' : Heap} {u : Value} {T : String} (q : KQ K h u T) (k : ∀ a o, u = .ref a → h.get? a = some o → h'.get? a = some o) : KQ K h' u T := by
  obtain ⟨P, Z, p, m, n, c⟩ := q
  refine ⟨P, Z, m h' k, fun h'' k2 => m h'' fun a o e g => k2 a o e (k a o e g), n, fun a e => ?_⟩
  obtain ⟨o, g, w⟩ := c a e
  exact ⟨o, k a o e g, w⟩
section
variable {P : Program} {w : World} {K : PySem.W.Frag} {mg : Str → Option Value}
/-- the modules' names stand in this heap -/
def Stands (K : PySem.W.Frag) (mg : Str → Option Value) (h : Heap) : Prop := K.In h ∧ h.Ns mainGlobals mg ∧ (∃ mb, h.Ns builtinsNs mb ∧ ∀ x : Str, x ≠ "__name__" → mb x = bootBuiltins x) ∧ h.NoLimit
theorem Stands.keeps {h h' : Heap} (s : Stands K mg h) (k : ∀ b o, h.get? b = some o → h'.get? b = some o) : Stands K mg h' := by
  obtain ⟨a, b, ⟨mb, c, d⟩, e⟩ := s
  exact ⟨fun x o z => k _ _ (a x o z), b.keeps k, ⟨mb, c.keeps k, d⟩, e.keeps k⟩
/-- f(u): a test of u's class, nothing changed -/
structure QW (P : Program) (w : World) (K : PySem.W.Frag) (mg : Str → Option Value) (f : Addr) : Prop where
  run : ∀ (A : Around) (s : Shared) (u : Value) (T : String) (b1 b2 : Bool), A.depth < recursionLimit → Stands K mg s.heap → KQ K s.heap u T → kitB T "int" = some b1 → kitB T "bool" = some b2 →
    codeAny (model P w) A (.call (.ref f) ⟨[u], []⟩) (fun r s' => r = .ok (.ret (.bool (b1 && !b2))) ∧ Keeps s s') s
theorem keeps_trans {s s1 s2 : Shared} (a : Keeps s s1) (b : Keeps s1 s2) : Keeps s s2 := by
  obtain ⟨h, tk, rfl, k⟩ := a
  obtain ⟨h2, tk2, rfl, k2⟩ := b
  exact ⟨h2, tk2, rfl, fun b o e => k2 b o (k b o e)⟩
/-- isinstance(name, T) in an env of a function -/
theorem quiet_isi {A : Around} {E : Value → Shared → Prop} {env : Env} {s : Shared} {x c : Str} {m : Str → Option Value} {u : Value} {T tc : String} {b : Bool} {Q : Value → Shared → Prop} {p1 p2 p3 p4 : Pos}
    (hk : env.scope.kind = .function) (hx : env.kindOf x = some .local) (hi : env.kindOf "isinstance" = some .globalImplicit) (hc : env.kindOf c = some .globalImplicit) (hg : env.globals = mainGlobals) (hb : env.builtins = builtinsNs)
    (St : Stands K mg s.heap) (mi : mg "isinstance" = none) (mc : mg c = none) (bc : bootBuiltins c = some (.type tc)) (hn : s.heap.Ns env.locals m) (hm : m x = some u) (q : KQ K s.heap u T) (e : kitB T tc = some b)
    (h : ∀ tk, Q (.bool b) { s with toks := tk })
    (hd : (x == ("__debug__" : Str)) = false := by decide) (hdc : (c == ("__debug__" : Str)) = false := by decide) (hcn : c ≠ "__name__" := by decide)
    (he : starEach [.Name x p2, .Name c p3] env = (false, eval (.Name x p2) env) :: starEach [.Name c p3] env := by rfl) (he2 : starEach [.Name c p3] env = [(false, eval (.Name c p3) env)] := by rfl) :
    wpAny (model P w) A (eval (.Call (.Name "isinstance" p1) [.Name x p2, .Name c p3] [] p4) env) Q E s := by
  obtain ⟨inK, ns, ⟨mb, nb, hmb⟩, lim⟩ := St
  have glb : ∀ {y : Str} {v : Value} {p : Pos} {R : Value → Shared → Prop}, env.kindOf y = some .globalImplicit → mg y = none → bootBuiltins y = some v → y ≠ "__name__" → (y == ("__debug__" : Str)) = false → R v s → wpAny (model P w) A (eval (.Name y p) env) R E s :=
    fun {y v p R} k1 k2 k3 k4 k5 r => Calls.Name_function_global hk k1 (Calls.loadGlobal_builtin (by rw [hg]; exact ns) k2 (by rw [hb]; exact nb) ((hmb y k4).trans k3) r) k5
  refine wpAny_Call_Name_kw (glb hi mi PyProof.Rows.boot_isinstance (by decide) (by decide) ?_)
  refine PyProof.Rows.callWith_builtin1 ?_ he (by rw [he2]; rfl)
  rw [he, he2]
  refine Calls.spliced_cons (wpAny_Name (wpAny_loadName_local hk hx hn hm ?_) hd)
  refine Calls.spliced_cons (glb hc mc bc hcn hdc ?_)
  refine Calls.spliced_nil ?_
  obtain ⟨Pz, Z, pz, _, nl, _⟩ := q
  exact PySem.W.kia_one Z inK pz (kit_ty e) nl h
end
end Cl
namespace Cl
open PySem PySem.Spec PyProof.Rows L2
/-! ### def is_whole(thing): return isinstance(thing, int) and not isinstance(thing, bool) -/
section
variable {P : Program} {w : World} {K : PySem.W.Frag} {mg : Str → Option Value}
theorem qw_of {x qual : Str} {st : Stmt} {f : Addr} {fd : FuncData} {p1 p2 p3 p4 p5 p6 p7 p8 p9 p10 p11 : Pos} {y : Str} {k : Nat}
    (F : Fun K x qual st f fd) (S : FnScope [y] [y] (defScope st)) (hloc : (defScope st).names.lookup y = some .local)
    (hi : (defScope st).names.lookup ("isinstance" : Str) = some .globalImplicit) (hc : (defScope st).names.lookup ("int" : Str) = some .globalImplicit) (hb : (defScope st).names.lookup ("bool" : Str) = some .globalImplicit)
    (mi : mg "isinstance" = none) (mc : mg "int" = none) (mb : mg "bool" = none)
    (hbody : defBody st = [.Return (some (.BoolOp .And [.Call (.Name "isinstance" p1) [.Name y p2, .Name "int" p3] [] p4, .UnaryOp .Not (.Call (.Name "isinstance" p5) [.Name y p6, .Name "bool" p7] [] p8) p9] p10)) p11])
    (hbind : Binds K fd [y] []) (hyd : (y == ("__debug__" : Str)) = false := by decide) : QW P w K mg f := by
  refine ⟨fun A s u T b1 b2 hdep St q e1 e2 => ?_⟩
  have hb0 := hbind s [u] St.1 rfl
  obtain ⟨oc, od, kV, doc, pm, an, cdv, ct, osl, rfl, lk, hcd⟩ := F.ex
  obtain ⟨inK, ns, nb, lim⟩ := id St
  refine codeAny_call_function hdep (inK _ _ lk) rfl S.co S.gen rfl (PySem.W.codeRec_of inK hcd) (hb0 _ _ _ _ ?_)
  have kinds : ∀ z ∈ [y].zip ([u] ++ []), (defScope st).names.lookup z.1 = some .local ∨
      ((defScope st).names.lookup z.1 = some .cell ∧ ((cellsFrom (s.heap.objs.size + 1) (defScope st).names []).lookup z.1).isSome = true) := by
    intro z hz
    simp only [List.append_nil, List.zip_cons_cons, List.zip_nil_right, List.mem_singleton] at hz
    subst hz
    exact .inl hloc
  refine wpAny_newFunctionEnv_cells S.kind kinds fun env he s1 z => ?_
  subst he
  have k1 := z.toInCall.keep
  have St1 : Stands K mg s1.heap := St.keeps k1
  have q1' : KQ K s1.heap u T := q.keeps fun a o _ e => k1 a o e
  have ks1 : Keeps s s1 := z.done
  refine ⟨St1.2.2.2, codeAny_func ?_⟩
  show wpAny _ _ (execs (defBody st) _) _ _ s1
  rw [hbody]
  have hm : (bindL (newEnv (defScope st) s.heap.objs.size mainGlobals (cellsFrom (s.heap.objs.size + 1) (defScope st).names []) (qual ++ ".<locals>.") (some f) cdv none builtinsNs).kindOf ([y].zip ([u] ++ [])) fun _ => none) y = some u := by
    show (bindL (fun n => (defScope st).names.lookup n) [(y, u)] fun _ => none) y = some u
    simp [bindL, hloc]
  have isi : ∀ {E' : Value → Shared → Prop} {A' : Around} {c : Str} {tc : String} {b : Bool} {q1 q2 q3 q4 : Pos} {s2 : Shared} {Q2 : Value → Shared → Prop}, Keeps s1 s2 → (defScope st).names.lookup c = some .globalImplicit → mg c = none → bootBuiltins c = some (.type tc) → kitB T tc = some b → (c == ("__debug__" : Str)) = false → c ≠ "__name__" →
      (∀ tk, Q2 (.bool b) { s2 with toks := tk }) → wpAny (model P w) A' (eval (.Call (.Name "isinstance" q1) [.Name y q2, .Name c q3] [] q4) (newEnv (defScope st) s.heap.objs.size mainGlobals (cellsFrom (s.heap.objs.size + 1) (defScope st).names []) (qual ++ ".<locals>.") (some f) cdv none builtinsNs)) Q2 E' s2 := by
    intro E' A' c tc b q1 q2 q3 q4 s2 Q2 ks hcc hmc hbc he hd hn2 h
    obtain ⟨h2, tk2, rfl, k2⟩ := ks
    exact quiet_isi (K := K) (mg := mg) (T := T) S.kind hloc hi hcc rfl rfl (St1.keeps k2) mi hmc hbc (z.toInCall.ns.keeps k2) hm (q1'.keeps fun a o _ e => k2 a o e) he h hyd hd hn2 rfl rfl
  refine wpAny_execs_cons (wpAny_Return_some ?_)
  refine BoolOp_and (isi (GxR.keeps_refl _) hc mc PyProof.Rows.boot_int e1 (by decide) (by decide) fun tk => wpAny_truthy_bool ?_)
  cases b1 with
  | false => exact ⟨rfl, keeps_trans ks1 (GxR.keeps_tok _ _)⟩
  | true =>
    refine BoolOp_one (UnaryOp_ (isi (GxR.keeps_tok _ _) hb mb PyProof.Rows.boot_bool e2 (by decide) (by decide) fun tk2 => not_of (wpAny_truthy_bool ?_)))
    exact ⟨rfl, keeps_trans ks1 (GxR.keeps_tok _ _)⟩
end
end Cl

namespace Cl
open PySem PySem.Spec PyProof.Rows L2
open GxR (TabB TabG Tabbed GenS inv_tab sh_eta)
/-! ### all(test for x in t), t a tuple, the test asked quietly -/
def EltT (P : Program) (w : World) (K : PySem.W.Frag) (mg : Str → Option Value) (scope : Scope) (x : Str) (elt : Expr) (D : Nat) (Cp : List (Str × Addr) → Heap → Prop) (ok : Heap → Value → Bool → Prop) : Prop :=
  ∀ (cenv : Env) (A' : Around) (E' : Value → Shared → Prop) (u : Value) (b : Bool) (s₂ : Shared) (m₂ : Str → Option Value), A'.handled = none → A'.depth ≤ D → cenv.scope = scope → cenv.globals = mainGlobals → cenv.builtins = builtinsNs →
    Stands K mg s₂.heap → Cp cenv.cells s₂.heap → s₂.heap.Ns cenv.locals m₂ → m₂ x = some u → ok s₂.heap u b →
    wpAny (model P w) A' (eval elt cenv) (fun y s₃ => y = .bool b ∧ Keeps s₂ s₃) E' s₂
theorem Same.tabbed {H H' : Hp} {P : Addr} (h : TabG H P) (t : Tabbed P H H') : Same H H' := fun b o e => by
  by_cases hb : b = P
  · subst hb
    obtain ⟨ps, e1, _⟩ := h
    rw [e1] at e
    cases e
    obtain ⟨ps', e2, t2⟩ := t.1
    exact fun _ => ⟨ps', e2, t2⟩
  · rw [t.2 b hb]
    exact .of e
theorem Same.tab {H H' : Hp} {P : Addr} (s : Same H H') (h : TabG H P) : TabG H' P := by
  obtain ⟨ps, e, t⟩ := h
  obtain ⟨ps', e', t'⟩ := s P _ e t
  exact ⟨ps', e', t'⟩
def tAllT (K : PySem.W.Frag) (P : Addr) (cap : L2.St → Hp → Prop) (okV : Hp → V → Bool → Prop) (te : TE) : TE := fun σ H Q => te σ H fun v H1 => ∃ (a : Addr) (xs : List V) (bs : List Bool), v = .ref a ∧ SqT K H1 a xs ∧ bs.length = xs.length ∧
  (∀ (i : Nat) x b, xs[i]? = some x → bs[i]? = some b → okV H1 x b) ∧ cap σ H1 ∧ TabG H1 P ∧ ∀ H2, Same H1 H2 → TabG H2 P → Q (.bl (bs.all id)) H2
theorem all_range (bs : List Bool) : (List.range bs.length).all (fun j => bs.getD j false) = bs.all id := by
  rw [Bool.eq_iff_iff, List.all_eq_true, List.all_eq_true]
  constructor
  · intro h b hb
    obtain ⟨j, hj, e⟩ := List.getElem_of_mem hb
    have q := h j (List.mem_range.mpr hj)
    rw [List.getD_eq_getElem?_getD, List.getElem?_eq_getElem hj, e] at q
    exact q
  · intro h j hj
    have hj' := List.mem_range.mp hj
    rw [List.getD_eq_getElem?_getD, List.getElem?_eq_getElem hj']
    exact h _ (List.getElem_mem hj')
section
variable {X : Cx}
theorem pe_allT {c P : Addr} {elt iter : Expr} {x : Str} {px p pos gpos : Pos} {scope : Scope} {te : TE} {k : Nat} {Cp : List (Str × Addr) → Heap → Prop} {ok : Heap → Value → Bool → Prop} {cap : L2.St → Hp → Prop} {okV : Hp → V → Bool → Prop}
    (hr : Room k X.A) (hg : Gl X "all") (hm : X.mg "all" = none) (TB : TabB X.base X.mg c P) (hcode : X.env.code = .ref c) (S : GenS X.env scope x) (hi : PE X iter te)
    (hel : EltT X.prog X.w X.K X.mg scope x elt (X.A.depth + 1) Cp ok)
    (okk : ∀ h h' u b, ok h u b → (∀ a o, u = .ref a → h.get? a = some o → h'.get? a = some o) → ok h' u b) (okr : ∀ h u b a, ok h u b → u = .ref a → ∃ o, h.get? a = some o ∧ o.cls ≠ .none)
    (okI : ∀ {pins : List (Addr × Obj)} {σ : L2.St} {H : Hp} {s : Shared} {v : V} {u : Value} {b : Bool}, Inv X pins σ H s → RelV v u → okV H v b → ok s.heap u b)
    (cpI : ∀ {pins : List (Addr × Obj)} {σ : L2.St} {H : Hp} {s : Shared}, Inv X pins σ H s → cap σ H → Cp (cloFrom X.env.cells scope.names []) s.heap)
    (cpk : ∀ h h', (∀ b o, o.cls ≠ .none → h.get? b = some o → h'.get? b = some o) → Cp (cloFrom X.env.cells scope.names []) h → Cp (cloFrom X.env.cells scope.names []) h')
    (teσ : ∀ {pins : List (Addr × Obj)} {σ : L2.St} {H : Hp} {s : Shared}, True)
    (hs : ∀ v, genFold iter X.env v = pure v)
    (he : starEach [.GeneratorExp elt [⟨.Name x px, iter, [], 0⟩] scope gpos] X.env = (false, eval (.GeneratorExp elt [⟨.Name x px, iter, [], 0⟩] scope gpos) X.env) :: starEach [] X.env := by rfl) :
    PE X (.Call (.Name "all" p) [.GeneratorExp elt [⟨.Name x px, iter, [], 0⟩] scope gpos] [] pos) (tAllT X.K P cap okV te) := by
  refine ⟨fun pins s σ H Q I h => ?_⟩
  refine wpAny_Call_Name_kw (ld_blt I hg hm PyProof.Rows.boot_all ?_)
  refine PyProof.Rows.callWith_builtin1 ?_ he (by rfl)
  rw [he]
  show wpAny _ _ (spliced ((false, eval (.GeneratorExp elt [⟨.Name x px, iter, [], 0⟩] scope gpos) X.env) :: backTo pos (starEach [] X.env))) _ _ s
  refine Calls.spliced_cons ?_
  refine wpAny_GeneratorExp_walksQD hr.hd S.co (closure_ok S.free) S.cell S.dot S.loc S.kind (by have := hr.dp; omega) ?_ hs
  refine thn (hi.run pins s σ H _ I h) fun xv s1 ⟨v, H1, I1, r1, q1⟩ => ?_
  obtain ⟨a, xs, bs, rfl, hS, lbs, hok, hcap, hT, q⟩ := q1
  cases r1
  obtain ⟨ps, hP, ht⟩ := id hT
  obtain ⟨its, rv, tup, hz⟩ := I1.tuple hS
  have lx := rv.length
  refine wpAny_pyIter_tuple tup ?_
  have hPs : s1.heap.get? P = some { cls := .none, data := .fields ps } := I1.hok P _ hP
  have hPlt : P < s1.heap.objs.size := Heap.lt_size hPs
  have halt : a < s1.heap.objs.size := by obtain ⟨o, e, _⟩ := id tup; exact Heap.lt_size e
  have haP : a ≠ P := fun e => by
    obtain ⟨o, e1, e2, _⟩ := id tup
    rw [e, hPs] at e1
    cases e1
    cases e2
  generalize hito : ({ cls := .type "tuple_iterator", data := .fields #[.ref a, .int 0 0] } : Obj) = ito
  have hP2 : (s1.heap.push ito).get? P = some { cls := .none, data := .fields ps } := Heap.get?_push_of_some _ hPs
  have cd : PySem.W.CodeHd (s1.heap.push ito) c P := TB.code.keeps fun b u e => Heap.get?_push_of_some _ (I1.bk b u e)
  have lim2 : (s1.heap.push ito).NoLimit := I1.nolimit.push ito
  have sz2 : (s1.heap.push ito).objs.size = s1.heap.objs.size + 1 := Heap.size_push ..
  have cont : ∀ (code : Value) (h3 : Heap) (tk : Nat) (ps' : Array Value), Heap.ExtBut P (s1.heap.push ito) h3 → (s1.heap.push ito).objs.size ≤ h3.objs.size → h3.get? P = some { cls := .none, data := .fields ps' } → (∃ more, ps' = ps ++ more) → TriplesOk ps'.toList →
      wpAny (model X.prog X.w) X.A (builtinsFor X.env.globals X.env.builtins) (fun bi s₄ =>
        ∃ Ia fp wr n₀ Pf St₀ pz F, Value.ref s1.heap.objs.size = .ref Ia ∧ (∀ A' : Around, A'.handled = none → Walks X.prog X.w A' Ia fp wr n₀ Pf St₀) ∧ St₀ 0 s₄.heap ∧ (∀ b ∈ fp, b < s₄.heap.objs.size) ∧ s₄.heap.NoLimit ∧ cStatics ∉ wr ∧
          (∀ href : Heap, (∀ b o, s₄.heap.get? b = some o → href.get? b = some o) →
            QuietGenD X.prog X.w (genEnv scope (cloFrom X.env.cells scope.names []) s₄.heap.objs.size code bi X.env) x [] elt (List.range s₄.heap.objs.size) wr Pf pz F href (X.A.depth + 1) (X.A.units + 8)) ∧
          (∀ a h₅ tk gs, gs.bare = true → s₄.heap.objs.size < a → h₅.objs.size = a + 1 → (∀ b o, s₄.heap.get? b = some o → h₅.get? b = some o) →
            WalksS X.prog X.w X.A.in4 a (a :: s₄.heap.objs.size :: List.range s₄.heap.objs.size) (s₄.heap.objs.size :: wr) (GenOnlyQ s₄.gens.size) (passing pz n₀ 0).length
              (fun j y => ∃ i, (passing pz n₀ 0)[j]? = some i ∧ F i y) (GenAt X.prog X.w X.A.in4 a s₄.gens.size s₄.heap.objs.size (List.range s₄.heap.objs.size) wr pz n₀ F) →
            GenAt X.prog X.w X.A.in4 a s₄.gens.size s₄.heap.objs.size (List.range s₄.heap.objs.size) wr pz n₀ F 0 { s₄ with gens := s₄.gens.push gs, toks := tk, heap := h₅ } →
            wpAny (model X.prog X.w) X.A (spliced (backTo pos (starEach [] X.env))) (fun vs s2 => wpAny (model X.prog X.w) X.A (call (.builtin "all") (.ref a :: vs)) (EP X pins σ Q) X.xe s2) X.xe { s₄ with gens := s₄.gens.push gs, toks := tk, heap := h₅ })) X.xe { s1 with heap := h3, toks := tk } := by
    intro code h3 tk ps' hx hsz hP3 hmore ht3
    obtain ⟨bm, ob, e1, e2, e3, e4, e5, e6, e7, e8⟩ := TB.bm
    have keep3 : ∀ b u, b ≠ P → s1.heap.get? b = some u → h3.get? b = some u := fun b u hb e => hx b u hb (Heap.get?_push_of_some _ e)
    have hcP : cStatics ≠ P := fun e => by
      obtain ⟨_, hns, _⟩ := I1.nolimit
      obtain ⟨o', es, ep, ho, hd, _⟩ := hns
      rw [e, hPs] at ho
      cases ho
      cases hd
    have hcl : cStatics < s1.heap.objs.size := let ⟨_, hns, _⟩ := I1.nolimit; hns.lt
    have bP : ∀ b o, X.base.get? b = some o → b ≠ P := fun b o e z => by
      have := (I1.bs b o e).2
      rw [z, hP] at this
      cases this
    have stB : Stands X.K X.mg X.base := ⟨I1.mod.kin, I1.mod.glob, I1.mod.blt, I1.mod.nolimit⟩
    refine wpAny_builtinsFor (m := X.mg) (by rw [I1.ok.glob]; exact ((I1.mod.glob.keeps I1.bk).push ito).extBut hx TB.gP) e1 e2 (keep3 _ _ e4 (I1.bk _ _ e5)) e6 e7 e8 ?_
    refine ⟨s1.heap.objs.size, [s1.heap.objs.size, a], [s1.heap.objs.size], its.toArray.size, fun i v => its.toArray[i]? = some v, (fun i h => h.IsTupleIter s1.heap.objs.size a i ∧ h.IsTuple a its.toArray), (fun _ => true), (fun i y => i < its.toArray.size ∧ y = .bool (bs.getD i false)), rfl,
      fun A' hA => Walks.tuple hA _ _ (Nat.ne_of_lt halt) _, ⟨?_, ?_⟩, ?_, lim2.extBut hx hcP, ?_, ?_, ?_⟩
    · refine ⟨ito, hx _ _ (fun z => Nat.ne_of_lt hPlt z.symm) (Heap.get?_push_size _ (by rw [← hito]; rfl)), by rw [← hito], by rw [← hito]; rfl⟩
    · obtain ⟨o, g1, g2, g3⟩ := id tup
      exact ⟨o, keep3 a o haP g1, g2, g3⟩
    · intro b hb
      show b < h3.objs.size
      simp only [List.mem_cons, List.not_mem_nil, or_false] at hb
      rcases hb with z | z
      · rw [z]; exact Nat.lt_of_lt_of_le (by rw [sz2]; exact Nat.lt_succ_self _) hsz
      · rw [z]; exact Nat.lt_of_lt_of_le halt (Nat.le_trans (by rw [sz2]; exact Nat.le_succ _) hsz)
    · intro z
      rw [List.mem_singleton.mp z] at hcl
      exact Nat.lt_irrefl _ hcl
    · intro href hhref
      refine ⟨fun A' E' i v s₂ m₂ hA hD hU hPv hn hm hk => ?_, fun A' E' i v s₂ m₂ hA hD hU hPv hp hn hm hk => ?_⟩
      · simp only [List.forIn_nil]
        exact wpAny_pure ⟨rfl, GxR.keeps_refl _⟩
      · have key : ∀ b o, b ≠ P → s1.heap.get? b = some o → s₂.heap.get? b = some o := fun b o hb e =>
          hk b (List.mem_range.mpr (Heap.lt_size (keep3 b o hb e))) (fun z => by
            have l := Heap.lt_size e
            rw [List.mem_singleton.mp z] at l
            exact Nat.lt_irrefl _ l) o (hhref b o (keep3 b o hb e))
        have hi' : i < its.length := by
          have := (Array.getElem?_eq_some_iff.mp hPv).1
          simpa using this
        obtain ⟨v', ev, rel⟩ := rv.get (List.getElem?_eq_getElem (show i < xs.length by omega))
        have evv : v' = v := by
          have h1 : its[i]? = some v := by simpa using hPv
          rw [h1] at ev
          exact (Option.some.inj ev).symm
        subst evv
        have hb1 : bs[i]? = some (bs.getD i false) := by
          rw [List.getD_eq_getElem?_getD, List.getElem?_eq_getElem (show i < bs.length by omega)]
          rfl
        have o1 := okI I1 rel (hok i _ _ (List.getElem?_eq_getElem (show i < xs.length by omega)) hb1)
        have o2 := okk _ s₂.heap _ _ o1 fun a' o e g => key a' o (fun z => by
          obtain ⟨o', g1, g2⟩ := okr _ _ _ a' o1 e
          rw [z, hPs] at g1
          cases g1
          exact g2 rfl) g
        refine wpAny_mono (hel _ A' E' v' _ s₂ m₂ hA hD rfl I1.ok.glob rfl (stB.keeps fun b o e => key b o (bP b o e) (I1.bk b o e)) ?_ hn hm o2) (fun y s3 r => ⟨⟨by simpa using hi', r.1⟩, r.2⟩) fun _ _ e => e
        exact cpk s1.heap s₂.heap (fun b o hc e => key b o (fun z => by
          rw [z, hPs] at e
          cases e
          exact hc rfl) e) (cpI I1 hcap)
    · intro g h5 tk5 gs hgb hag hsz5 hk5 W5 hat
      simp only [GxR.passing_true, List.length_range] at W5
      refine Calls.spliced_nil ?_
      have W := W5.in4_1
      refine call_all_walkS (W.self 0 _ _ _ hat ⟨g, _, _, _, _, _, _, fun j => bs.getD j false, rfl, W, hat, ?_, fun s' hm => ?_⟩)
      · intro j y sj Qj Ej hy hQj
        obtain ⟨i, hij, hi2, rfl⟩ := hy
        try rw [GxR.passing_true] at hij
        obtain ⟨hj, ej⟩ := List.getElem?_eq_some_iff.mp hij
        rw [List.getElem_range] at ej
        subst ej
        exact wpAny_truthy_bool hQj
      · obtain ⟨more, em⟩ := hmore
        have nwr : ∀ b u, s1.heap.get? b = some u → b ∉ h3.objs.size :: [s1.heap.objs.size] := fun b u e hb => by
          have hl := Heap.lt_size e
          simp only [List.mem_cons, List.not_mem_nil, or_false] at hb
          rcases hb with z | z
          · rw [z] at hl
            have h9 : (h3.objs.size : Nat) < s1.heap.objs.size := hl
            omega
          · rw [z] at hl
            exact Nat.lt_irrefl _ hl
        have J := inv_tab (more := more) (h' := s'.heap) (g' := s'.gens) (d' := s'.drawn) (t' := s'.toks) I1 hP (fun b u hb e => hm.heap b u (nwr b u e) (hk5 b u (keep3 b u hb e)))
          (by rw [← em]; exact hm.heap P _ (nwr P _ hPs) (hk5 P _ hP3)) (AllBare.movedS (I1.bare.push hgb) hm)
        rw [sh_eta s1 s' hm.os] at J
        have tb : Tabbed P H1 (upd H1 P (.tbl (ps ++ more))) := ⟨⟨ps ++ more, upd_same, by rw [← em]; exact ht3⟩, fun b hb => upd_ne hb⟩
        refine ⟨.bl _, _, J, ?_, q _ (Same.tabbed hT tb) tb.1⟩
        show Value.bool _ = Value.bool _
        rw [← all_range bs, show its.toArray.size = bs.length by simp; omega]
  refine ⟨lim2, ?_⟩
  cases hf : codeAmong gpos ps.toList with
  | none =>
    refine wpAny_genexprCodeX hcode (cd.code hP2 ht) (cd.tab hP2) hf fun c' h' tk hx hge hlt hco' _ htab' _ => ?_
    obtain ⟨o1, vs, f1, tf, fl, tg, inF, tx, tt, op, _, _, _, _, _, _, _, _, _, htr, _⟩ := hco'
    exact cont _ h' tk _ hx (Nat.le_trans hge (Nat.le_of_lt hlt)) htab'.2 ⟨_, rfl⟩ htr
  | some cv =>
    refine wpAny_genexprCode_hit hcode (cd.code hP2 ht) hf ?_
    exact cont cv (s1.heap.push ito) s1.toks ps (Heap.ExtBut.refl _ _) (Nat.le_refl _) hP2 ⟨#[], by simp⟩ ht
end
end Cl

namespace Cl
open PySem PySem.Spec PyProof.Rows L2
open GxR (TabB TabG)
/-! ### a def whose code object's table grows -/
section
variable {P : Program} {w : World} {K : PySem.W.Frag} {mg : Str → Option Value} {base : Heap}
theorem okGT {x qual : Str} {st : Stmt} {f : Addr} {fd : FuncData} {N ps : List Str} {k : Nat} {sp : Sp} {c : Addr}
    (F : Fun K x qual st f fd) (hc : fd.code = .ref c) (S : FnScope N ps (defScope st))
    (len : ∀ vs H Q E, sp vs H Q E → vs.length = ps.length)
    (body : ∀ (A : Around) (outer : List Env) (s : Shared) (H : Hp) (vs : List V) (Q : VK) (E : XK),
      RG k (A.deeper (envOfC qual (defScope st) s.heap.objs.size f (.ref c))) → sp vs H Q E →
      ∃ t, PSs (cxOf CX0 P w K mg base N qual (defScope st) f (.ref c) A outer s H E).nox (defBody st) t ∧
        t { nx := fun _ H' => Q .non H', rt := Q } (start N vs) H) :
    FnG P w K mg base CX0 (k + 1) f fd ps sp := by
  obtain ⟨oc, od, kV, doc, pm, an, cdv, ct, osl, rfl, lk, hcd⟩ := F.ex
  have hc : cdv = .ref c := hc
  subst hc
  constructor
  · exact len
  intro A outer s H args us vs Q E hr e0 hb r hsp
  have nvs := len _ _ _ _ hsp
  have keepB : ∀ b o, base.get? b = some o → s.heap.get? b = some o := fun b o z => (e0.bs b o z).1
  have inK : K.In s.heap := e0.mod.kin.keeps keepB
  have nolim : s.heap.NoLimit := e0.mod.nolimit.keeps keepB
  have kinds : ∀ y ∈ ps.zip us, (defScope st).names.lookup y.1 = some .local ∨
      ((defScope st).names.lookup y.1 = some .cell ∧
        ((cellsFrom (s.heap.objs.size + 1) (defScope st).names []).lookup y.1).isSome = true) := by
    rintro ⟨n, v⟩ hy
    rcases S.par n (List.of_mem_zip hy).1 with z | z
    · exact .inl z
    · exact .inr ⟨z, PySem.W.cellsFrom_some _ _ _ (.inl z)⟩
  refine codeAny_call_function hr.room.depth (inK _ _ lk) rfl S.co S.gen rfl
    (PySem.W.codeRec_of inK hcd) (hb _ _ _ _ ?_)
  refine wpAny_newFunctionEnv_cells S.kind kinds fun env he s1 x => ?_
  subst he
  refine ⟨nolim.keeps x.toInCall.keep, codeAny_func ?_⟩
  have hr2 : RG k (A.deeper (envOfC qual (defScope st) s.heap.objs.size f (.ref c))) := ⟨hr.room.deeper _, hr.gd⟩
  obtain ⟨t, ht, hq⟩ := body A outer s H vs Q E hr2 hsp
  have I : Inv (cxOf CX0 P w K mg base N qual (defScope st) f (.ref c) A outer s H E) [] (start N vs) H s1 :=
    inv_start S hr.room.hd e0 nvs r x
  refine wpAny_mono (ht.nox.run [] s1 (start N vs) H _ I hq) (fun fl s' hs => ?_) fun _ _ z => z
  match fl, hs with
  | .ret u, ⟨v, σ', H', J, rv, q⟩ => exact ⟨v, H', J.os, J.bare, J.base, J.hok, rv, q⟩
  | .next, ⟨σ', H', J, q⟩ => exact ⟨V.non, H', J.os, J.bare, J.base, J.hok, rfl, q⟩
  | .brk, ⟨_, _, _, q⟩ => exact q.elim
  | .cont, ⟨_, _, _, q⟩ => exact q.elim
end
/-! ### the end: the law's call, some defs' tables growing -/
def TabN (mg : Str → Option Value) (h : Heap) (n : Str) : Prop := ∃ (f : Addr) (o : Obj) (fd : FuncData) (c P : Addr), mg n = some (.ref f) ∧ h.get? f = some o ∧ o.data = .func fd ∧ fd.code = .ref c ∧ PySem.W.CodeHd h c P ∧ h.TableAt c P #[]
theorem endGT {l : PySem.W.OpenLaw} {n k : Nat} {q : Program} {loose : List Str} {XP : (Str → Option Value) → Heap → Prop}
    {YP : World → Heap → Prop} {d : DefRec} {K : Params → PySem.W.Frag} {sp : PySem.W.Frag → List (Addr × Addr) → Sp} {x : Str} {ts : List Str}
    (hn : l.most = some n) (hn2 : n ≤ sizeLine) (hdf : d.params.defaults = []) (hr : RG k callerA) (hrec : (ts.all fun n => (recsOf q).any fun e => e.name == n) = true)
    (hY : ∀ (w : World) (h : Heap), YP w h → (K w.params).In h)
    (F : ∀ (w : World) (mg : Str → Option Value) (fa : Addr) (h : Heap), (K w.params).In h → h.Ns mainGlobals mg →
      mg d.name = some (.ref fa) → (∀ n ∈ ts, TabN mg h n) → ∃ (fd : FuncData) (cs : List (Addr × Addr)), (∀ p ∈ cs, PySem.W.CodeHd h p.1 p.2 ∧ h.TableAt p.1 p.2 #[] ∧ (K w.params).lookup p.2 = none) ∧ (∀ (s : Shared) (u : Value), BindsTo s fd ⟨[u], []⟩ [(x, u)]) ∧
        ∀ base : Heap, (K w.params).In base → base.Ns mainGlobals mg → (∀ p ∈ cs, TabB base mg p.1 p.2) → FnG l.prog w (K w.params) mg base CX0 k fa fd [x] (sp (K w.params) cs))
    (hsp : ∀ (w : World) (cs : List (Addr × Addr)) (H : Hp) (a : Addr) (ns : List Int), ns.length ≤ n → (∀ z ∈ ns, Builtin.Int.intBits z ≤ 1048576) →
      (∀ p ∈ cs, H p.2 = some (.tbl #[])) → SqL (K w.params) H a (ns.map V.int) → sp (K w.params) cs [.ref a] H (fun v _ => v = .bl true) E0) :
    PySem.W.WalkO q loose XP YP l.row.toRowW d [] (fun f vs => PySem.call f vs) := by
  refine Att.attach_callB hn hdf fun w s₀ s1 mg mb fa o pm cd doc a us ns G Y ho hd hcd hmg obj hints nlen bits gens => ?_
  have inK : (K w.params).In s1.heap := hY w _ Y
  have tn : ∀ n ∈ ts, TabN mg s1.heap n := fun n hn => by
    obtain ⟨dL, h1, h2⟩ := List.any_eq_true.mp (List.all_eq_true.mp hrec n hn)
    have h2 : dL.name = n := beq_iff_eq.mp h2
    obtain ⟨f, o, fd, c, P, t1, t2, t3, t4, t5, t6⟩ := G.T.tab dL h1
    exact ⟨f, o, fd, c, P, by rw [← h2]; exact t1, t2, t3, t4, .of t5 t6, t6⟩
  obtain ⟨fd, cs, hcs, bind, hF⟩ := F w mg fa _ inK G.T.g hmg tn
  have rv := vals_ints hints
  have nv : us.length = ns.length := hints.length
  obtain ⟨T, hT⟩ : ∃ T, T = cs.map (·.2) := ⟨_, rfl⟩
  have isT : ∀ b ∈ T, s1.heap.get? b = some { cls := .none, data := .fields #[] } := fun b hb => by
    rw [hT] at hb
    obtain ⟨p, hp, e⟩ := List.mem_map.mp hb
    rw [← e]
    exact (hcs p hp).2.1.2
  have memT : ∀ p ∈ cs, p.2 ∈ T := fun p hp => by rw [hT]; exact List.mem_map.mpr ⟨p, hp, rfl⟩
  have aT : a ∉ T := fun z => by
    have q := isT a z
    rw [obj] at q
    have z' : Data.seq us.toArray _ = Data.fields #[] := congrArg Obj.data (Option.some.inj q)
    cases z'
  have small : ns.length ≤ sizeLine := Nat.le_trans nlen hn2
  have go : ∀ H : Hp, (∀ b ∈ T, H b = some (.tbl #[])) → (∀ b, b ∉ T → H b = none ∨ ∃ ob xs, H b = some (.frz ob (.lst xs))) → SqL (K w.params) H a (ns.map V.int) → HOk l.prog w H s1.heap → (∀ b, H b ≠ none → b = a ∨ b ∈ T) →
      (H a ≠ none → (K w.params).lookup a = none) → codeAny (model l.prog w) callerA (.call (.ref fa) ⟨[.ref a], []⟩)
        (fun r s' => r = .ok (.ret (.bool true)) ∧ OldK s1.heap s'.heap ∧ s'.os = s1.os ∧ AllBare s'.gens) s1 := by
    intro H hTb only hS hok atA offK
    have left : ∀ {b : Addr} {o : Obj}, s1.heap.get? b = some o → H b = none → (hidT s1.heap H).get? b = some o :=
      fun e z => hidT_get e z
    -- what is no list and no empty table is not tracked
    have nothing : ∀ {b : Addr} {o : Obj}, s1.heap.get? b = some o → (∀ vs n, o.data ≠ .seq vs n) → o.data ≠ .fields #[] → H b = none := fun {b o} e h1 h2 => by
      cases z : H b with
      | none => rfl
      | some u =>
        rcases atA b (by rw [z]; intro y; cases y) with y | y
        · rw [y, obj] at e
          cases e
          exact absurd rfl (h1 _ _)
        · rw [isT b y] at e
          cases e
          exact absurd rfl h2
    have spaces : ∀ {b : Addr} {m : Str → Option Value}, s1.heap.Ns b m → (hidT s1.heap H).Ns b m :=
      fun {b m} ⟨o, es, ep, e, z, r⟩ => ⟨o, es, ep, left e (nothing e (fun vs n y => by rw [z] at y; cases y) (fun y => by rw [z] at y; cases y)), z, r⟩
    have inB : (K w.params).In (hidT s1.heap H) := fun b o e => left (inK b o e) (by
      cases z : H b with
      | none => rfl
      | some u =>
        rcases atA b (by rw [z]; intro y; cases y) with y | y
        · subst y
          rw [offK (by rw [z]; intro y; cases y)] at e
          cases e
        · rw [hT] at y
          obtain ⟨p, hp, ep⟩ := List.mem_map.mp y
          rw [← ep, (hcs p hp).2.2] at e
          cases e)
    have md : Mod (K w.params) mg (hidT s1.heap H) := by
      obtain ⟨mc, c1, c2⟩ := G.T.nolimit
      exact ⟨inB, spaces G.T.g, ⟨mb, spaces G.T.b, G.T.builtins⟩, ⟨mc, spaces c1, c2⟩⟩
    have TB : ∀ p ∈ cs, TabB (hidT s1.heap H) mg p.1 p.2 := fun p hp => by
      have hTp := isT _ (memT p hp)
      refine ⟨?_, ?_, fun z => ?_⟩
      · obtain ⟨o, us', file, tf, flags, tg, inF, text, tt, e1, r1, r2, r3, r⟩ := (hcs p hp).1
        refine ⟨o, us', file, tf, flags, tg, inF, text, tt, left e1 (nothing e1 (fun vs n z => ?_) fun z => ?_), r1, r2, r3, r⟩
        · rw [r2] at z
          cases z
        · rw [r2] at z
          cases z
          simp at r3
      · obtain ⟨bm, ob, b1, b2, b3, b4, b5, b6⟩ := G.T.bmain
        have nG : bm ≠ mainGlobals := fun y => by
          obtain ⟨o, es, ep, e, z, _⟩ := G.T.g
          rw [y, e] at b3
          cases b3
          rw [z] at b6
          cases b6
        have nP : bm ≠ p.2 := fun y => by
          rw [y, hTp] at b3
          cases b3
          cases b6
        refine ⟨bm, ob, b1, b2, nG, nP, left b3 (nothing b3 (fun vs n z => ?_) fun z => ?_), b4, b5, b6⟩
        · rw [b6] at z
          cases z
        · rw [b6] at z
          cases z
      · obtain ⟨o, es, ep, e, y, _⟩ := G.T.g
        rw [z, hTp] at e
        cases e
        cases y
    have e0 : Env0 l.prog w (K w.params) mg (hidT s1.heap H) callerA [] s1 H :=
      ⟨rfl, md, fun b o e => of_hidT e, Nat.le_of_eq (hidT_size _ _), trivial, fun b z => (nomatch z), hok, .of_eq gens⟩
    have run := (hF _ inB (spaces G.T.g) TB).run callerA [] s1 H ⟨[.ref a], []⟩ [.ref a] [.ref a] _ _ hr e0
      (bind s1 (.ref a)) (.cons rfl .nil) (hsp w cs H a ns nlen bits (fun p hp => hTb _ (memT p hp)) hS)
    refine codeAny_mono run fun res s' h => ?_
    match res, h with
    | .error e, h => exact h.elim
    | .ok .next, h => exact h.elim
    | .ok .brk, h => exact h.elim
    | .ok .cont, h => exact h.elim
    | .ok (.ret u), ⟨v, H', os, bare, un, hok', r', q⟩ =>
      have q' : v = .bl true := q
      subst q'
      have r2 : u = Value.bool true := r'
      subst r2
      have stays : ∀ b o, b ∉ T → s1.heap.get? b = some o → s'.heap.get? b = some o := fun b o hb e => by
        cases z : H b with
        | none => exact un.keep b o e z (fun y => (nomatch y)) (fun y => (nomatch y))
        | some u =>
          rcases only b hb with y | ⟨ob, xs, y⟩
          · rw [z] at y
            cases y
          · obtain ⟨e1, _⟩ := hok b _ y
            obtain ⟨e2, _⟩ := hok' b _ (un.frzs b ob _ y)
            rw [e] at e1
            cases e1
            exact e2
      have grows : ∀ b ∈ T, ∃ more : Array Value, s'.heap.get? b = some { cls := .none, data := .fields (#[] ++ more) } := fun b hb => by
        obtain ⟨more, z⟩ := un.tbls b #[] (hTb b hb)
        exact ⟨more, hok' b _ z⟩
      refine ⟨rfl, ⟨fun b o e => ?_, fun b o e => ?_⟩, os, bare⟩
      · by_cases hb : b ∈ T
        · obtain ⟨more, hm⟩ := grows b hb
          have hb2 := hb
          rw [hT] at hb2
          obtain ⟨p, hp, ep⟩ := List.mem_map.mp hb2
          rw [isT b hb] at e
          cases e
          exact .inr (.inl ⟨by rw [← ep]; exact (hcs p hp).2.1.isCodeTable, rfl, #[], more, rfl, hm⟩)
        · exact .inl (stays b o hb e)
      · by_cases hb : b ∈ T
        · obtain ⟨more, hm⟩ := grows b hb
          exact ⟨_, hm⟩
        · exact ⟨o, stays b o hb e⟩
  let Hf : Option HO → Hp := fun u b => if b ∈ T then some (.tbl #[]) else if b = a then u else none
  have hf : ∀ u b, b ∈ T → Hf u b = some (.tbl #[]) := fun u b hb => if_pos hb
  have hf2 : ∀ u b, b ∉ T → b ≠ a → Hf u b = none := fun u b hb hn => (if_neg hb).trans (if_neg hn)
  have hf3 : ∀ u, Hf u a = u := fun u => (if_neg aT).trans (if_pos rfl)
  cases hk : (K w.params).lookup a with
  | some o =>
    have e := inK a o hk
    rw [obj] at e
    cases e
    refine go (Hf none) (hf none) (fun b hb => ?_) (.inr ⟨_, us.toArray, _, hk, rfl, rfl, rfl, ?_, by simpa using rv⟩)
      (fun b u z => ?_) (fun b z => ?_) fun z => absurd (hf3 none) z
    · by_cases hn : b = a
      · rw [hn]; exact .inl (hf3 none)
      · exact .inl (hf2 none b hb hn)
    · rw [List.size_toArray, nv]
      exact small
    · by_cases hb : b ∈ T
      · rw [hf none b hb] at z
        cases z
        exact isT b hb
      · by_cases hn : b = a
        · rw [hn, hf3] at z; cases z
        · rw [hf2 none b hb hn] at z; cases z
    · by_cases hb : b ∈ T
      · exact .inr hb
      · by_cases hn : b = a
        · exact .inl hn
        · exact absurd (hf2 none b hb hn) z
  | none =>
    let ob : Obj := { cls := .type "list", data := .seq us.toArray }
    refine go (Hf (some (.frz ob (.lst (ns.map V.int))))) (hf _) (fun b hb => ?_) (.inl (.inr ⟨ob, hf3 _⟩)) (fun b u z => ?_) (fun b z => ?_) fun _ => hk
    · by_cases hn : b = a
      · rw [hn]; exact .inr ⟨_, _, hf3 _⟩
      · exact .inl (hf2 _ b hb hn)
    · by_cases hb : b ∈ T
      · rw [hf _ b hb] at z
        cases z
        exact isT b hb
      · by_cases hn : b = a
        · rw [hn, hf3] at z
          cases z
          rw [hn]
          exact ⟨obj, by rw [List.length_map]; exact small, us, _, rv, obj⟩
        · rw [hf2 _ b hb hn] at z; cases z
    · by_cases hb : b ∈ T
      · exact .inr hb
      · by_cases hn : b = a
        · exact .inl hn
        · exact absurd (hf2 _ b hb hn) z
end Cl

namespace Cl
open PySem PySem.Spec PyProof.Rows L2
open GxR (TabB TabG Tabbed GenS)
/-! ### all(is_whole(part) for part in thing) -/
/-- a tuple of these parts, or another thing -/
def Th (K : PySem.W.Frag) (H : Hp) (v : V) : Option (List V) → Prop
  | none => ∃ T, Kd K H v T ∧ T ≠ "tuple"
  | some xs => ∃ a, v = .ref a ∧ SqT K H a xs ∧ ∀ x ∈ xs, ∃ T, Kd K H x T
theorem Kd.same {K : PySem.W.Frag} {H H' : Hp} {v : V} {T : String} (h : Kd K H v T) (s : Same H H') : Kd K H' v T := by
  cases h with
  | non => exact .non
  | bl b => exact .bl b
  | int i => exact .int i
  | str x => exact .str x
  | lst h => exact .lst (by
      rcases h with (h | ⟨o, h⟩) | h
      · exact .inl (.inl (s _ _ h))
      · exact .inl (.inr ⟨o, s _ _ h⟩)
      · exact .inr h)
  | tup h => exact .tup (seT s h)
  | dct h => exact .dct (s _ _ h)
theorem Th.same {K : PySem.W.Frag} {H H' : Hp} {v : V} {o : Option (List V)} (h : Th K H v o) (s : Same H H') : Th K H' v o := by
  cases o with
  | none => obtain ⟨T, h, n⟩ := h; exact ⟨T, h.same s, n⟩
  | some xs => obtain ⟨a, e, h, p⟩ := h; exact ⟨a, e, seT s h, fun x hx => let ⟨T, q⟩ := p x hx; ⟨T, q.same s⟩⟩
def wholes : Option (List V) → Int → Bool
  | none, _ => false
  | some xs, m => decide ((xs.length : Int) = m) && xs.all isI
def spAre (K : PySem.W.Frag) (P : Addr) : Sp := fun vs H Q _ => ∃ v m o, vs = [v, .int m] ∧ TabG H P ∧ Th K H v o ∧ ∀ H', Same H H' → Q (.bl (wholes o m)) H'
/-- is_whole(u), told quietly -/
def okQ (K : PySem.W.Frag) (h : Heap) (u : Value) (b : Bool) : Prop := ∃ T b1 b2, KQ K h u T ∧ kitB T "int" = some b1 ∧ kitB T "bool" = some b2 ∧ b = (b1 && !b2)
section
variable {P : Program} {w : World} {K : PySem.W.Frag} {mg : Str → Option Value}
theorem elt_qw {fn x : Str} {f : Addr} {p1 p2 p3 : Pos} {scope : Scope} {D : Nat} {Cp : List (Str × Addr) → Heap → Prop} (W : QW P w K mg f) (hD : D < recursionLimit) (hf : mg fn = some (.ref f)) (hkf : PySem.W.keepIn K (.ref f) = true)
    (hk : scope.kind = .function) (hl : scope.names.lookup x = some .local) (hg : scope.names.lookup fn = some .globalImplicit) (hd : (x == ("__debug__" : Str)) = false := by decide) (hdf : (fn == ("__debug__" : Str)) = false := by decide) :
    EltT P w K mg scope x (.Call (.Name fn p1) [.Name x p2] [] p3) D Cp (okQ K) := by
  intro cenv A' E' u b s m hA hdep hs hglo hblt St hcp hn hm ok
  obtain ⟨T, b1, b2, q, e1, e2, rfl⟩ := ok
  refine wpAny_Call_Name_kw (Calls.Name_function_global (by rw [hs]; exact hk) (show cenv.scope.names.lookup fn = some .globalImplicit by rw [hs]; exact hg) (Calls.loadGlobal_global (by rw [hglo]; exact St.2.1) hf ?_) hdf)
  refine PySem.W.callWith_K (h₀ := s.heap) (first := []) St.1 hkf ?_
  show wpAny _ _ (spliced [(false, eval (.Name x p2) cenv)]) _ _ s
  refine Calls.spliced_cons (wpAny_Name (wpAny_loadName_local (by rw [hs]; exact hk) (show cenv.scope.names.lookup x = some .local by rw [hs]; exact hl) hn hm ?_) hd)
  refine Calls.spliced_nil ⟨St.1, wpAny_call (codeAny_mono (W.run A' s u T b1 b2 (by omega) St q e1 e2) fun res s' hq => ?_)⟩
  obtain ⟨rfl, k⟩ := hq
  exact ⟨rfl, k⟩
theorem okQ.keeps {h h' : Heap} {u : Value} {b : Bool} (q : okQ K h u b) (k : ∀ a o, u = .ref a → h.get? a = some o → h'.get? a = some o) : okQ K h' u b := by
  obtain ⟨T, b1, b2, q, e⟩ := q
  exact ⟨T, b1, b2, q.keeps k, e⟩
theorem okQ.cls {h : Heap} {u : Value} {b : Bool} {a : Addr} (q : okQ K h u b) (e : u = .ref a) : ∃ o, h.get? a = some o ∧ o.cls ≠ .none := by
  obtain ⟨T, b1, b2, q, _⟩ := q
  obtain ⟨_, _, _, _, _, c⟩ := q
  obtain ⟨o, g, w⟩ := c a e
  exact ⟨o, g, by rw [w]; exact fun z => nomatch z⟩
theorem okQ.of {X : Cx} {pins : List (Addr × Obj)} {σ : L2.St} {H : Hp} {s : Shared} {v : V} {T : String} {u : Value} (I : Inv X pins σ H s) (h : Kd X.K H v T) (r : RelV v u) : okQ X.K s.heap u (isI v) := by
  refine ⟨T, _, _, h.kq I r, h.int?, h.bool?, ?_⟩
  cases v <;> first | rfl | (rename_i b; cases b <;> rfl)
end
end Cl
namespace Cl
open PySem PySem.Spec PyProof.Rows L2
open GxR (TabB TabG Tabbed GenS)
section
variable {X : Cx}
theorem pe_allW {c P f : Addr} {iter : Expr} {fn x : Str} {px p pos gpos p1 p2 p3 : Pos} {scope : Scope} {te : TE} {k : Nat}
    (hr : Room k X.A) (hD : X.A.depth + 1 < recursionLimit) (hg : Gl X "all") (hm : X.mg "all" = none) (TB : TabB X.base X.mg c P) (hcode : X.env.code = .ref c) (W : QW X.prog X.w X.K X.mg f) (hf : X.mg fn = some (.ref f)) (hkf : PySem.W.keepIn X.K (.ref f) = true)
    (hi : PE X iter te) (S : GenS X.env scope x) (hgf : scope.names.lookup fn = some .globalImplicit) (hs : ∀ v, genFold iter X.env v = pure v := by intro _; rfl)
    (hd : (x == ("__debug__" : Str)) = false := by decide) (hdf : (fn == ("__debug__" : Str)) = false := by decide)
    (he : starEach [.GeneratorExp (.Call (.Name fn p1) [.Name x p2] [] p3) [⟨.Name x px, iter, [], 0⟩] scope gpos] X.env = (false, eval (.GeneratorExp (.Call (.Name fn p1) [.Name x p2] [] p3) [⟨.Name x px, iter, [], 0⟩] scope gpos) X.env) :: starEach [] X.env := by rfl) :
    PE X (.Call (.Name "all" p) [.GeneratorExp (.Call (.Name fn p1) [.Name x p2] [] p3) [⟨.Name x px, iter, [], 0⟩] scope gpos] [] pos) (tAllT X.K P (fun _ _ => True) (fun H v b => ∃ T, Kd X.K H v T ∧ b = isI v) te) :=
  pe_allT (Cp := fun _ _ => True) (ok := okQ X.K) hr hg hm TB hcode S hi (elt_qw W hD hf hkf S.kind S.loc hgf hd hdf) (fun _ _ _ _ q k => q.keeps k) (fun _ _ _ _ q e => q.cls e)
    (fun I r ⟨T, h, e⟩ => by rw [e]; exact .of I h r) (fun _ _ => trivial) (fun _ _ _ q => q) trivial hs he
end
end Cl
namespace Cl
open PySem PySem.Spec PyProof.Rows L2
open GxR (TabB TabG Tabbed GenS)
theorem roomD {k : Nat} {A : Around} (r : Room k A) : A.depth + 1 < recursionLimit := by have := r.dp; omega
theorem genS {env : Env} {scope : Scope} {x : Str} (h1 : scope.kind = .function) (h2 : scope.isCoroutine = false) (h3 : ∀ y ∈ scope.names, y.2 ≠ .cell ∧ y.2 ≠ .free) (h4 : scope.names.lookup (".0" : Str) = some NameKind.local) (h5 : scope.names.lookup x = some .local) : GenS env scope x :=
  ⟨h1, h2, fun y h => (h3 y h).1, h4, h5, fun y h e => absurd e (h3 y h).2⟩
end Cl

namespace Cl
open PySem PySem.Spec PyProof.Rows L2
/-! ### lines of any grain, drawn; the shares tried -/
def BdR (B : Int) (r : Ln) : Prop := BdN B r.1 ∧ BdN B r.2
def spGrainW : Sp := fun vs H Q _ => ∃ d l : Addr, vs = [.ref d] ∧ Deck H d l ∧ ∀ g H', 0 < g → g ≤ 1000 → Step d l H H' → Q (.int g) H'
def spPointW (K : PySem.W.Frag) : Sp := fun vs H Q _ => ∃ (d l : Addr) (g way : Int), vs = [.ref d, .int g, .int way] ∧ 0 < g ∧ g ≤ 1000 ∧ Deck H d l ∧
  ∀ w H' p, Step d l H H' → At2 K H' w p → BdN 5000 p → Q w H'
def spLineW (K : PySem.W.Frag) : Sp := fun vs H Q _ => ∃ (d l : Addr) (g : Int) (L : Addr) (ws : List V) (ls : List Ln), vs = [.ref d, .int g, .ref L] ∧ 0 < g ∧ g ≤ 1000 ∧ Deck H d l ∧
  L ≠ d ∧ L ≠ l ∧ H L = some (.lst ws) ∧ AllAt (AtL K H) ws ls ∧ ls.length ≤ 10 ∧
  ∀ w H' r', Step d l H H' → AtL K H' w r' → BdR 60000 r' → Q w H'
def spLinesW (K : PySem.W.Frag) : Sp := fun vs H Q _ => ∃ (d l : Addr) (g : Int) (n : Nat), vs = [.ref d, .int g, .int n] ∧ 0 < g ∧ g ≤ 1000 ∧ 0 < n ∧ n ≤ 10 ∧ Deck H d l ∧
  ∀ w H' ls, Step d l H H' → AtT K H' w ls → ls.length = n → (∀ r ∈ ls, BdR 60000 r) → Q w H'
def mvL (dx dy : Int) (r : Ln) : Ln := ((r.1.1 + dx, r.1.2 + dy), (r.2.1 + dx, r.2.2 + dy))
def spMovedW (K : PySem.W.Frag) : Sp := fun vs H Q _ => ∃ (v : V) (ls : List Ln) (dx dy : Int), vs = [v, .int dx, .int dy] ∧ AtT K H v ls ∧ ls.length ≤ 900 ∧
  ∀ w H', Same H H' → AtT K H' w (ls.map (mvL dx dy)) → Q w H'
def spNearestW (K : PySem.W.Frag) : Sp := fun vs H Q _ => ∃ (g : Int) (v : V) (s : S3), vs = [.int g, v] ∧ At3 K H v s ∧ 0 < g ∧ g ≤ 1000 ∧ s.2.2 = 16 ∧
  ∀ w H' p, Same H H' → At2 K H' w p → Q w H'
def spSharesW (K : PySem.W.Frag) : Sp := fun vs H Q _ => ∃ g v r u c, vs = [.int g, v, u] ∧ AtL K H v r ∧ At2 K H u c ∧ 0 < g ∧ g ≤ 1000 ∧ BdR 1100000 r ∧ BdN 1000000 c ∧
  ∀ L H' vs ps, Same H H' → H' L = some (.lst vs) → AllAt (At2 K H') vs ps → (ps ≠ [] ↔ Meets g r c) → Q (.ref L) H'
def spFarW : Sp := fun vs H Q _ => ∃ (d l : Addr), vs = [.ref d] ∧ Deck H d l ∧ ∀ v H', -1000000 ≤ v → v ≤ 1000000 → Step d l H H' → Q (.int v) H'
def spSomeW (K : PySem.W.Frag) : Sp := fun vs H Q _ => ∃ (d l : Addr) (g : Int), vs = [.ref d, .int g] ∧ 0 < g ∧ g ≤ 1000 ∧ Deck H d l ∧
  ∀ w H' r, Step d l H H' → AtL K H' w r → BdR 1100000 r → Q w H'
def spNearW (K : PySem.W.Frag) : Sp := fun vs H Q _ => ∃ (d l : Addr) (g : Int) (v : V) (r : Ln), vs = [.ref d, .int g, v] ∧ 0 < g ∧ g ≤ 1000 ∧ Deck H d l ∧ AtL K H v r ∧
  ∀ w H' c, Step d l H H' → At2 K H' w c → BdN 1000000 c → Q w H'
def AtLC (K : PySem.W.Frag) (H : Hp) (v : V) (x : Ln × Pt) : Prop := ∃ a u w, v = .ref a ∧ SqT K H a [u, w] ∧ AtL K H u x.1 ∧ At2 K H w x.2
theorem AtLC.same {K : PySem.W.Frag} {H H' : Hp} {v : V} {x : Ln × Pt} (h : AtLC K H v x) (s : Same H H') : AtLC K H' v x := by
  obtain ⟨a, u, w, rfl, h1, h2, h3⟩ := h
  exact ⟨a, u, w, rfl, seT s h1, h2.same s, h3.same s⟩
theorem AtLC.upd {K : PySem.W.Frag} {H : Hp} {M : Addr} {xs : List V} {o : HO} {v : V} {x : Ln × Pt} (h : AtLC K H v x) (e : H M = some (.lst xs)) : AtLC K (L2.upd H M o) v x := by
  obtain ⟨a, u, w, rfl, h1, h2, h3⟩ := h
  exact ⟨a, u, w, rfl, updT e h1, h2.upd e, h3.upd e⟩
def spTurnedW (K : PySem.W.Frag) : Sp := fun vs H Q _ => ∃ (g : Int) (v : V) (r : Ln) (u : V) (c : Pt) (b : Addr) (i j : Int), vs = [.int g, v, u, .ref b] ∧ AtL K H v r ∧ At2 K H u c ∧ H b = some (.lst [.int i, .int j]) ∧
  0 < g ∧ g ≤ 1000 ∧ BdR 1100000 r ∧ BdN 1000000 c ∧ -10 ≤ i ∧ i ≤ 10 ∧ -10 ≤ j ∧ j ≤ 10 ∧
  ∀ L H' vs ps, Same H H' → H' L = some (.lst vs) → AllAt (AtLC K H') vs ps → (∀ x ∈ ps, BdW g x.1 x.2 ∧ (Meets g x.1 x.2 ↔ Meets g r c)) → Q (.ref L) H'
theorem cut_init (xs : List V) : cutV xs none (some (-1)) = xs.dropLast := by
  unfold cutV
  have e : HT.sIx xs.length xs.length (some (-1)) = xs.length - 1 := by
    show (if (-1 : Int) < 0 then ((-1 : Int) + (xs.length : Int)).toNat else min (-1 : Int).toNat xs.length) = _
    rw [if_pos (by decide)]
    omega
  rw [HT.sIx_none, e, List.drop_zero, Nat.sub_zero, List.dropLast_eq_take]
theorem cut_tail (xs : List V) : cutV xs (some 1) none = xs.tail := by rw [cut_rest, List.drop_one]
section
variable {X : Cx}
theorem cr_sortedIN : CallR X (.builtin "sorted") (fun vs H Q => ∃ (a : Addr) (ns : List Int), vs = [V.ref a] ∧ SqL X.K H a (ns.map V.int) ∧ ∀ ns' : List Int, ns'.Perm ns → ns'.Pairwise (· ≤ ·) → New H (.lst (ns'.map V.int)) Q) :=
  fun pins s σ H vs us Q I r ⟨a, ns, h1, h2, q⟩ => cr_sortedI pins s σ H vs us Q I r ⟨a, ns, h1, h2, fun ns' p h3 h4 n => (q ns' h3 h4).go p n⟩
def rRepN : R2 := fun x y H Q => ∃ l k xs, x = .ref l ∧ y = .int k ∧ H l = some (.lst xs) ∧ -(2 ^ 63) ≤ k ∧ k < 2 ^ 63 ∧ xs.length * k.toNat ≤ sizeLine ∧ New H (.lst (List.replicate k.toNat xs).flatten) Q
theorem op_repN : OpR X (binaryOp .Mult) rRepN := fun pins s σ H x y v u Q I rx ry ⟨l, k, xs, h1, h2, h3, h4, h5, h6, q⟩ => op_rep pins s σ H x y v u Q I rx ry ⟨l, k, xs, h1, h2, h3, h4, h5, h6, q.go⟩
end
section
variable {X : Cx}
theorem cut_whole {xs : List V} {lo hi : Option Int} (h : HT.sIx xs.length 0 lo = 0 ∧ HT.sIx xs.length xs.length hi = xs.length) : cutV xs lo hi = xs := by
  unfold cutV
  rw [h.1, h.2, List.drop_zero, Nat.sub_zero, List.take_length]
/-- t[lo:hi] of a tuple, a new one or itself -/
def rSlTB (K : PySem.W.Frag) : V → Option Int → Option Int → Hp → VK → Prop := fun x lo hi H Q => ∃ a xs, x = .ref a ∧ SqT K H a xs ∧ ∀ p H', Same H H' → SqT K H' p (cutV xs lo hi) → Q (.ref p) H'
theorem sl_tupB : SlR X (rSlTB X.K) := fun pins s σ H x v vl vu lo hi sl Q I rx hs pl pu ⟨a, xs, h1, h2, q⟩ =>
  sl_tupA pins s σ H x v vl vu lo hi sl Q I rx hs pl pu ⟨a, xs, h1, h2, fun hw => q a H (.refl _) (by rw [cut_whole hw]; exact h2), fun _ p n => q p _ (same_new n) (.inl (.inl upd_same))⟩
/-- t + u of tuples, a new one or one of them -/
def rCatTB (K : PySem.W.Frag) : R2 := fun x y H Q => ∃ a b xs ys, x = .ref a ∧ y = .ref b ∧ SqT K H a xs ∧ SqT K H b ys ∧ xs.length + ys.length ≤ sizeLine ∧ ∀ p H', Same H H' → SqT K H' p (xs ++ ys) → Q (.ref p) H'
theorem op_catTB : OpR X (binaryOp .Add) (rCatTB X.K) := fun pins s σ H x y v u Q I rx ry ⟨a, b, xs, ys, h1, h2, h3, h4, h5, q⟩ =>
  op_catA pins s σ H x y v u Q I rx ry ⟨a, b, xs, ys, h1, h2, h3, h4, h5, fun e => q b H (.refl _) (by rw [e]; exact h4), fun _ e => q a H (.refl _) (by rw [e, List.append_nil]; exact h3), fun _ _ p n => q p _ (same_new n) (.inl (.inl upd_same))⟩
end
theorem small64' {n : Nat} (h : n ≤ 100) : n ≤ sizeLine := by
  have : sizeLine = 16777216 := by decide
  omega
/-- over zip of two lists -/
def lcZ {K : PySem.W.Frag} {a b : Addr} {xs ys : List V} {n : Nat} {g : TG} {tt : TT} {te : TE} {vs : List Nat} {σ : L2.St} {H1 : Hp} {D : Addr} {Qd : Hp → Prop} (hn : n = min xs.length ys.length)
    (Pv : Nat → Hp → Prop) (hD : H1 D = none) (h0 : ∀ H', Same H1 H' → H' D = some (.lst []) → Pv 0 H') (hG : ∀ i H, i ≤ n → Pv i H → SqL K H a xs ∧ SqL K H b ys)
    (hs : ∀ i x H H', i < n → Pv i H → YPair (fun i => xs[i]?) (fun i => ys[i]?) i H x H' → g x (wipe σ vs) H' fun σ2 H2 => wipe σ2 vs = wipe σ vs ∧ tt σ2 H2 fun b H3 =>
      if b = true then te σ2 H3 fun y H4 => ∃ acc, H4 D = some (.lst acc) ∧ acc.length < sizeLine ∧ Pv (i + 1) (upd H4 D (.lst (acc ++ [y]))) else Pv (i + 1) H3)
    (hd : ∀ H, Pv n H → Qd H) := lc_it (walk_zip (K := K) (a := a) (b := b) hn) (g := g) (tt := tt) (te := te) (vs := vs) (σ := σ) (H1 := H1) (D := D) (Qd := Qd) Pv (h0 _ (same_new hD) upd_same) hG hs hd
/-! ### the shares that the law tries -/
def ab (z : Int) : Int := if z < 0 then -z else z
def m1 (z : Int) : Int := if ab z > 1 then ab z else 1
def sgn (z : Int) : Int := if z > 0 then 1 else -1
def crs (first way W side : Int) : Int := (side - first) * (W / ab way) * sgn way
def crsR (g first way k W : Int) : List Int := if way ≠ 0 then [crs first way W (rimL g k), crs first way W (rimH g k)] else []
def wh (r : Ln) : Int := m1 (2 * (r.2.1 - r.1.1)) * m1 (2 * (r.2.2 - r.1.2))
def raw (g : Int) (r : Ln) (c : Pt) : List Int := [0, wh r] ++ crsR g (2 * r.1.1) (2 * (r.2.1 - r.1.1)) c.1 (wh r) ++ crsR g (2 * r.1.2) (2 * (r.2.2 - r.1.2)) c.2 (wh r)
def inB (g first way k W s : Int) : Bool := decide (2 * (2 * k - 1) * g * W ≤ first * 2 * W + way * s) && decide (first * 2 * W + way * s < 2 * (2 * k + 1) * g * W)
theorem ab_pos {z : Int} (h : z ≠ 0) : 0 < ab z := by unfold ab; split <;> omega
theorem m1_pos (z : Int) : 0 < m1 z := by unfold m1 ab; split <;> omega
theorem m1_of {z : Int} (h : z ≠ 0) : m1 z = ab z := by unfold m1 ab; split <;> (split <;> omega)
theorem m1_le {z B : Int} (h1 : -B ≤ z) (h2 : z ≤ B) (hB : 1 ≤ B) : m1 z ≤ B := by unfold m1 ab; split <;> (split <;> omega)
theorem wh_pos (r : Ln) : 0 < wh r := Int.mul_pos (m1_pos _) (m1_pos _)
theorem wh_le {r : Ln} (h : BdR 1100000 r) : wh r ≤ 2 ^ 45 := by
  obtain ⟨h1, h2⟩ := h
  unfold BdN at h1 h2
  have a1 := m1_le (z := 2 * (r.2.1 - r.1.1)) (B := 4400000) (by omega) (by omega) (by omega)
  have a2 := m1_le (z := 2 * (r.2.2 - r.1.2)) (B := 4400000) (by omega) (by omega) (by omega)
  have := Int.mul_le_mul a1 a2 (Int.le_of_lt (m1_pos _)) (by omega)
  unfold wh
  omega
theorem crs_eq {first way W side : Int} (hw : way ≠ 0) (hd : ab way ∣ W) : way * crs first way W side = (side - first) * W := by
  unfold crs
  obtain ⟨q, rfl⟩ := hd
  rw [Int.mul_ediv_cancel_left _ (by have := ab_pos hw; omega)]
  unfold ab sgn
  by_cases h : 0 < way
  · rw [if_pos (show way > 0 from h), if_neg (show ¬ way < 0 by omega)]
    generalize side - first = A
    rw [Int.mul_one, Int.mul_left_comm]
  · rw [if_neg (show ¬ way > 0 from h), if_pos (show way < 0 by omega)]
    generalize side - first = A
    rw [Int.mul_neg, Int.mul_one, Int.mul_neg, Int.neg_mul, Int.mul_neg, Int.mul_left_comm]
theorem ab_dvd1 {r : Ln} (h : 2 * (r.2.1 - r.1.1) ≠ 0) : ab (2 * (r.2.1 - r.1.1)) ∣ wh r := by
  unfold wh
  rw [← m1_of h]
  exact Int.dvd_mul_right _ _
theorem ab_dvd2 {r : Ln} (h : 2 * (r.2.2 - r.1.2) ≠ 0) : ab (2 * (r.2.2 - r.1.2)) ∣ wh r := by
  unfold wh
  rw [← m1_of h]
  exact Int.dvd_mul_left _ _
theorem inB_iff (g start step k W s : Int) : inB g (2 * start) (2 * step) k W s = true ↔ HO1 g start step k s (2 * W) := by
  unfold inB HO1
  rw [Bool.and_eq_true, decide_eq_true_eq, decide_eq_true_eq]
  have e1 : 2 * (2 * k - 1) * g * W = (2 * k - 1) * g * (2 * W) := by grind
  have e2 : 2 * (2 * k + 1) * g * W = (2 * k + 1) * g * (2 * W) := by grind
  have e3 : 2 * start * 2 * W + 2 * step * s = 2 * (start * (2 * W) + step * s) := by grind
  rw [e1, e2, e3]
def keepS (W s : Int) : Bool := decide (0 ≤ s) && decide (s ≤ W)
def mids (L : List Int) : List Int := (L.dropLast.zip L.tail).map fun z => (z.1 + z.2) / 2
def inC (g : Int) (r : Ln) (c : Pt) (s : Int) : Bool := inB g (2 * r.1.1) (2 * (r.2.1 - r.1.1)) c.1 (wh r) s && inB g (2 * r.1.2) (2 * (r.2.2 - r.1.2)) c.2 (wh r) s
theorem shares_end {g : Int} {r : Ln} {c : Pt} {L T : List Int} (hp : L.Perm (((raw g r c).filter (keepS (wh r))).map fun s => 2 * s)) (hs : L.Pairwise (· ≤ ·)) (ht : T.Perm (L ++ mids L)) :
    (T.filter (inC g r c) ≠ [] ↔ Meets g r c) := by
  have W0 := wh_pos r
  have mem : ∀ s, keepS (wh r) s = true → s ∈ raw g r c → 2 * s ∈ L := fun s h1 h2 => hp.mem_iff.mpr (List.mem_map.mpr ⟨s, List.mem_filter.mpr ⟨h2, h1⟩, rfl⟩)
  have kp : ∀ s : Int, 0 ≤ s → s ≤ wh r → keepS (wh r) s = true := fun s h1 h2 => by unfold keepS; rw [decide_eq_true h1, decide_eq_true h2]; rfl
  have t := tried (g := g) (r := r) (c := c) W0 hs (fun s hs => by
    obtain ⟨x, hx, rfl⟩ := List.mem_map.mp (hp.mem_iff.mp hs)
    have k := (List.mem_filter.mp hx).2
    unfold keepS at k
    rw [Bool.and_eq_true, decide_eq_true_eq, decide_eq_true_eq] at k
    exact ⟨x, rfl, k.1, k.2⟩) (by have := mem 0 (kp 0 (by omega) (by omega)) (by simp [raw]); simpa using this) (mem (wh r) (kp _ (by omega) (by omega)) (by simp [raw]))
    (fun hx side hside => by
      have h2 : 2 * (r.2.1 - r.1.1) ≠ 0 := by omega
      refine ⟨crs (2 * r.1.1) (2 * (r.2.1 - r.1.1)) (wh r) side, crs_eq h2 (ab_dvd1 h2), fun k0 k1 => mem _ (kp _ k0 k1) ?_⟩
      unfold raw crsR
      rw [if_pos h2]
      simp only [List.mem_cons, List.not_mem_nil, or_false] at hside
      rcases hside with rfl | rfl <;> simp)
    (fun hx side hside => by
      have h2 : 2 * (r.2.2 - r.1.2) ≠ 0 := by omega
      refine ⟨crs (2 * r.1.2) (2 * (r.2.2 - r.1.2)) (wh r) side, crs_eq h2 (ab_dvd2 h2), fun k0 k1 => mem _ (kp _ k0 k1) ?_⟩
      unfold raw crsR
      rw [if_pos h2]
      simp only [List.mem_cons, List.not_mem_nil, or_false] at hside
      rcases hside with rfl | rfl <;> simp)
  rw [t]
  have hin : ∀ s, inC g r c s = true ↔ HOc g r c s (2 * wh r) := fun s => by
    unfold inC HOc
    rw [Bool.and_eq_true, inB_iff, inB_iff]
  constructor
  · intro hne
    obtain ⟨s, hs⟩ := List.exists_mem_of_ne_nil _ hne
    obtain ⟨h1, h2⟩ := List.mem_filter.mp hs
    exact ⟨s, ht.mem_iff.mp h1, (hin s).mp h2⟩
  · rintro ⟨s, h1, h2⟩ e
    have : s ∈ T.filter (inC g r c) := List.mem_filter.mpr ⟨ht.mem_iff.mpr h1, (hin s).mpr h2⟩
    rw [e] at this
    cases this
theorem AllAt.one {α : Type} {R : V → α → Prop} {vs : List V} {x : α} (h : AllAt R vs [x]) : ∃ v, vs = [v] ∧ R v x := by
  match vs, h with
  | [v], .cons h .nil => exact ⟨v, rfl, h⟩
theorem shapedPts (ps : List Pt) : SeqAt.shaped (.list (ps.map pd)) = true := by
  have h1 : ∀ ps : List Pt, PyData.canLayAll0 (ps.map pd) = true := by
    intro ls
    induction ls with
    | nil => rfl
    | cons n r ih => simp [PyData.canLayAll0, PyData.canLay0, pd, ih]
  have h2 : ∀ ps : List Pt, PyData.depthAll (ps.map pd) ≤ 1 := by
    intro ls
    induction ls with
    | nil => decide
    | cons n r ih =>
      simp only [List.map_cons, PyData.depthAll]
      have : (pd n).depth = 1 := by simp [pd, PyData.depth, PyData.depthAll]
      omega
  have h3 := h2 ps
  simp [SeqAt.shaped, PyData.canLay0, PyData.depth, h1]
  omega
theorem eqvNilP (ps : List Pt) : PyData.eqv (.list (ps.map pd)) (.list []) = ps.isEmpty := by
  cases ps <;> simp [PyData.eqv, PyData.eqvAll]
theorem pts_dp {K : PySem.W.Frag} {H : Hp} : ∀ {ws : List V} {ps : List Pt}, AllAt (At2 K H) ws ps → DpAll K H ws (ps.map pd)
  | _, _, .nil => .nil
  | _, _, .cons h t => .cons h.dp (pts_dp t)
end Cl

namespace Cl
open PySem PySem.Spec PyProof.Rows L2
/-! ### enumerate(tuple) -/
set_option maxHeartbeats 1000000 in
theorem meets_enum1B {v : Value} {o : Obj} {H : Heap → Prop} (B : Begins v o H) :
    _root_.PySem.Meets (Builtin.«enumerate.__new__» ⟨[.type "enumerate", v], []⟩) (fun _ R s => H s.heap ∧
      R (.ok (.ret (.ref (s.heap.push o).objs.size))) { s with heap := (s.heap.push o).push { cls := .type "enumerate", data := .fields #[.none, .bool false, .ref s.heap.objs.size, rawInt 0, .none, .none] } }) :=
  .of_wp fun prog w A R s h => by
    obtain ⟨hp, g, d, tk, os⟩ := s; obtain ⟨h1, h⟩ := h
    have hsub := sub_enumerate
    have q1 : ∀ {A' : Around} {E : Value → Shared → Prop} {Q : Value → Shared → Prop}, Q (.ref hp.objs.size) ⟨hp.push o, g, d, tk, os⟩ → wpAny (model prog w) A' (pyIter v) Q E ⟨hp, g, d, tk, os⟩ :=
      fun q => B.iter prog w _ _ ⟨hp, g, d, tk, os⟩ _ h1 q
    wp_walk using q1
    refine wpAny_stack_any fun st => wpAny_pure ?_
    split
    · rename_i c _ _ _ _ _
      cases (c == Value.type "enumerate")
      · wp_walk using q1
        exact ⟨_, rfl, h⟩
      · wp_walk using q1
        exact ⟨_, rfl, h⟩
    · wp_walk using q1
      exact ⟨_, rfl, h⟩
theorem enum_begins1 {prog : Program} {w : World} {A : Around} {E : Value → Shared → Prop} {s : Shared} {v : Value} {o : Obj} {H : Heap → Prop} {Q : Value → Shared → Prop} (B : Begins v o H) (h1 : H s.heap)
    (h : ∀ h', IsEnum h' (s.heap.objs.size + 1) s.heap.objs.size 0 .none → h'.get? s.heap.objs.size = some o → h'.objs.size = s.heap.objs.size + 2 →
      (∀ b o, s.heap.get? b = some o → h'.get? b = some o) → Q (.ref (s.heap.objs.size + 1)) { s with heap := h' }) :
    wpAny (model prog w) A (call (.type "enumerate") [v]) Q E s := by
  refine callType_new F.called_enumerate (by decide) (F.typeCall_enumerate_1 _) (F.newCall_enumerate_1 _) (fun obj => F.args_object_init_2 obj _) F.entry_enumerate_new
    (meets_enum1B B) ⟨h1, ?_⟩
  have hz : (s.heap.push o).objs.size = s.heap.objs.size + 1 := Heap.size_push ..
  show _ ∧ _
  rw [hz]
  have he : IsEnum ((s.heap.push o).push { cls := .type "enumerate", data := .fields #[.none, .bool false, .ref s.heap.objs.size, rawInt 0, .none, .none] }) (s.heap.objs.size + 1) s.heap.objs.size 0 .none := by
    have := Heap.get?_push_size (s.heap.push o) (o := { cls := .type "enumerate", data := .fields #[.none, .bool false, .ref s.heap.objs.size, rawInt 0, .none, .none] }) rfl
    rw [hz] at this; exact this
  refine ⟨⟨_, he, rfl⟩, h _ he (Heap.get?_push_of_some _ (Heap.get?_push_size _ B.free)) (by rw [Heap.size_push, hz]) fun b o x => Heap.get?_push_of_some _ (Heap.get?_push_of_some _ x)⟩
def Iet (K : PySem.W.Frag) (a : Addr) : It :=
  ⟨fun i H => ∃ (xs : List V) (x : V), SqT K H a xs ∧ xs[i]? = some x, fun i H v H' => ∃ T x, v = .ref T ∧ H T = none ∧ H' = upd H T (.tup [.int (i : Nat), x]) ∧ ∀ xs, SqT K H a xs → xs[i]? = some x, fun i H => ∃ xs : List V, SqT K H a xs ∧ xs.length = i⟩
theorem turn_enumT {P : Program} {w : World} {K : PySem.W.Frag} {elts : List Expr} {kk : Nat} {tpos : Pos} {a e it : Addr} (hei : e ≠ it) (hea : e ≠ a) (hia : it ≠ a) :
    Turn P w K (.Tuple elts kk tpos) (Iet K a) [e, it] e (fun i h => (∃ old, IsEnum h e it ((i : Nat) : Int) old) ∧ h.IsTupleIter it a i) where
  mem := by simp
  obj := fun i h st b hb => by
    obtain ⟨⟨old, he⟩, ⟨o, ho, hc, hd⟩⟩ := st
    have e' : b = e ∨ b = it := by simpa using hb
    rcases e' with z | z
    · rw [z]; exact ⟨_, he, fun v q => nomatch q⟩
    · rw [z]; exact ⟨o, ho, fun v q => by rw [hd] at q; cases q⟩
  keep := fun i h h' st k => let ⟨⟨old, he⟩, hi⟩ := st; ⟨⟨old, k e (by simp) _ he⟩, hi.at fun o q => k it (by simp) o q⟩
  item := by
    intro X hP hw hK hc i pins s σ H E I hf st hg
    subst hP hw hK
    obtain ⟨⟨old, he⟩, hit⟩ := st
    obtain ⟨xs, x, hq, hx⟩ := hg
    obtain ⟨its, rv, p, hz⟩ := I.tuple hq
    obtain ⟨u, hu, ru⟩ := rv.get hx
    have hl := rv.length
    have hlt : i < xs.length := (List.getElem?_eq_some_iff.mp hx).1
    have hh : X.A.in1.handled = none := I.ok.hd hc
    have W := GoesN.enumFrom (elts := elts) (x1 := kk) (pos := tpos) 0 (Draws.tuple (prog := X.prog) (w := X.w) hh it a (Ne.symm hia) its.toArray) e hei (by simp [hei, hea]) (by simp)
    refine W.goes i s _ E (by simp; omega) ⟨⟨old, by rw [Int.zero_add]; exact he⟩, hit, p⟩ fun v h' tk hY st' hk htk => ?_
    obtain ⟨T, t, y, rfl, hT, hy, hTup⟩ := hY
    obtain ⟨⟨old', he'⟩, hit', _⟩ := st'
    rw [Int.zero_add] at hTup he'
    have ey : u = y := by
      have h1 : its.toArray[i]? = some y := hy
      have h2 : its[i]? = some y := by simpa using h1
      rw [hu] at h2
      exact Option.some.inj h2
    subst ey
    have new : ObjOk X.prog X.w (upd H T (.tup [.int (i : Nat), x])) h' T (.tup [.int (i : Nat), x]) :=
      ⟨by show 2 ≤ sizeLine; decide, [_, u], .cons ⟨_, rfl⟩ (.cons ru .nil), hTup⟩
    have I1 := I.turnedNew (t' := tk) (ch := [e, it]) (fun d o hd q => hk d o hd q) hf hT new
    refine ⟨.ref T, _, I1, rfl, ⟨T, x, rfl, I.hok.fresh hT, rfl, fun ys hy => by rw [I.tuple_inj hy hq]; exact hx⟩, ⟨⟨old', he'⟩, hit'⟩, fun b hb => ?_⟩
    have hb' : b < s.heap.objs.size := by
      have e' : b = e ∨ b = it := by simpa using hb
      rcases e' with z | z
      · rw [z]; exact Heap.lt_size he
      · rw [z]; obtain ⟨_, q, _⟩ := hit; exact Heap.lt_size q
    rw [upd_ne (Nat.ne_of_lt (Nat.lt_of_lt_of_le hb' hT))]
    exact (hf b hb).1
  done := by
    intro X hP hw hK hc i pins s σ H E I hf st hg
    subst hP hw hK
    obtain ⟨⟨old, he⟩, hit⟩ := st
    obtain ⟨xs, hq, hx⟩ := hg
    obtain ⟨its, rv, p, hz⟩ := I.tuple hq
    have hl := rv.length
    have hh : X.A.in1.handled = none := I.ok.hd hc
    have W := GoesN.enumFrom (elts := elts) (x1 := kk) (pos := tpos) 0 (Draws.tuple (prog := X.prog) (w := X.w) hh it a (Ne.symm hia) its.toArray) e hei (by simp [hei, hea]) (by simp)
    have hi : i = its.toArray.size := by simp; omega
    subst hi
    exact W.stops s _ E ⟨⟨old, by rw [Int.zero_add]; exact he⟩, hit, p⟩ fun h' tk hk htk => I.turnedL (t' := tk) (ch := [e, it]) (fun d o hd q => hk d o hd q) hf
  self := fun A i s Q E st h => let ⟨⟨_, he⟩, _⟩ := st; wpAny_pyIter_enum he h
def iEnumT (K : PySem.W.Frag) (ta : TA) : TI := fun σ H R => ta σ H fun vs H1 => ∃ a xs, vs = [.ref a] ∧ SqT K H1 a xs ∧ R (Iet K a) H1
theorem pi_enumT {X : Cx} {e : Expr} {ta : TA} {p pos tpos : Pos} {elts : List Expr} {kk : Nat} (hg : Gl X "enumerate") (hm : X.mg "enumerate" = none) (ha : PA X [e] ta) (hs : starEach [e] X.env = [(false, eval e X.env)] := by rfl) :
    PI X (.Tuple elts kk tpos) (.Call (.Name "enumerate" p) [e] [] pos) (iEnumT X.K ta) := by
  refine ⟨fun pins s σ H R I h => ?_⟩
  refine Call_ (ld_blt I hg hm boot_enumerate (PyProof.Rows.callWith_type1 (thn (ha.run pos pins s σ H _ I h) fun us s1 ⟨vs, H1, I1, r1, q1⟩ => ?_) hs rfl))
  obtain ⟨a, xs, ex, hq, q⟩ := q1
  subst ex
  cases r1 with
  | cons r rr =>
    cases rr
    cases r
    obtain ⟨its, rv, p', hz⟩ := I1.tuple hq
    have la : a < s1.heap.objs.size := by obtain ⟨o1, g1, _⟩ := id p'; exact Heap.lt_size g1
    refine enum_begins1 (begins_tuple a its.toArray) p' fun h' he hit hsz hk => wpAny_pyIter_enum he ?_
    have I2 : Inv X pins σ H1 { s1 with heap := h' } := I1.kept (t' := s1.toks) hk
    refine ⟨s1.heap.objs.size + 1, [s1.heap.objs.size + 1, s1.heap.objs.size], _, _, H1, rfl, I2, turn_enumT (Nat.succ_ne_self _) (Nat.ne_of_gt (Nat.lt_succ_of_lt la)) (Nat.ne_of_gt la), ⟨⟨.none, he⟩, ⟨_, hit, rfl, rfl⟩⟩, fun b hb => ?_, q⟩
    have e' : b = s1.heap.objs.size + 1 ∨ b = s1.heap.objs.size := by simpa using hb
    have hle : s1.heap.objs.size ≤ b := by
      rcases e' with z | z
      · rw [z]; exact Nat.le_add_right _ _
      · rw [z]; exact Nat.le_refl _
    exact I1.fpOk hle (I1.hok.fresh hle)
theorem for_enumT {K : PySem.W.Frag} {a : Addr} {xs : List V} {g : TG} {tb : TS} {D : Ends} {σ : L2.St} {H : Hp} (Pv : Nat → L2.St → Hp → Prop) (h0 : Pv 0 σ H) (hq : ∀ i σ H, Pv i σ H → SqT K H a xs)
    (hs : ∀ (i : Nat) (x : V) (T : Addr) (σ : L2.St) (H : Hp), xs[i]? = some x → Pv i σ H → H T = none → g (.ref T) σ (upd H T (.tup [.int (i : Nat), x])) fun σ2 H2 => tb { D with nx := Pv (i + 1), ct := Pv (i + 1), bk := D.nx } σ2 H2) (hd : ∀ σ H, Pv xs.length σ H → D.nx σ H) :
    ∃ W : Nat → Nat → L2.St → Hp → Prop, (∃ m, W 0 m σ H) ∧ ∀ i m σ H, W i m σ H →
      ((Iet K a).stop i H ∧ D.nx σ H) ∨ ((Iet K a).go i H ∧ ∃ N : L2.St → Hp → Prop, (∀ σ' H', N σ' H' → ∃ m', m' < m ∧ W (i + 1) m' σ' H') ∧ ∀ v H', (Iet K a).yld i H v H' → g v σ H' fun σ2 H2 => tb { D with nx := N, ct := N, bk := D.nx } σ2 H2) := by
  refine ⟨fun i m σ H => m = xs.length - i ∧ i ≤ xs.length ∧ Pv i σ H, ⟨xs.length, rfl, Nat.zero_le _, h0⟩, ?_⟩
  rintro i m σ H ⟨rfl, hi, p⟩
  have qx := hq i σ H p
  by_cases hlt : i < xs.length
  · refine .inr ⟨⟨xs, xs[i], qx, List.getElem?_eq_getElem hlt⟩, Pv (i + 1), fun σ' H' p' => ⟨xs.length - (i + 1), by omega, rfl, hlt, p'⟩, fun v H' y => ?_⟩
    obtain ⟨T, x', rfl, hT, rfl, f1⟩ := y
    exact hs i x' T σ H (f1 xs qx) p hT
  · have e : i = xs.length := by omega
    subst e
    exact .inl ⟨⟨xs, qx, rfl⟩, hd σ H p⟩
/-! ### xs == [] -/
def rEqNil (K : PySem.W.Frag) : R2 := fun x y H Q => ∃ a b xs, x = .ref a ∧ y = .ref b ∧ SqL K H a xs ∧ SqL K H b [] ∧ Q (.bl xs.isEmpty) H
theorem op_eqNil {X : Cx} (hu : X.A.units + 64 < cLine) : OpR X (compareOp .Eq) (rEqNil X.K) := by
  intro pins s σ H x y v u Q I rx ry h
  obtain ⟨a, b, xs, rfl, rfl, ha, hb, q⟩ := h
  cases rx
  cases ry
  obtain ⟨its, rv, p, _⟩ := I.list ha
  obtain ⟨its2, rv2, p2, _⟩ := I.list hb
  cases rv2
  cases xs with
  | nil =>
    cases rv
    refine SeqAt.eq_listAt (e := fun _ => true) p.isList p2.isList rfl (by omega) (fun j h1 _ => absurd h1 (Nat.not_lt_zero _)) ?_
    exact ⟨.bl _, H, I, rfl, q⟩
  | cons x xs =>
    have hl := rv.length
    refine SeqAt.eq_list_lengthsAt p.isList p2.isList ?_ (by omega) ?_
    · rw [bne_iff_ne]
      simp only [List.size_toArray, List.length_nil]
      rw [← hl]
      simp
    · exact ⟨.bl _, H, I, rfl, q⟩
def rNeNil (K : PySem.W.Frag) : R2 := fun x y H Q => ∃ a b xs, x = .ref a ∧ y = .ref b ∧ SqL K H a xs ∧ SqL K H b [] ∧ Q (.bl (!xs.isEmpty)) H
section
variable {X : Cx} {K : PySem.W.Frag}
theorem op_eqNilk (hK : X.K = K) (hu : X.A.units + 64 < cLine) : OpR X (compareOp .Eq) (rEqNil K) := hK ▸ op_eqNil hu
theorem op_catTBk (hK : X.K = K) : OpR X (binaryOp .Add) (rCatTB K) := hK ▸ op_catTB
theorem call_reprk (hK : X.K = K) (hg : X.A.guards = some []) (hu : X.A.units + 64 < cLine) : CallR X (.builtin "repr") (rReprF K) := hK ▸ call_repr hg hu
theorem sl_tupBk (hK : X.K = K) : SlR X (rSlTB K) := hK ▸ sl_tupB
end
theorem acc_new {H5 H' : Hp} {pD : Addr} {ws : List V} {y : V} (nD : H5 pD = none) (t1 : Same H5 H') (e : H' pD = some (.lst ws)) (len : ws.length ≤ 900) :
    ∃ acc, H' pD = some (.lst acc) ∧ acc.length < sizeLine ∧ Same H5 (upd H' pD (.lst (acc ++ [y]))) ∧ (upd H' pD (.lst (acc ++ [y]))) pD = some (.lst (ws ++ [y])) := by
  refine ⟨ws, e, small1000 (by omega), fun b o z => ?_, upd_same⟩
  rw [upd_ne (ne_of_none z nD)]
  exact t1 _ _ z
theorem Same.seq {K : PySem.W.Frag} {H H' : Hp} {a : Addr} {xs : List V} (s : Same H H') (h : SqL K H a xs) : SqL K H' a xs := by
  rcases h with (h | ⟨o, h⟩) | h
  · exact .inl (.inl (s _ _ h))
  · exact .inl (.inr ⟨o, s _ _ h⟩)
  · exact .inr h
/-- a promise that nothing keeps: for a def's own calls at its last level -/
def spNever : Sp := fun _ _ _ _ => False
theorem never {P : Program} {w : World} {K : PySem.W.Frag} {mg : Str → Option Value} {base : Heap} {k : Nat} {f : Addr} {fd : FuncData} {ps : List Str} : FnG P w K mg base CX0 k f fd ps spNever :=
  ⟨fun _ _ _ _ h => h.elim, fun _ _ _ _ _ _ _ _ _ _ _ _ _ h => h.elim⟩
end Cl

namespace Cl
open PySem PySem.Spec PyProof.Rows L2
open GxR (TabB TabG Tabbed GenS inv_tab sh_eta)
/-! ### a tuple of tuples, walked -/
theorem letOwned_tupleiter {prog : Program} {w : World} {A : Around} {E : Value → Shared → Prop} {s : Shared} {elts : List Expr} {x1} {pos : Pos} {I l T : Addr} {i : Nat} {Q : Unit → Shared → Prop} (hit : s.heap.IsTupleIter I l i) (hQ : Q () s) :
    wpAny (model prog w) A (letOwnedTupleGo (.Tuple elts x1 pos) (.ref I) (.ref T)) Q E s := by
  obtain ⟨o, ho, hc, hd⟩ := hit
  unfold letOwnedTupleGo
  refine wpAny_bind (wpAny_load ho ?_)
  rw [hc, hd]
  show wpAny _ A (if (["enumerate", "zip", "dict_itemiterator", "dict_reverseitemiterator", "odict_iterator", "itertools.zip_longest", "itertools.pairwise"].contains "tuple_iterator" &&
      (#[.ref l, .int i 0] : Array Value)[0]? == some (rawInt T)) = true then _ else _) Q E s
  rw [if_neg (by
    intro h
    rw [show (["enumerate", "zip", "dict_itemiterator", "dict_reverseitemiterator", "odict_iterator", "itertools.zip_longest", "itertools.pairwise"].contains "tuple_iterator") = false from by decide, Bool.false_and] at h
    cases h)]
  exact wpAny_pure hQ
theorem walksTT {prog : Program} {w : World} {A : Around} (hh : A.handled = none) (I ax : Addr) (hne : ax ≠ I) (items : Array Value) (Ts : Nat → Addr) (vals : Nat → Array Value)
    (hit : ∀ j, j < items.size → items[j]? = some (.ref (Ts j))) (hTI : ∀ j, j < items.size → Ts j ≠ I) :
    WalksU prog w A I (I :: ax :: (List.range items.size).map Ts) [I] items.size (fun j v => j < items.size ∧ v = vals j)
      (fun j h => h.IsTupleIter I ax j ∧ h.IsTuple ax items ∧ ∀ k, k < items.size → h.IsTuple (Ts k) (vals k))
      (fun j T h => (j < items.size ∧ T = Ts j) ∧ h.IsTupleIter I ax (j + 1) ∧ h.IsTuple ax items ∧ ∀ k, k < items.size → h.IsTuple (Ts k) (vals k)) where
  sub := fun b hb => by simp at hb; simp [hb]
  frame := fun _ _ _ st hk => ⟨st.1.at fun o e => hk I (by simp) o e, st.2.1.at fun o e => hk ax (by simp) o e,
    fun k hk' => (st.2.2 k hk').at fun o e => hk (Ts k) (List.mem_cons_of_mem _ (List.mem_cons_of_mem _ (List.mem_map.mpr ⟨k, List.mem_range.mpr hk', rfl⟩))) o e⟩
  item := fun i s Q E hi st hQ => by
    refine wpAny_pyNext_tuple_item st.1 st.2.1 (x := .ref (Ts i)) (hit i hi) fun h' hit' hs' => ?_
    have tup : ∀ k, k < items.size → h'.IsTuple (Ts k) (vals k) := fun k hk' => (st.2.2 k hk').extBut hs'.extBut (hTI k hk')
    exact hQ (Ts i) (vals i) h' s.toks ⟨hi, rfl⟩ (tup i hi) ⟨⟨hi, rfl⟩, hit', st.2.1.extBut hs'.extBut hne, tup⟩ fun b o hb e => hs'.extBut b o (fun h => hb (by simp [h])) e
  go := fun _ _ _ _ _ s Q _ hm hQ => letOwned_tupleiter hm.2.1 (hQ s.heap hm.2 fun _ _ _ e => e)
  apart := fun j T _ hm hmem => by
    rcases List.mem_cons.mp hmem with e | e
    · exact hTI j hm.1.1 (hm.1.2 ▸ e)
    · cases e
  done := fun s Q E st hQ => wpAny_pyNext_tuple_end hh st.1 st.2.1 (by simp) fun h' he' => hQ h' s.toks fun b o hb e => he' b o (fun h => hb (by simp [h])) e
  self := fun _ _ _ _ st hQ => wpAny_pyIter_tupleiter st.1 hQ
/-! ### expressions of whole numbers, evaluated quietly -/
def Sees (P : Program) (w : World) (env : Env) (h : Heap) (e : Expr) (v : V) : Prop :=
  ∀ (A : Around) (E : Value → Shared → Prop) (Q : Value → Shared → Prop) (s : Shared), s.heap = h → (∀ u k, RelV v u → Q u { s with toks := k }) → wpAny (model P w) A (eval e env) Q E s
section
variable {P : Program} {w : World} {env : Env} {h : Heap} {x : Str} {a b : Expr} {i j : Int} {pos : Pos}
theorem sees_loc {m : Str → Option Value} {t : Tok} (hk : env.scope.kind = .function) (hl : env.scope.names.lookup x = some .local) (hn : h.Ns env.locals m) (hm : m x = some (.int i t)) (hd : (x == ("__debug__" : Str)) = false := by decide) : Sees P w env h (.Name x pos) (.int i) :=
  fun A E Q s hs q => wpAny_Name (wpAny_loadName_local hk hl (hs ▸ hn) hm (q _ s.toks ⟨t, rfl⟩)) hd
theorem sees_free {c : Addr} {t : Tok} (hk : env.scope.kind = .function) (hl : env.scope.names.lookup x = some .free) (hc : env.cells.lookup x = some c) (hv : h.IsCell c (some (.int i t))) (hd : (x == ("__debug__" : Str)) = false := by decide)
    (hcd : (x == ("__classdict__" : Str)) = false := by decide) : Sees P w env h (.Name x pos) (.int i) :=
  fun A E Q s hs q => wpAny_Name (wpAny_loadName_free hk hl hc (hs ▸ hv) (q _ s.toks ⟨t, rfl⟩) hcd) hd
theorem sees_int {k : Nat} : Sees P w env h (.Constant (.int i) k pos) (.int i) := fun A E Q s hs q => wpAny_Constant_int (q _ _ ⟨_, rfl⟩)
theorem sees_add (ha : Sees P w env h a (.int i)) (hb : Sees P w env h b (.int j)) : Sees P w env h (.BinOp a .Add b pos) (.int (i + j)) := fun A E Q s hs q => by
  refine wpAny_BinOp (ha A _ _ s hs fun u k r => hb A _ _ _ hs fun u' k' r' => ?_)
  obtain ⟨t, rfl⟩ := r
  obtain ⟨t', rfl⟩ := r'
  exact add_int (q _ _ ⟨_, rfl⟩)
theorem sees_mul (ha : Sees P w env h a (.int i)) (hb : Sees P w env h b (.int j)) (c : IntMulOk i j) : Sees P w env h (.BinOp a .Mult b pos) (.int (i * j)) := fun A E Q s hs q => by
  refine wpAny_BinOp (ha A _ _ s hs fun u k r => hb A _ _ _ hs fun u' k' r' => ?_)
  obtain ⟨t, rfl⟩ := r
  obtain ⟨t', rfl⟩ := r'
  exact mul_int (q _ _ ⟨_, rfl⟩) c
theorem sees_lt (ha : Sees P w env h a (.int i)) (hb : Sees P w env h b (.int j)) : Sees P w env h (.Compare a [.Lt] [b] pos) (.bl (decide (i < j))) := fun A E Q s hs q => by
  refine wpAny_Compare1 (ha A _ _ s hs fun u k r => hb A _ _ _ hs fun u' k' r' => ?_) (nomark b)
  obtain ⟨t, rfl⟩ := r
  obtain ⟨t', rfl⟩ := r'
  exact lt_int (q _ _ rfl)
theorem sees_gt (ha : Sees P w env h a (.int i)) (hb : Sees P w env h b (.int j)) : Sees P w env h (.Compare a [.Gt] [b] pos) (.bl (decide (j < i))) := fun A E Q s hs q => by
  refine wpAny_Compare1 (ha A _ _ s hs fun u k r => hb A _ _ _ hs fun u' k' r' => ?_) (nomark b)
  obtain ⟨t, rfl⟩ := r
  obtain ⟨t', rfl⟩ := r'
  exact gt_int (q _ _ rfl)
theorem sees_ge (ha : Sees P w env h a (.int i)) (hb : Sees P w env h b (.int j)) : Sees P w env h (.Compare a [.GtE] [b] pos) (.bl (decide (j ≤ i))) := fun A E Q s hs q => by
  refine wpAny_Compare1 (ha A _ _ s hs fun u k r => hb A _ _ _ hs fun u' k' r' => ?_) (nomark b)
  obtain ⟨t, rfl⟩ := r
  obtain ⟨t', rfl⟩ := r'
  exact ge_int (q _ _ rfl)
end
theorem cl_lookup {cells : List (Str × Addr)} {names : List (Str × NameKind)} {n : Str} {c : Addr} (h : (n, NameKind.free) ∈ names) (hc : cells.lookup n = some c) : (cloFrom cells names []).lookup n = some c := by
  have hm := cloFrom_has (cells := cells) (acc := []) h
  cases q : (cloFrom cells names []).lookup n with
  | none =>
    have : ∀ (L : List (Str × Addr)), L.lookup n = none → ∀ c, (n, c) ∉ L := fun L => by
      induction L with
      | nil => intro _ c z; cases z
      | cons y L ih =>
        obtain ⟨y1, y2⟩ := y
        intro e c z
        rw [List.lookup_cons] at e
        split at e
        · cases e
        · rename_i hb
          rcases List.mem_cons.mp z with z | z
          · cases z
            simp at hb
          · exact ih e c z
    exact absurd hm (this _ q _)
  | some c' =>
    have : ∀ (L : List (Str × Addr)) c', L.lookup n = some c' → (n, c') ∈ L := fun L => by
      induction L with
      | nil => intro c' z; cases z
      | cons y L ih =>
        obtain ⟨y1, y2⟩ := y
        intro c' e
        rw [List.lookup_cons] at e
        split at e
        · rename_i hb
          cases e
          rw [eq_of_beq hb]
          exact List.mem_cons_self ..
        · exact List.mem_cons_of_mem _ (ih _ e)
    rcases cloFrom_mem (this _ _ q) with z | ⟨_, z⟩
    · cases z
    · rw [z, hc]
      rfl
/-- a captured whole number -/
def CapI (cells : List (Str × Addr)) (h : Heap) (n : Str) (i : Int) : Prop := ∃ c t, cells.lookup n = some c ∧ h.IsCell c (some (.int i t))

theorem CapI.keeps {cells : List (Str × Addr)} {h h' : Heap} {n : Str} {i : Int} {P : Addr} {vs : Array Value} (x : CapI cells h n i) (hP : ∃ o, h.get? P = some o ∧ o.data = .fields vs) (k : ∀ b o, b ≠ P → h.get? b = some o → h'.get? b = some o) : CapI cells h' n i := by
  obtain ⟨c, t, e, o, g, d⟩ := x
  refine ⟨c, t, e, o, k c o (fun z => ?_) g, d⟩
  obtain ⟨o', g', d'⟩ := hP
  rw [z, g'] at g
  cases g
  rw [d] at d'
  cases d'
/-- the element: a test of the pair (x, y) and three captured whole numbers -/
def EltP (P : Program) (w : World) (scope : Scope) (xa xb n1 n2 n3 : Str) (elt : Expr) (C : Int → Int → Int → Int × Int → Prop) (f : Int → Int → Int → Int × Int → Bool) : Prop :=
  ∀ (cenv : Env) (h : Heap) (i1 i2 i3 x y : Int) (tx ty : Tok) (m : Str → Option Value), cenv.scope = scope → CapI cenv.cells h n1 i1 → CapI cenv.cells h n2 i2 → CapI cenv.cells h n3 i3 →
    h.Ns cenv.locals m → m xa = some (.int x tx) → m xb = some (.int y ty) → C i1 i2 i3 (x, y) → Sees P w cenv h elt (.bl (f i1 i2 i3 (x, y)))
structure GenP (env : Env) (scope : Scope) (xa xb n1 n2 n3 : Str) : Prop where
  kind : scope.kind = .function
  co : scope.isCoroutine = false
  cell : ∀ y ∈ scope.names, y.2 ≠ .cell
  dot : scope.names.lookup (".0" : Str) = some NameKind.local
  la : scope.names.lookup xa = some .local
  lb : scope.names.lookup xb = some .local
  ab : xa ≠ xb
  f1 : (n1, NameKind.free) ∈ scope.names
  f2 : (n2, NameKind.free) ∈ scope.names
  f3 : (n3, NameKind.free) ∈ scope.names
  free : ∀ y ∈ scope.names, y.2 = .free → y.1 = n1 ∨ y.1 = n2 ∨ y.1 = n3
  c1 : env.scope.names.lookup n1 = some .cell
  c2 : env.scope.names.lookup n2 = some .cell
  c3 : env.scope.names.lookup n3 = some .cell
  e1 : (env.cells.lookup n1).isSome = true
  e2 : (env.cells.lookup n2).isSome = true
  e3 : (env.cells.lookup n3).isSome = true
def tAllP (K : PySem.W.Frag) (P : Addr) (s1 s2 s3 : Nat) (C : Int → Int → Int → Int × Int → Prop) (f : Int → Int → Int → Int × Int → Bool) (te : TE) : TE := fun σ H Q => te σ H fun v H1 => ∃ (a : Addr) (vs : List V) (ps : List (Int × Int)) (i1 i2 i3 : Int), v = .ref a ∧ SqT K H1 a vs ∧ AllAt (At2 K H1) vs ps ∧
  σ[s1]? = some (some (.int i1)) ∧ σ[s2]? = some (some (.int i2)) ∧ σ[s3]? = some (some (.int i3)) ∧ (∀ p ∈ ps, C i1 i2 i3 p) ∧ TabG H1 P ∧ ∀ H2, Same H1 H2 → TabG H2 P → Q (.bl (ps.all (f i1 i2 i3))) H2
theorem cap_of {X : Cx} {pins : List (Addr × Obj)} {σ : L2.St} {H : Hp} {s : Shared} {i : Nat} {n : Str} {z : Int} (I : Inv X pins σ H s) (hN : X.N[i]? = some n) (hc : X.env.scope.names.lookup n = some .cell) (e : σ[i]? = some (some (.int z))) :
    CapI X.env.cells s.heap n z := by
  obtain ⟨m, hn, hl⟩ := I.loc
  obtain ⟨u, r, l⟩ := hl i n _ hN e (.inr (.inl hc))
  obtain ⟨t, rfl⟩ := r
  rcases l with ⟨hk, _⟩ | ⟨_, c, hc', hcell⟩
  · have : X.env.scope.names.lookup n = some .local := hk
    rw [hc] at this
    cases this
  · exact ⟨c, t, hc', hcell⟩

section
variable {X : Cx}
theorem pe_allP {c P : Addr} {elt iter : Expr} {xa xb n1 n2 n3 : Str} {pa pb pt p pos gpos : Pos} {kt : Nat} {scope : Scope} {te : TE} {k s1 s2 s3 : Nat} {C : Int → Int → Int → Int × Int → Prop} {f : Int → Int → Int → Int × Int → Bool}
    (hr : Room k X.A) (hg : Gl X "all") (hm : X.mg "all" = none) (TB : TabB X.base X.mg c P) (hcode : X.env.code = .ref c) (hi : PE X iter te) (S : GenP X.env scope xa xb n1 n2 n3)
    (hN1 : X.N[s1]? = some n1) (hN2 : X.N[s2]? = some n2) (hN3 : X.N[s3]? = some n3) (hel : EltP X.prog X.w scope xa xb n1 n2 n3 elt C f)
    (hs : ∀ v, genFold iter X.env v = pure v := by intro _; rfl)
    (he : starEach [.GeneratorExp elt [⟨.Tuple [.Name xa pa, .Name xb pb] kt pt, iter, [], 0⟩] scope gpos] X.env = (false, eval (.GeneratorExp elt [⟨.Tuple [.Name xa pa, .Name xb pb] kt pt, iter, [], 0⟩] scope gpos) X.env) :: starEach [] X.env := by rfl) :
    PE X (.Call (.Name "all" p) [.GeneratorExp elt [⟨.Tuple [.Name xa pa, .Name xb pb] kt pt, iter, [], 0⟩] scope gpos] [] pos) (tAllP X.K P s1 s2 s3 C f te) := by
  have isS : ∀ {o : Option Addr}, o.isSome = true → ∃ c, o = some c := fun {o} h => by cases o with
    | none => cases h
    | some c => exact ⟨c, rfl⟩
  have hfree : ∀ y ∈ scope.names, y.2 = .free → ∃ c, X.env.cells.lookup y.1 = some c := fun y hy e => by
    rcases S.free y hy e with z | z | z <;> rw [z]
    · exact isS S.e1
    · exact isS S.e2
    · exact isS S.e3
  refine ⟨fun pins s σ H Q I h => ?_⟩
  refine wpAny_Call_Name_kw (ld_blt I hg hm PyProof.Rows.boot_all ?_)
  refine PyProof.Rows.callWith_builtin1 ?_ he (by rfl)
  rw [he]
  show wpAny _ _ (spliced ((false, eval (.GeneratorExp elt [⟨.Tuple [.Name xa pa, .Name xb pb] kt pt, iter, [], 0⟩] scope gpos) X.env) :: backTo pos (starEach [] X.env))) _ _ s
  refine Calls.spliced_cons ?_
  refine wpAny_GeneratorExp_walksQTD hr.hd S.co (closure_ok hfree) S.cell S.dot S.la S.lb S.ab S.kind (by have := hr.dp; omega) ?_ hs
  refine thn (hi.run pins s σ H _ I h) fun xv s1' ⟨v, H1, I1, r1, q1⟩ => ?_
  obtain ⟨a, vs, prs, i1, i2, i3, rfl, hS, hall, g1, g2, g3, hC, hT, q⟩ := q1
  cases r1
  have k1 := cap_of I1 hN1 S.c1 g1
  have k2 := cap_of I1 hN2 S.c2 g2
  have k3 := cap_of I1 hN3 S.c3 g3
  have cl : ∀ {n : Str} {i : Int}, (n, NameKind.free) ∈ scope.names → CapI X.env.cells s1'.heap n i → CapI (cloFrom X.env.cells scope.names []) s1'.heap n i := fun h ⟨c, t, e, z⟩ => ⟨c, t, cl_lookup h e, z⟩
  replace k1 := cl S.f1 k1
  replace k2 := cl S.f2 k2
  replace k3 := cl S.f3 k3
  clear cl
  obtain ⟨ps, hP, ht⟩ := id hT
  obtain ⟨its, rv, tup, hz⟩ := I1.tuple hS
  have lx := rv.length
  have lp := hall.length
  have hpair : ∀ j, ∃ z : Addr × Array Value, j < its.length → ∃ x y t1 t2, its[j]? = some (.ref z.1) ∧ s1'.heap.IsTuple z.1 z.2 ∧ z.2 = #[.int x t1, .int y t2] ∧ prs[j]? = some (x, y) := fun j => by
    by_cases hj : j < its.length
    · obtain ⟨u, eu, ru⟩ := rv.get (List.getElem?_eq_getElem (show j < vs.length by omega))
      obtain ⟨pr, ep, b, eb, hb⟩ := hall.get (List.getElem?_eq_getElem (show j < vs.length by omega))
      rw [eb] at ru
      cases ru
      obtain ⟨its2, rv2, tup2, _⟩ := I1.tuple hb
      cases rv2 with
      | cons r1 rr =>
        cases rr with
        | cons r2 rr =>
          cases rr
          obtain ⟨t1, rfl⟩ := r1
          obtain ⟨t2, rfl⟩ := r2
          exact ⟨(b, #[.int pr.1 t1, .int pr.2 t2]), fun _ => ⟨pr.1, pr.2, t1, t2, eu, tup2, rfl, ep⟩⟩
    · exact ⟨(0, #[]), fun z => absurd z hj⟩
  obtain ⟨F, hF⟩ := Classical.skolem.mp hpair
  refine wpAny_pyIter_tuple tup ?_
  have hPs : s1'.heap.get? P = some { cls := .none, data := .fields ps } := I1.hok P _ hP
  have hPlt : P < s1'.heap.objs.size := Heap.lt_size hPs
  have halt : a < s1'.heap.objs.size := by obtain ⟨o, e, _⟩ := id tup; exact Heap.lt_size e
  have haP : a ≠ P := fun e => by
    obtain ⟨o, e1, e2, _⟩ := id tup
    rw [e, hPs] at e1
    cases e1
    cases e2
  have hTlt : ∀ j, j < its.length → (F j).1 < s1'.heap.objs.size ∧ (F j).1 ≠ P := fun j hj => by
    obtain ⟨_, _, _, _, _, tj, _, _⟩ := hF j hj
    obtain ⟨o, e1, e2, _⟩ := id tj
    refine ⟨Heap.lt_size e1, fun e => ?_⟩
    rw [e, hPs] at e1
    cases e1
    cases e2
  generalize hito : ({ cls := .type "tuple_iterator", data := .fields #[.ref a, .int 0 0] } : Obj) = ito
  have hP2 : (s1'.heap.push ito).get? P = some { cls := .none, data := .fields ps } := Heap.get?_push_of_some _ hPs
  have cd : PySem.W.CodeHd (s1'.heap.push ito) c P := TB.code.keeps fun b u e => Heap.get?_push_of_some _ (I1.bk b u e)
  have lim2 : (s1'.heap.push ito).NoLimit := I1.nolimit.push ito
  have sz2 : (s1'.heap.push ito).objs.size = s1'.heap.objs.size + 1 := Heap.size_push ..
  have cont : ∀ (code : Value) (h3 : Heap) (tk : Nat) (ps' : Array Value), Heap.ExtBut P (s1'.heap.push ito) h3 → (s1'.heap.push ito).objs.size ≤ h3.objs.size → h3.get? P = some { cls := .none, data := .fields ps' } → (∃ more, ps' = ps ++ more) → TriplesOk ps'.toList →
      wpAny (model X.prog X.w) X.A (builtinsFor X.env.globals X.env.builtins) (fun bi s₄ =>
        ∃ Ia fp wr n₀ Pt St₀ Mid pz F, Value.ref s1'.heap.objs.size = .ref Ia ∧ (∀ A' : Around, A'.handled = none → WalksU X.prog X.w A' Ia fp wr n₀ Pt St₀ Mid) ∧ (∀ i vals, Pt i vals → ∃ va vb, vals = #[va, vb]) ∧ St₀ 0 s₄.heap ∧ (∀ b ∈ fp, b < s₄.heap.objs.size) ∧ s₄.heap.NoLimit ∧ cStatics ∉ wr ∧
          (∀ href : Heap, (∀ b o, s₄.heap.get? b = some o → href.get? b = some o) →
            QuietGenTD X.prog X.w (genEnv scope (cloFrom X.env.cells scope.names []) s₄.heap.objs.size code bi X.env) xa xb [] elt (List.range s₄.heap.objs.size) wr Pt pz F href (X.A.depth + 1) (X.A.units + 8)) ∧
          (∀ a h₅ tk gs, gs.bare = true → s₄.heap.objs.size < a → h₅.objs.size = a + 1 → (∀ b o, s₄.heap.get? b = some o → h₅.get? b = some o) →
            WalksS X.prog X.w X.A.in4 a (a :: s₄.heap.objs.size :: List.range s₄.heap.objs.size) (s₄.heap.objs.size :: wr) (GenOnlyQ s₄.gens.size) (passing pz n₀ 0).length
              (fun j y => ∃ i, (passing pz n₀ 0)[j]? = some i ∧ F i y) (GenAt X.prog X.w X.A.in4 a s₄.gens.size s₄.heap.objs.size (List.range s₄.heap.objs.size) wr pz n₀ F) →
            GenAt X.prog X.w X.A.in4 a s₄.gens.size s₄.heap.objs.size (List.range s₄.heap.objs.size) wr pz n₀ F 0 { s₄ with gens := s₄.gens.push gs, toks := tk, heap := h₅ } →
            wpAny (model X.prog X.w) X.A (spliced (backTo pos (starEach [] X.env))) (fun vs s2 => wpAny (model X.prog X.w) X.A (call (.builtin "all") (.ref a :: vs)) (EP X pins σ Q) X.xe s2) X.xe { s₄ with gens := s₄.gens.push gs, toks := tk, heap := h₅ })) X.xe { s1' with heap := h3, toks := tk } := by
    intro code h3 tk ps' hx hsz hP3 hmore ht3
    obtain ⟨bm, ob, e1, e2, e3, e4, e5, e6, e7, e8⟩ := TB.bm
    have keep3 : ∀ b u, b ≠ P → s1'.heap.get? b = some u → h3.get? b = some u := fun b u hb e => hx b u hb (Heap.get?_push_of_some _ e)
    have hcP : cStatics ≠ P := fun e => by
      obtain ⟨_, hns, _⟩ := I1.nolimit
      obtain ⟨o', es, ep, ho, hd, _⟩ := hns
      rw [e, hPs] at ho
      cases ho
      cases hd
    have hcl : cStatics < s1'.heap.objs.size := let ⟨_, hns, _⟩ := I1.nolimit; hns.lt
    have szle : s1'.heap.objs.size < h3.objs.size := by rw [sz2] at hsz; exact hsz
    refine wpAny_builtinsFor (m := X.mg) (by rw [I1.ok.glob]; exact ((I1.mod.glob.keeps I1.bk).push ito).extBut hx TB.gP) e1 e2 (keep3 _ _ e4 (I1.bk _ _ e5)) e6 e7 e8 ?_
    refine ⟨s1'.heap.objs.size, _, [s1'.heap.objs.size], its.toArray.size, _, _, _, (fun _ => true), (fun i y => i < its.toArray.size ∧ y = .bool (f i1 i2 i3 (prs.getD i (0, 0)))), rfl,
      fun A' hA => walksTT hA s1'.heap.objs.size a (Nat.ne_of_lt halt) its.toArray (fun j => (F j).1) (fun j => (F j).2) (fun j hj => ?_) (fun j hj => ?_), ?_, ⟨?_, ?_, ?_⟩, ?_, lim2.extBut hx hcP, ?_, ?_, ?_⟩
    · have hj : j < its.length := by simpa using hj
      obtain ⟨_, _, _, _, ej, _⟩ := hF j hj
      simpa using ej
    · have hj : j < its.length := by simpa using hj
      exact Nat.ne_of_lt (hTlt j hj).1
    · rintro i vals ⟨hi', rfl⟩
      have hi' : i < its.length := by simpa using hi'
      obtain ⟨x, y, t1, t2, _, _, e, _⟩ := hF i hi'
      exact ⟨_, _, e⟩
    · refine ⟨ito, hx _ _ (fun z => Nat.ne_of_lt hPlt z.symm) (Heap.get?_push_size _ (by rw [← hito]; rfl)), by rw [← hito], by rw [← hito]; rfl⟩
    · obtain ⟨o, g1, g2, g3⟩ := id tup
      exact ⟨o, keep3 a o haP g1, g2, g3⟩
    · intro j hj
      have hj : j < its.length := by simpa using hj
      obtain ⟨_, _, _, _, _, ⟨o, g1, g2, g3⟩, _⟩ := hF j hj
      exact ⟨o, keep3 _ o (hTlt j hj).2 g1, g2, g3⟩
    · intro b hb
      show b < h3.objs.size
      rcases List.mem_cons.mp hb with z | z
      · rw [z]; exact szle
      · rcases List.mem_cons.mp z with z | z
        · rw [z]; exact Nat.lt_trans halt szle
        · obtain ⟨j, hj, rfl⟩ := List.mem_map.mp z
          have hj : j < its.length := by simpa using hj
          exact Nat.lt_trans (hTlt j hj).1 szle
    · intro z
      rw [List.mem_singleton.mp z] at hcl
      exact Nat.lt_irrefl _ hcl
    · intro href hhref
      refine ⟨fun A' E' i va vb s₂ m₂ hA hD hU hPv hn hma hmb hk => ?_, fun A' E' i va vb s₂ m₂ hA hD hU hPv hp hn hma hmb hk => ?_⟩
      · simp only [List.forIn_nil]
        exact wpAny_pure ⟨rfl, GxR.keeps_refl _⟩
      · have key : ∀ b o, b ≠ P → s1'.heap.get? b = some o → s₂.heap.get? b = some o := fun b o hb e =>
          hk b (List.mem_range.mpr (Heap.lt_size (keep3 b o hb e))) (fun z => by
            have l := Heap.lt_size e
            rw [List.mem_singleton.mp z] at l
            exact Nat.lt_irrefl _ l) o (hhref b o (keep3 b o hb e))
        obtain ⟨hi0, ev⟩ := hPv
        have hi' : i < its.length := by simpa using hi0
        obtain ⟨x, y, t1, t2, _, _, e, ep⟩ := hF i hi'
        rw [e] at ev
        cases ev
        have hPd : ∃ o, s1'.heap.get? P = some o ∧ o.data = .fields ps := ⟨_, hPs, rfl⟩
        have see := hel (genEnv scope (cloFrom X.env.cells scope.names []) h3.objs.size code builtinsNs X.env) s₂.heap i1 i2 i3 x y t1 t2 m₂ rfl (k1.keeps hPd key) (k2.keeps hPd key) (k3.keeps hPd key) hn hma hmb (hC _ (List.mem_of_getElem? ep))
        refine see A' E' _ s₂ rfl fun u kk r => ?_
        cases r
        refine ⟨⟨hi0, ?_⟩, GxR.keeps_tok _ _⟩
        rw [List.getD_eq_getElem?_getD, ep]
        rfl
    · intro g h5 tk5 gs hgb hag hsz5 hk5 W5 hat
      simp only [GxR.passing_true, List.length_range] at W5
      refine Calls.spliced_nil ?_
      have W := W5.in4_1
      refine call_all_walkS (W.self 0 _ _ _ hat ⟨g, _, _, _, _, _, _, fun j => f i1 i2 i3 (prs.getD j (0, 0)), rfl, W, hat, ?_, fun s' hm => ?_⟩)
      · intro j y sj Qj Ej hy hQj
        obtain ⟨i, hij, hi2, rfl⟩ := hy
        try rw [GxR.passing_true] at hij
        obtain ⟨hj, ej⟩ := List.getElem?_eq_some_iff.mp hij
        rw [List.getElem_range] at ej
        subst ej
        exact wpAny_truthy_bool hQj
      · obtain ⟨more, em⟩ := hmore
        have nwr : ∀ b u, s1'.heap.get? b = some u → b ∉ h3.objs.size :: [s1'.heap.objs.size] := fun b u e hb => by
          have hl := Heap.lt_size e
          simp only [List.mem_cons, List.not_mem_nil, or_false] at hb
          rcases hb with z | z
          · rw [z] at hl
            have h9 : (h3.objs.size : Nat) < s1'.heap.objs.size := hl
            omega
          · rw [z] at hl
            exact Nat.lt_irrefl _ hl
        have J := inv_tab (more := more) (h' := s'.heap) (g' := s'.gens) (d' := s'.drawn) (t' := s'.toks) I1 hP (fun b u hb e => hm.heap b u (nwr b u e) (hk5 b u (keep3 b u hb e)))
          (by rw [← em]; exact hm.heap P _ (nwr P _ hPs) (hk5 P _ hP3)) (AllBare.movedS (I1.bare.push hgb) hm)
        rw [sh_eta s1' s' hm.os] at J
        have tb : Tabbed P H1 (upd H1 P (.tbl (ps ++ more))) := ⟨⟨ps ++ more, upd_same, by rw [← em]; exact ht3⟩, fun b hb => upd_ne hb⟩
        refine ⟨.bl _, _, J, ?_, q _ (Same.tabbed hT tb) tb.1⟩
        show Value.bool _ = Value.bool _
        have hall2 := all_range (prs.map (f i1 i2 i3))
        rw [List.length_map, List.all_map] at hall2
        have e9 : (List.range its.toArray.size).all (fun j => f i1 i2 i3 (prs.getD j (0, 0))) = (List.range prs.length).all fun j => (prs.map (f i1 i2 i3)).getD j false := by
          rw [show its.toArray.size = prs.length by simp; omega, Bool.eq_iff_iff, List.all_eq_true, List.all_eq_true]
          constructor
          · intro z j hj
            have := z j hj
            have hj := List.mem_range.mp hj
            rw [List.getD_eq_getElem?_getD, List.getElem?_eq_getElem hj] at this
            rw [List.getD_eq_getElem?_getD, List.getElem?_map, List.getElem?_eq_getElem hj]
            exact this
          · intro z j hj
            have := z j hj
            have hj := List.mem_range.mp hj
            rw [List.getD_eq_getElem?_getD, List.getElem?_map, List.getElem?_eq_getElem hj] at this
            rw [List.getD_eq_getElem?_getD, List.getElem?_eq_getElem hj]
            exact this
        rw [e9, hall2]
        rfl
  refine ⟨lim2, ?_⟩
  cases hf : codeAmong gpos ps.toList with
  | none =>
    refine wpAny_genexprCodeX hcode (cd.code hP2 ht) (cd.tab hP2) hf fun c' h' tk hx hge hlt hco' _ htab' _ => ?_
    obtain ⟨o1, vs, f1, tf, fl, tg, inF, tx, tt, op, _, _, _, _, _, _, _, _, _, htr, _⟩ := hco'
    exact cont _ h' tk _ hx (Nat.le_trans hge (Nat.le_of_lt hlt)) htab'.2 ⟨_, rfl⟩ htr
  | some cv =>
    refine wpAny_genexprCode_hit hcode (cd.code hP2 ht) hf ?_
    exact cont cv (s1'.heap.push ito) s1'.toks ps (Heap.ExtBut.refl _ _) (Nat.le_refl _) hP2 ⟨#[], by simp⟩ ht
end
/-! ### thing == () -/
def rEqTNil (K : PySem.W.Frag) : R2 := fun x y H Q => ∃ a b xs, x = .ref a ∧ y = .ref b ∧ SqT K H a xs ∧ SqT K H b [] ∧ Q (.bl xs.isEmpty) H
theorem op_eqTNil {X : Cx} (hu : X.A.units + 64 < cLine) : OpR X (compareOp .Eq) (rEqTNil X.K) := by
  intro pins s σ H x y v u Q I rx ry h
  obtain ⟨a, b, xs, rfl, rfl, ha, hb, q⟩ := h
  cases rx
  cases ry
  obtain ⟨its, rv, p, _⟩ := I.tuple ha
  obtain ⟨its2, rv2, p2, _⟩ := I.tuple hb
  cases rv2
  refine SeqAt.eq_tupleAt (e := fun _ => true) p p2 (by omega) (fun j h1 h2 => absurd h2 (Nat.not_lt_zero _)) ?_
  have hl := rv.length
  refine ⟨.bl _, H, I, ?_, q⟩
  show Value.bool _ = Value.bool _
  cases xs with
  | nil =>
    have : its = [] := List.eq_nil_of_length_eq_zero hl.symm
    subst this
    rfl
  | cons x xs =>
    cases its with
    | nil => simp at hl
    | cons i its => simp
end Cl

namespace Cl
open PySem PySem.Spec PyProof.Rows L2
/-! ### comprehensions with two fors over tuples -/
theorem genT {K : PySem.W.Frag} {a : Addr} {xs : List V} {H0 : Hp} {Qd : Hp → Prop} {BODY : V → Hp → (Hp → Prop) → Prop} (Pv : Nat → Hp → Prop) (h0 : Pv 0 H0) (hl : ∀ i H, i ≤ xs.length → Pv i H → SqT K H a xs)
    (hs : ∀ i x H, xs[i]? = some x → Pv i H → BODY x H (Pv (i + 1))) (hd : ∀ H, Pv xs.length H → Qd H) :
    ∃ W : Nat → Nat → Hp → Prop, (∃ m, W 0 m H0) ∧ ∀ i m H, W i m H → ((Itt K a).stop i H ∧ Qd H) ∨ ((Itt K a).go i H ∧ ∃ Nx : Hp → Prop, (∀ H', Nx H' → ∃ m', m' < m ∧ W (i + 1) m' H') ∧ ∀ x H', (Itt K a).yld i H x H' → BODY x H' Nx) := by
  refine ⟨fun i m H => m = xs.length - i ∧ i ≤ xs.length ∧ Pv i H, ⟨xs.length, by simp, Nat.zero_le _, h0⟩, ?_⟩
  rintro i m H ⟨rfl, hi, p⟩
  have q := hl i H hi p
  by_cases hlt : i < xs.length
  · refine .inr ⟨⟨xs, xs[i], q, List.getElem?_eq_getElem hlt⟩, Pv (i + 1), fun H' p' => ⟨xs.length - (i + 1), by omega, rfl, hlt, p'⟩, fun x H' y => ?_⟩
    obtain ⟨e, y⟩ := y
    subst e
    exact hs i x _ (y xs q) p
  · have e : i = xs.length := by omega
    subst e
    exact .inl ⟨⟨xs, q, Nat.le_refl _⟩, hd H p⟩
section
variable {X : Cx} {K : PySem.W.Frag} {tg e : Expr} {te : TE}
theorem pi_tupk (hK : X.K = K) (h : PE X e te) : PI X tg e (iTup K te) := hK ▸ pi_tup h
theorem pi_listk (hK : X.K = K) (h : PE X e te) : PI X tg e (iList K te) := hK ▸ pi_list h
end
end Cl

set_option maxHeartbeats 0
namespace Cl
open PySem PySem.Spec PyProof.Rows L2
def topS (i : Nat) : Stmt := PySem.Challenge.pw_cornerlines_k19_papers_of_cells_spoilt.main.body.getD i (.Pass ⟨0, 0, 0, 0⟩)

abbrev sis_whole : Stmt := topS 1
theorem scis_whole : FnScope ["thing"] ["thing"] (defScope sis_whole) := ⟨rfl, rfl, rfl, by decide +kernel, rfl, by decide +kernel, by decide +kernel⟩
abbrev sare_wholes : Stmt := topS 2
theorem scare_wholes : FnScope ["thing", "many", "part"] ["thing", "many"] (defScope sare_wholes) := ⟨rfl, rfl, rfl, by decide +kernel, rfl, by decide +kernel, by decide +kernel⟩
abbrev sgreatest_parting : Stmt := topS 3
theorem scgreatest_parting : FnScope ["n", "m"] ["n", "m"] (defScope sgreatest_parting) := ⟨rfl, rfl, rfl, by decide +kernel, rfl, by decide +kernel, by decide +kernel⟩
abbrev slowest : Stmt := topS 4
theorem sclowest : FnScope ["n", "d", "part"] ["n", "d"] (defScope slowest) := ⟨rfl, rfl, rfl, by decide +kernel, rfl, by decide +kernel, by decide +kernel⟩
abbrev snearest : Stmt := topS 5
theorem scnearest : FnScope ["n", "d"] ["n", "d"] (defScope snearest) := ⟨rfl, rfl, rfl, by decide +kernel, rfl, by decide +kernel, by decide +kernel⟩
abbrev sis_less : Stmt := topS 6
theorem scis_less : FnScope ["one", "other"] ["one", "other"] (defScope sis_less) := ⟨rfl, rfl, rfl, by decide +kernel, rfl, by decide +kernel, by decide +kernel⟩
abbrev sgreater_of : Stmt := topS 7
theorem scgreater_of : FnScope ["one", "other"] ["one", "other"] (defScope sgreater_of) := ⟨rfl, rfl, rfl, by decide +kernel, rfl, by decide +kernel, by decide +kernel⟩
abbrev slesser_of : Stmt := topS 8
theorem sclesser_of : FnScope ["one", "other"] ["one", "other"] (defScope slesser_of) := ⟨rfl, rfl, rfl, by decide +kernel, rfl, by decide +kernel, by decide +kernel⟩
abbrev sis_paper : Stmt := topS 10
theorem scis_paper : FnScope ["thing", "word", "many"] ["thing", "word", "many"] (defScope sis_paper) := ⟨rfl, rfl, rfl, by decide +kernel, rfl, by decide +kernel, by decide +kernel⟩
abbrev srims_of : Stmt := topS 12
theorem scrims_of : FnScope ["grain", "number"] ["grain", "number"] (defScope srims_of) := ⟨rfl, rfl, rfl, by decide +kernel, rfl, by decide +kernel, by decide +kernel⟩
abbrev sgreatest_in : Stmt := topS 13
theorem scgreatest_in : FnScope ["grain", "corner", "p", "q", "i", "j", "x", "y"] ["grain", "corner", "p", "q"] (defScope sgreatest_in) := ⟨rfl, rfl, rfl, by decide +kernel, rfl, by decide +kernel, by decide +kernel⟩
abbrev skeeps_below : Stmt := topS 14
theorem sckeeps_below : FnScope ["grain", "corner", "p", "q", "r", "greatest"] ["grain", "corner", "p", "q", "r"] (defScope skeeps_below) := ⟨rfl, rfl, rfl, by decide +kernel, rfl, by decide +kernel, by decide +kernel⟩
abbrev sspot_of : Stmt := topS 16
theorem scspot_of : FnScope ["n", "m", "d", "part"] ["n", "m", "d"] (defScope sspot_of) := ⟨rfl, rfl, rfl, by decide +kernel, rfl, by decide +kernel, by decide +kernel⟩
abbrev scorner_at : Stmt := topS 17
theorem sccorner_at : FnScope ["grain", "spot", "n", "m", "d"] ["grain", "spot"] (defScope scorner_at) := ⟨rfl, rfl, rfl, by decide +kernel, rfl, by decide +kernel, by decide +kernel⟩
abbrev sstep_of : Stmt := topS 19
theorem scstep_of : FnScope ["line", "x", "y", "far_x", "far_y"] ["line"] (defScope sstep_of) := ⟨rfl, rfl, rfl, by decide +kernel, rfl, by decide +kernel, by decide +kernel⟩
abbrev sways_across : Stmt := topS 20
theorem scways_across : FnScope ["line", "dx", "dy"] ["line"] (defScope sways_across) := ⟨rfl, rfl, rfl, by decide +kernel, rfl, by decide +kernel, by decide +kernel⟩
abbrev sleast_by : Stmt := topS 21
theorem scleast_by : FnScope ["line", "p", "q", "x", "y"] ["line", "p", "q"] (defScope sleast_by) := ⟨rfl, rfl, rfl, by decide +kernel, rfl, by decide +kernel, by decide +kernel⟩
abbrev sis_share : Stmt := topS 23
theorem scis_share : FnScope ["k", "m"] ["k", "m"] (defScope sis_share) := ⟨rfl, rfl, rfl, by decide +kernel, rfl, by decide +kernel, by decide +kernel⟩
abbrev sspot_at : Stmt := topS 24
theorem scspot_at : FnScope ["line", "k", "m", "x", "y", "dx", "dy"] ["line", "k", "m"] (defScope sspot_at) := ⟨rfl, rfl, rfl, by decide +kernel, rfl, by decide +kernel, by decide +kernel⟩
abbrev smeets_holds : Stmt := topS 26
theorem scmeets_holds : FnScope ["grain", "line", "corner", "thing"] ["grain", "line", "corner", "thing"] (defScope smeets_holds) := ⟨rfl, rfl, rfl, by decide +kernel, rfl, by decide +kernel, by decide +kernel⟩
abbrev smet_holds : Stmt := topS 27
theorem scmet_holds : FnScope ["grain", "line", "corner", "thing", "k", "m"] ["grain", "line", "corner", "thing"] (defScope smet_holds) := ⟨rfl, rfl, rfl, by decide +kernel, rfl, by decide +kernel, by decide +kernel⟩
abbrev smissed_holds : Stmt := topS 28
theorem scmissed_holds : FnScope ["grain", "line", "corner", "thing", "p", "q", "r", "x", "y"] ["grain", "line", "corner", "thing"] (defScope smissed_holds) := ⟨rfl, rfl, rfl, by decide +kernel, rfl, by decide +kernel, by decide +kernel⟩
abbrev smeets_paper : Stmt := topS 30
theorem scmeets_paper : FnScope ["grain", "line", "corner", "share", "k", "m"] ["grain", "line", "corner"] (defScope smeets_paper) := ⟨rfl, rfl, rfl, by decide +kernel, rfl, by decide +kernel, by decide +kernel⟩
abbrev sshare_in : Stmt := topS 31
theorem scshare_in : FnScope ["grain", "line", "corner", "shares", "k", "m", "l", "n", "midway"] ["grain", "line", "corner"] (defScope sshare_in) := ⟨rfl, rfl, rfl, by decide +kernel, rfl, by decide +kernel, by decide +kernel⟩
abbrev sshares_within : Stmt := topS 32
theorem scshares_within : FnScope ["grain", "line", "corner", "first", "last", "start", "step", "number", "near", "far", "rim"] ["grain", "line", "corner"] (defScope sshares_within) := ⟨rfl, rfl, rfl, by decide +kernel, rfl, by decide +kernel, by decide +kernel⟩
abbrev smisses_paper : Stmt := topS 33
theorem scmisses_paper : FnScope ["grain", "line", "corner", "ways", "p", "q", "way"] ["grain", "line", "corner"] (defScope smisses_paper) := ⟨rfl, rfl, rfl, by decide +kernel, rfl, by decide +kernel, by decide +kernel⟩
abbrev slies_beyond : Stmt := topS 34
theorem sclies_beyond : FnScope ["grain", "line", "corner", "way", "p", "q"] ["grain", "line", "corner", "way"] (defScope slies_beyond) := ⟨rfl, rfl, rfl, by decide +kernel, rfl, by decide +kernel, by decide +kernel⟩
abbrev s_law_deck : Stmt := topS 36
theorem sc_law_deck : FnScope ["_law_script", "_law_cell"] ["_law_script"] (defScope s_law_deck) := ⟨rfl, rfl, rfl, by decide +kernel, rfl, by decide +kernel, by decide +kernel⟩
abbrev s_law_draw : Stmt := topS 37
theorem sc_law_draw : FnScope ["_law_deck_here", "_law_most", "_law_cell", "_law_number"] ["_law_deck_here", "_law_most"] (defScope s_law_draw) := ⟨rfl, rfl, rfl, by decide +kernel, rfl, by decide +kernel, by decide +kernel⟩
abbrev s_law_grain : Stmt := topS 38
theorem sc_law_grain : FnScope ["_law_deck_here"] ["_law_deck_here"] (defScope s_law_grain) := ⟨rfl, rfl, rfl, by decide +kernel, rfl, by decide +kernel, by decide +kernel⟩
abbrev s_law_point : Stmt := topS 39
theorem sc_law_point : FnScope ["_law_deck_here", "_law_grain_here", "_law_way", "_law_x", "_law_y"] ["_law_deck_here", "_law_grain_here", "_law_way"] (defScope s_law_point) := ⟨rfl, rfl, rfl, by decide +kernel, rfl, by decide +kernel, by decide +kernel⟩
abbrev s_law_unlike : Stmt := topS 40
theorem sc_law_unlike : FnScope ["_law_one", "_law_other"] ["_law_one", "_law_other"] (defScope s_law_unlike) := ⟨rfl, rfl, rfl, by decide +kernel, rfl, by decide +kernel, by decide +kernel⟩
abbrev s_law_line : Stmt := topS 41
theorem sc_law_line : FnScope ["_law_deck_here", "_law_grain_here", "_law_lines_here", "_law_way", "_law_one", "_law_other", "_law_x", "_law_y", "_law_u", "_law_v", "_law_number"] ["_law_deck_here", "_law_grain_here", "_law_lines_here"] (defScope s_law_line) := ⟨rfl, rfl, rfl, by decide +kernel, rfl, by decide +kernel, by decide +kernel⟩
abbrev s_law_lines : Stmt := topS 42
theorem sc_law_lines : FnScope ["_law_deck_here", "_law_grain_here", "_law_many", "_law_lines_here", "_law_k"] ["_law_deck_here", "_law_grain_here", "_law_many"] (defScope s_law_lines) := ⟨rfl, rfl, rfl, by decide +kernel, rfl, by decide +kernel, by decide +kernel⟩
abbrev s_law_moved : Stmt := topS 43
theorem sc_law_moved : FnScope ["_law_lines_here", "_law_dx", "_law_dy", "_law_x", "_law_y", "_law_u", "_law_v"] ["_law_lines_here", "_law_dx", "_law_dy"] (defScope s_law_moved) := ⟨rfl, rfl, rfl, by decide +kernel, rfl, by decide +kernel, by decide +kernel⟩
abbrev s_law_nearest : Stmt := topS 44
theorem sc_law_nearest : FnScope ["_law_grain_here", "_law_spot", "_law_n", "_law_m", "_law_d"] ["_law_grain_here", "_law_spot"] (defScope s_law_nearest) := ⟨rfl, rfl, rfl, by decide +kernel, rfl, by decide +kernel, by decide +kernel⟩
abbrev s_law_far : Stmt := topS 45
theorem sc_law_far : FnScope ["_law_deck_here", "_law_any_one"] ["_law_deck_here"] (defScope s_law_far) := ⟨rfl, rfl, rfl, by decide +kernel, rfl, by decide +kernel, by decide +kernel⟩
abbrev s_law_some_line : Stmt := topS 46
theorem sc_law_some_line : FnScope ["_law_deck_here", "_law_grain_here", "_law_far_here", "_law_by", "_law_k", "_law_lines_here", "_law_one", "_law_other"] ["_law_deck_here", "_law_grain_here"] (defScope s_law_some_line) := ⟨rfl, rfl, rfl, by decide +kernel, rfl, by decide +kernel, by decide +kernel⟩
abbrev s_law_near : Stmt := topS 47
theorem sc_law_near : FnScope ["_law_deck_here", "_law_grain_here", "_law_line_here", "_law_x", "_law_y", "_law_u", "_law_v", "_law_k", "_law_i", "_law_j"] ["_law_deck_here", "_law_grain_here", "_law_line_here"] (defScope s_law_near) := ⟨rfl, rfl, rfl, by decide +kernel, rfl, by decide +kernel, by decide +kernel⟩
abbrev s_law_is_whole : Stmt := topS 48
theorem sc_law_is_whole : FnScope ["_law_thing"] ["_law_thing"] (defScope s_law_is_whole) := ⟨rfl, rfl, rfl, by decide +kernel, rfl, by decide +kernel, by decide +kernel⟩
abbrev s_law_is_paper : Stmt := topS 49
theorem sc_law_is_paper : FnScope ["_law_grain_here", "_law_line_here", "_law_corner", "_law_thing", "_law_one", "_law_sides", "_law_k", "_law_m", "_law_at", "_law_a", "_law_b", "_law_inside", "_law_side", "_law_word", "_law_p", "_law_q", "_law_r", "_law_x", "_law_y", "_law_most"] ["_law_grain_here", "_law_line_here", "_law_corner", "_law_thing"] (defScope s_law_is_paper) := ⟨rfl, rfl, rfl, by decide +kernel, rfl, by decide +kernel, by decide +kernel⟩
abbrev s_law_spots : Stmt := topS 50
theorem sc_law_spots : FnScope ["_law_thing", "_law_found", "_law_k", "_law_spot"] ["_law_thing"] (defScope s_law_spots) := ⟨rfl, rfl, rfl, by decide +kernel, rfl, by decide +kernel, by decide +kernel⟩
abbrev s_law_with : Stmt := topS 51
theorem sc_law_with : FnScope ["_law_thing", "_law_spot", "_law_part", "_law_k"] ["_law_thing", "_law_spot", "_law_part"] (defScope s_law_with) := ⟨rfl, rfl, rfl, by decide +kernel, rfl, by decide +kernel, by decide +kernel⟩
abbrev s_law_bent : Stmt := topS 52
theorem sc_law_bent : FnScope ["_law_thing", "_law_spoil", "_law_way", "_law_place", "_law_what", "_law_spots_here", "_law_spot", "_law_part", "_law_k", "_law_some", "_law_at", "_law_odd"] ["_law_thing", "_law_spoil"] (defScope s_law_bent) := ⟨rfl, rfl, rfl, by decide +kernel, rfl, by decide +kernel, by decide +kernel⟩
abbrev s_law_spoils : Stmt := topS 53
theorem sc_law_spoils : FnScope ["_law_deck_here", "_law_many", "_law_found", "_law_k"] ["_law_deck_here", "_law_many"] (defScope s_law_spoils) := ⟨rfl, rfl, rfl, by decide +kernel, rfl, by decide +kernel, by decide +kernel⟩
abbrev s_law_told : Stmt := topS 54
theorem sc_law_told : FnScope ["_law_grain_here", "_law_line_here", "_law_corner", "_law_thing", "_law_kept", "_law_found", "_law_due"] ["_law_grain_here", "_law_line_here", "_law_corner", "_law_thing"] (defScope s_law_told) := ⟨rfl, rfl, rfl, by decide +kernel, rfl, by decide +kernel, by decide +kernel⟩
abbrev slaw : Stmt := topS 55
theorem sclaw : FnScope ["_law_script", "_law_deck_here", "_law_turn", "_law_spoils_here", "_law_grain_here", "_law_line_here", "_law_across", "_law_r", "_law_once", "_law_corner", "_law_paper", "_law_way", "_law_place", "_law_what", "_law_more", "_law_thing", "_law_odd"] ["_law_script"] (defScope slaw) := ⟨rfl, rfl, rfl, by decide +kernel, rfl, by decide +kernel, by decide +kernel⟩
structure Bt (mg : Str → Option Value) : Prop where
  list : mg "list" = none
  sum : mg "sum" = none
  len : mg "len" = none
  range : mg "range" = none
  abs : mg "abs" = none
  max : mg "max" = none
  min : mg "min" = none
  tuple : mg "tuple" = none
  int : mg "int" = none
  sorted : mg "sorted" = none
  zip : mg "zip" = none
  isinstance : mg "isinstance" = none
  all : mg "all" = none
  bool : mg "bool" = none
  str : mg "str" = none
  repr : mg "repr" = none
theorem cut63 {ns : List Int} (h : ns.length ≤ 63) : cutV (ns.map V.int) none (some 63) = ns.map V.int := by
  unfold cutV
  rw [HT.sIx_none, show HT.sIx (ns.map V.int).length (ns.map V.int).length (some 63) = min 63 (ns.map V.int).length from HT.sIx_nat _ _ 63, List.length_map]
  rw [List.drop_zero, List.take_of_length_le (by rw [List.length_map]; omega)]
section
variable {P : Program} {w : World} {K : PySem.W.Frag} {mg : Str → Option Value} {base : Heap}
theorem ok_law_deck {f : Addr} {fd : FuncData} (F : Fun K "_law_deck" "_law_deck" s_law_deck f fd) (T : Bt mg) :
    FnG P w K mg base CX0 1 f fd ["_law_script"] (spDeck K) := by
  refine okG (k := 0) F sc_law_deck (fun vs H Q E h => ?_) (fun cdv A outer s H vs Q E hr h => ?_)
  · obtain ⟨a, ns, rfl, _⟩ := h
    rfl
  · obtain ⟨a, ns, rfl, hS, hlen, q⟩ := h
    refine ⟨_, (pss_one (ps_ret (lstN (pa_cons (pe_revL (pe_callTy call_list_ofN (by rfl) T.list (by decide +kernel) (pa_cons (pe_slice sl_listN (pv 0) po_none (po_some pe_int)) pa_nil))) (pa_cons (pe_op op_add (pe_callB (cr_sum rfl) (by rfl) T.sum (by decide +kernel) (pa_cons (pe_lc (own := [("_law_cell", 1)]) (g := gName 1) (tt := tYes) (by rfl) sc_law_deck.nd (pi_list (pe_slice sl_listN (pv 0) po_none (po_some pe_int))) (blkOk_by (own := [("_law_cell", 1)]) (N := ["_law_script", "_law_cell"]) (sc := defScope s_law_deck) (by decide +kernel)) (fun _ _ _ _ _ => (pg_name (i := 1) sc_law_deck.nd rfl (.inl rfl))) (fun _ _ _ _ _ => pts_nil) (fun _ _ _ _ _ => (pe_op op_mod (pv 1) pe_int))) pa_nil)) (pe_op op_mul pe_int (pe_callB call_len_seq (by rfl) T.len (by decide +kernel) (pa_cons (pe_slice sl_listN (pv 0) po_none (po_some pe_int)) pa_nil)))) (pa_cons pe_int pa_nil)))))), ?_⟩
    -- list(script[:63])[::-1]
    refine ⟨.ref a, rfl, 63, rfl, a, _, rfl, hS, fun p1 H1 n1 s1 g1 => ⟨p1, _, rfl, .inl (.inl (.inl g1)), fun p2 H2 n2 s2 g2 => ⟨p2, _, rfl, .inl (.inl g2), fun l H3 n3 s3 g3 => ?_⟩⟩⟩
    have t3 : Same H H3 := (s1.trans s2).trans s3
    rw [cut63 hlen, ← List.map_reverse] at g3
    -- sum([cell % 1000003 for cell in script[:63]])
    refine ⟨.ref a, rfl, 63, rfl, a, _, rfl, t3.seq hS, fun p4 H4 n4 s4 g4 => ⟨p4, rfl, ⟨_, .inl (.inl g4)⟩, fun p5 n5 => ?_⟩⟩
    rw [cut63 hlen] at g4
    refine lcL (K := K) (a := p4) (xs := ns.map V.int) (fun i H' => Same H4 H' ∧ H' p5 = some (.lst ((ns.take i).map fun z => V.int (z % 1000003)))) n5 (fun H' e1 e2 => ⟨e1, e2⟩) (fun i H' _ z => .inl (.inl (z.1 _ _ g4))) (fun i x H' hx z => ?_) (fun H5 z => ?_)
    · obtain ⟨e1, e2⟩ := z
      rw [List.getElem?_map] at hx
      cases hn : ns[i]? with
      | none => rw [hn] at hx; cases hx
      | some y =>
        rw [hn] at hx
        cases hx
        refine ⟨rfl, _, rfl, _, _, rfl, rfl, (by show (0 : Int) < 1000003; decide), _, e2, ?_, ?_, ?_⟩
        · rw [List.length_map, List.length_take]
          exact small1000 (by omega)
        · intro b o e
          rw [upd_ne (ne_of_none e n5)]
          exact e1 _ _ e
        · rw [upd_same, List.take_add_one, hn, List.map_append]
          rfl
    · obtain ⟨e1, e2⟩ := z
      have l1 : (ns.map V.int).length = ns.length := List.length_map _
      rw [l1, List.take_length] at e2
      have t5 : Same H H5 := (t3.trans s4).trans e1
      refine ⟨p5, ns.map fun z => z % 1000003, rfl, .inl (.inl ?_), .ref a, rfl, 63, rfl, a, _, rfl, t5.seq hS, fun p6 H6 n6 s6 g6 => ?_⟩
      · rw [e2, List.map_map]
        rfl
      refine ⟨p6, _, rfl, .inl (.inl (.inl g6)), _, _, rfl, rfl, .inl (by decide), _, _, rfl, rfl, (by show 3 ≤ sizeLine; decide), fun d H7 n7 s7 g7 => ?_⟩
      have t37 : Same H3 H7 := ((s4.trans e1).trans s6).trans s7
      have hl : H7 l = some (.lst (ns.reverse.map V.int)) := t37 _ _ g3
      exact q d l H7 (((t5.trans s6)).trans s7) ⟨ne_of g7 hl (by intro z; cases hns : ns.reverse with
        | nil => rw [hns] at z; cases z
        | cons y r => rw [hns] at z; cases z), _, _, _, g7, hl, by rw [List.length_reverse]; exact hlen⟩

theorem ok_law_draw {f : Addr} {fd : FuncData} (F : Fun K "_law_draw" "_law_draw" s_law_draw f fd) (T : Bt mg) :
    FnG P w K mg base CX0 1 f fd ["_law_deck_here", "_law_most"] spDraw := by
  refine okG (k := 0) F sc_law_draw (fun vs H Q E h => ?_) (fun cdv A outer s H vs Q E hr h => ?_)
  · obtain ⟨d, l, m, rfl, _⟩ := h
    rfl
  · obtain ⟨d, l, m, rfl, hm, hm2, D, q⟩ := h
    refine ⟨_, (pss_cons (ps_asg (pe_op op_add (pe_ix ix_list (pv 0) pe_int (fun _ _ => rfl)) pe_int) (pg_sub (pv 0) pe_int set_list))
      (pss_cons (ps_set (i := 2) sc_law_draw.nd rfl (.inl rfl) (pe_ix ix_list (pv 0) pe_int (fun _ _ => rfl)))
      (cutS (ps_if (pt_cmpR (op_neD hr.room.units) (pe_ix ix_list (pv 0) pe_int (fun _ _ => rfl)) (lstN pa_nil) (nomark _)) (pss_cons (ps_set (i := 2) sc_law_draw.nd rfl (.inl rfl) (pe_bm0 PySem.F.plainAttrs_list PySem.F.slot_list_pop PySem.F.type_list_pop mt_pop (pe_ix ix_list (pv 0) pe_int (fun _ _ => rfl))))
      (pss_one (ps_if (pt_cmpR op_ge (pv 2) (pe_op op_pow pe_int pe_int) (nomark _)) (pss_cons (ps_expr (pe_bm PySem.F.plainAttrs_list PySem.F.slot_list_append PySem.F.type_list_append mt_append (pe_ix ix_list (pv 0) pe_int (fun _ _ => rfl)) (pa_cons (pe_op op_fdivW (pv 2) (pv 1)) pa_nil)))
      (pss_one (ps_ret (pe_op op_mod (pv 2) (pv 1))))) pss_nil))) pss_nil)
      (pss_cons (ps_set (i := 3) sc_law_draw.nd rfl (.inl rfl) (pe_op op_mod (pe_op op_mul (pe_op op_add (pe_op op_add (pe_op op_mod (pv 2) pe_int) (pe_op op_mul pe_int (pe_ix ix_list (pv 0) pe_int (fun _ _ => rfl)))) pe_int) pe_int) pe_int))
      (pss_cons (ps_set (i := 3) sc_law_draw.nd rfl (.inl rfl) (pe_op op_mod (pe_op op_add (pe_op op_add (pe_op op_mul (pv 3) (pv 3)) (pe_op op_mul pe_int (pe_ix ix_list (pv 0) pe_int (fun _ _ => rfl)))) pe_int) pe_int))
      (pss_one (ps_ret (pe_op op_mod (pe_op op_fdiv (pe_op op_mod (pe_op op_add (pe_op op_mul (pv 3) (pv 3)) pe_int) pe_int) pe_int) (pv 1))))))))), ?_⟩
    obtain ⟨ns, s0, c, h1, h2, h3⟩ := D.ex
    have dl := D.ne
    -- deck[2] = deck[2] + 1
    refine ⟨.ref d, rfl, d, _, 2, .int c, rfl, rfl, .inl (.inl h1), rfl, c, 1, rfl, rfl, .ref d, rfl, d, _, 2, 2, rfl, rfl, h1, rfl, ?_⟩
    generalize hU : upd H d (.lst ([V.ref l, .int s0, .int c].set 2 ((fun i j => V.int (i + j)) c 1))) = H1
    have g1 : H1 d = some (.lst [.ref l, .int s0, .int (c + 1)]) := by rw [← hU]; exact upd_same
    have g2 : H1 l = some (.lst (ns.map V.int)) := by rw [← hU, upd_ne dl.symm]; exact h2
    have g3 : ∀ b o, b ≠ d → b ≠ l → H b = some o → H1 b = some o := fun b o e1 _ e2 => by rw [← hU, upd_ne e1]; exact e2
    clear hU
    have fin : ∀ (ms : List Int) (H2 : Hp), ms.length ≤ 63 → H2 d = some (.lst [.ref l, .int s0, .int (c + 1)]) → H2 l = some (.lst (ms.map V.int)) →
        (∀ b o, b ≠ d → b ≠ l → H b = some o → Keep (H2 b) o) → Step d l H H2 := fun ms H2 e1 e2 e3 e4 => ⟨⟨dl, ms, s0, c + 1, e2, e3, e1⟩, fun b o e => by
          obtain ⟨n1, n2, n3⟩ := hide_at e
          rw [hide_ne n1 n2]
          exact e4 b o n1 n2 n3⟩
    -- cell = deck[1]
    refine ⟨.ref d, rfl, d, _, 1, .int s0, rfl, rfl, .inl (.inl g1), rfl, ?_⟩
    refine ⟨fun σ' H' => ∃ (cell : Int) (y : Option V) (ms : List Int), σ' = [some (.ref d), some (.int m), some (.int cell), y] ∧ ms.length ≤ 63 ∧
      H' d = some (.lst [.ref l, .int s0, .int (c + 1)]) ∧ H' l = some (.lst (ms.map V.int)) ∧ (∀ b o, b ≠ d → b ≠ l → H b = some o → Keep (H' b) o), ?_, ?_⟩
    · -- if deck[0] != []
      refine ⟨.ref d, rfl, d, _, 0, .ref l, rfl, rfl, .inl (.inl g1), rfl, Nat.zero_le _, fun pe HE ne se ge => ?_⟩
      have h1E := se _ _ g1
      have h2E := se _ _ g2
      have h3E : ∀ b o, b ≠ d → b ≠ l → H b = some o → Keep (HE b) o := fun b o e1 e2 e3 => se _ _ (g3 b o e1 e2 e3)
      refine ⟨_, _, .lst (.inl (.inl h2E)) (dpInts ns), .lst (.inl (.inl ge)) .nil, shapedInts ns, rfl, _, rfl, ?_⟩
      show if (!PyData.eqv (.list (ns.map PyData.int)) (.list [])) = true then _ else _
      rw [eqvNil]
      refine ite2 (fun e => ?_) (fun e => ?_)
      · have h0 : ns ≠ [] := fun z => by subst z; exact absurd e (by decide)
        obtain ⟨z, hz⟩ : ∃ z, ns[ns.length - 1]? = some z := by
          have : ns.length - 1 < ns.length := by cases ns with
            | nil => exact absurd rfl h0
            | cons a b => simp
          exact ⟨_, List.getElem?_eq_getElem this⟩
        -- cell = deck[0].pop()
        refine ⟨.ref d, rfl, d, _, 0, .ref l, rfl, rfl, .inl (.inl h1E), rfl, .inl ⟨rfl, _, .inl (.inl h2E)⟩, l, _, .int z, rfl, rfl, h2E, ?_, ?_⟩
        · rw [List.length_map, List.getElem?_map, hz]
          rfl
        have k1 : ns.dropLast.length < 63 := by
          rw [List.length_dropLast]
          have : ns.length ≠ 0 := fun z => h0 (List.length_eq_zero_iff.mp z)
          omega
        generalize hU : upd HE l (.lst (ns.map V.int).dropLast) = H2
        have u1 : H2 d = some (.lst [.ref l, .int s0, .int (c + 1)]) := by rw [← hU, upd_ne dl]; exact h1E
        have u2 : H2 l = some (.lst (ns.dropLast.map V.int)) := by rw [← hU, upd_same, dropLast_map]
        have u3 : ∀ b o, b ≠ d → b ≠ l → H b = some o → Keep (H2 b) o := fun b o e1 e2 e3 => by rw [← hU, upd_ne e2]; exact h3E b o e1 e2 e3
        clear hU
        refine ⟨.int z, rfl, _, _, rfl, rfl, ⟨by decide, by decide, by decide⟩, _, _, rfl, rfl, _, rfl, ite2 (fun e2 => ?_) (fun e2 => ?_)⟩
        · -- deck[0].append(cell // most); return cell % most
          refine ⟨.ref d, rfl, d, _, 0, .ref l, rfl, rfl, .inl (.inl u1), rfl, .inl ⟨rfl, _, .inl (.inl u2)⟩, .int z, rfl, .int m, rfl, _, _, rfl, rfl,
            wide_div (b := 64) hm (by omega) (by decide) (by decide), l, _, _, rfl, rfl, u2, ?_, ?_⟩
          · rw [List.length_map]
            exact small1000 (by omega)
          refine ⟨.int z, rfl, .int m, rfl, _, _, rfl, rfl, hm, q _ _ (Int.emod_nonneg _ (by omega)) (Int.emod_lt_of_pos _ hm) (fin (ns.dropLast ++ [z / m]) _ ?_ ?_ ?_ ?_)⟩
          · rw [List.length_append]; show _ + 1 ≤ 63; omega
          · rw [upd_ne dl]; exact u1
          · rw [upd_same, List.map_append]; rfl
          · intro b o e1 e2 e3
            rw [upd_ne e2]; exact u3 b o e1 e2 e3
        · exact ⟨z, none, ns.dropLast, rfl, by omega, u1, u2, u3⟩
      · exact ⟨s0, none, ns, rfl, h3, h1E, h2E, h3E⟩
    · rintro σ' H' ⟨cell, y, ms, rfl, e1, e2, e3, e4⟩
      have S := fin ms H' e1 e2 e3 e4
      have eD : SqL K H' d [.ref l, .int s0, .int (c + 1)] := .inl (.inl e2)
      refine ⟨_, rfl, _, _, rfl, rfl, (by show (0 : Int) < 2147483629; decide), .ref d, rfl, d, _, 2, .int (c + 1), rfl, rfl, eD, rfl, _, _, rfl, rfl, .inl (by decide),
        _, _, rfl, rfl, _, _, rfl, rfl, _, _, rfl, rfl, .inr (by decide), _, _, rfl, rfl, (by show (0 : Int) < 2147483647; decide), ?_⟩
      refine ⟨_, rfl, _, rfl, _, _, rfl, rfl, .inl (modlt (by decide) (by decide)), .ref d, rfl, d, _, 2, .int (c + 1), rfl, rfl, eD, rfl, _, _, rfl, rfl, .inl (by decide),
        _, _, rfl, rfl, _, _, rfl, rfl, _, _, rfl, rfl, (by show (0 : Int) < 2147483587; decide), ?_⟩
      refine ⟨_, rfl, _, rfl, _, _, rfl, rfl, .inl (modlt (by decide) (by decide)), _, _, rfl, rfl, _, _, rfl, rfl, (by show (0 : Int) < 2147483563; decide),
        _, _, rfl, rfl, ⟨by decide, by decide⟩, .int m, rfl, _, _, rfl, rfl, hm, q _ _ (Int.emod_nonneg _ (by omega)) (Int.emod_lt_of_pos _ hm) S⟩

end

section
variable {P : Program} {w : World} {K : PySem.W.Frag} {mg : Str → Option Value} {base : Heap}

theorem okgreatest_parting {f : Addr} {fd : FuncData} (F : Fun K "greatest_parting" "greatest_parting" sgreatest_parting f fd) (T : Bt mg) :
    FnG P w K mg base CX0 1 f fd ["n", "m"] spGp := by
  refine okG (k := 0) F scgreatest_parting (fun vs H Q E h => ?_) (fun cdv A outer s H vs Q E hr h => ?_)
  · obtain ⟨n, m, rfl, _⟩ := h
    rfl
  · obtain ⟨n, m, rfl, q⟩ := h
    refine ⟨_, (pss_cons (ps_par (i := 0) (j := 1) (by rfl) scgreatest_parting.nd rfl rfl (by decide) rfl rfl (pa_cons (pe_callB call_abs (by rfl) T.abs (by decide +kernel) (pa_cons (pv 0) pa_nil)) (pa_cons (pe_callB call_abs (by rfl) T.abs (by decide +kernel) (pa_cons (pv 1) pa_nil)) pa_nil)) (by rfl))
      (pss_cons (ps_while PassesOwn.never (pt_cmpR op_gt (pv 1) pe_int (nomark _)) (pss_one (ps_par (i := 0) (j := 1) (by rfl) scgreatest_parting.nd rfl rfl (by decide) rfl rfl (pa_cons (pv 1) (pa_cons (pe_op op_mod (pv 0) (pv 1)) pa_nil)) (by rfl))))
      (pss_one (ps_ret (pv 0))))), ?_⟩
    refine ⟨_, rfl, _, rfl, _, rfl, _, rfl, _, _, rfl, ?_⟩
    have e1 : (if n < 0 then -n else n) = (n.natAbs : Int) := by split <;> omega
    have e2 : (if m < 0 then -m else m) = (m.natAbs : Int) := by split <;> omega
    refine while_by (fun σ H' => ∃ a b : Nat, σ = [some (.int a), some (.int b)] ∧ H' = H ∧ Nat.gcd a b = Int.gcd n m) (fun σ _ => match σ with | [_, some (.int b)] => b.toNat | _ => 0) ?_ ?_ ?_
    · refine ⟨n.natAbs, m.natAbs, ?_, rfl, rfl⟩
      show [some (V.int (if n < 0 then -n else n)), some (.int (if m < 0 then -m else m))] = _
      rw [e1, e2]
    · rintro σ H' ⟨a, b, rfl, rfl, hg⟩
      refine ⟨_, rfl, _, _, rfl, rfl, _, rfl, ite2 (fun e => ?_) (fun e => ?_)⟩
      · have hb : 0 < b := by have := of_decide_eq_true e; omega
        refine ⟨_, rfl, _, rfl, _, rfl, _, _, rfl, rfl, (by omega), _, _, rfl, ⟨b, a % b, rfl, rfl, ?_⟩, ?_⟩
        · rw [← hg, Nat.gcd_comm b, ← Nat.gcd_rec, Nat.gcd_comm]
        · show ((a : Int) % (b : Int)).toNat < (b : Int).toNat
          have := Nat.mod_lt a hb
          omega
      · have hb : b = 0 := by
          have : ¬ (0 : Int) < b := fun z => e (decide_eq_true z)
          omega
        subst hb
        rw [Nat.gcd_zero_right] at hg
        rw [← hg] at q
        exact ⟨_, rfl, q⟩
    · rintro σ H1 Q1 Q2 hq ⟨v, h1, i, j, h2, h3, k, h4, h5⟩
      exact ⟨v, h1, i, j, h2, h3, k, h4, hq _ _ h5⟩

theorem oknearest {f : Addr} {fd : FuncData} (F : Fun K "nearest" "nearest" snearest f fd) (T : Bt mg) :
    FnG P w K mg base CX0 1 f fd ["n", "d"] spNear := by
  refine okG (k := 0) F scnearest (fun vs H Q E h => ?_) (fun cdv A outer s H vs Q E hr h => ?_)
  · obtain ⟨n, d, rfl, _⟩ := h
    rfl
  · obtain ⟨n, d, rfl, h0, h1, q⟩ := h
    refine ⟨_, (pss_one (ps_ret (pe_op op_fdivW (pe_op op_add (pe_op op_mul pe_int (pv 0)) (pv 1)) (pe_op op_mul pe_int (pv 1))))), ?_⟩
    exact ⟨_, rfl, _, _, rfl, rfl, .inl (by decide), _, rfl, _, _, rfl, rfl, _, rfl, _, _, rfl, rfl, .inl (by decide), _, _, rfl, rfl, wide_div (b := 64) (by omega) (by omega) (by decide) (by decide), q⟩

theorem okrims_of {f : Addr} {fd : FuncData} (F : Fun K "rims_of" "rims_of" srims_of f fd) (T : Bt mg) :
    FnG P w K mg base CX0 1 f fd ["grain", "number"] (spRims K) := by
  refine okG (k := 0) F scrims_of (fun vs H Q E h => ?_) (fun cdv A outer s H vs Q E hr h => ?_)
  · obtain ⟨g, n, rfl, _⟩ := h
    rfl
  · obtain ⟨g, n, rfl, h0, h1, q⟩ := h
    refine ⟨_, (pss_one (ps_ret (tupN (pa_cons (pe_op op_mul (pe_op op_sub (pe_op op_mul pe_int (pv 1)) pe_int) (pv 0)) (pa_cons (pe_op op_mul (pe_op op_add (pe_op op_mul pe_int (pv 1)) pe_int) (pv 0)) pa_nil))))), ?_⟩
    refine ⟨_, rfl, _, _, rfl, rfl, .inl (by decide), _, _, rfl, rfl, _, rfl, _, _, rfl, rfl, .inr (by omega), _, rfl, _, _, rfl, rfl, .inl (by decide), _, _, rfl, rfl, _, rfl, _, _, rfl, rfl, .inr (by omega), (by show 2 ≤ sizeLine; decide), ?_⟩
    exact fun p H1 n s e => q p H1 n s e

theorem okspot_of {f : Addr} {fd : FuncData} (F : Fun K "spot_of" "spot_of" sspot_of f fd) (T : Bt mg) (Dgreatest_parting : Def P w K mg base 1 "greatest_parting" ["n", "m"] spGp) :
    FnG P w K mg base CX0 2 f fd ["n", "m", "d"] spSpotOf := by
  refine okG (k := 1) F scspot_of (fun vs H Q E h => ?_) (fun cdv A outer s H vs Q E hr h => ?_)
  · obtain ⟨n, m, d, rfl, _⟩ := h
    rfl
  · obtain ⟨n, m, d, rfl, h0, h1, q⟩ := h
    refine ⟨_, (pss_cons (ps_set (i := 3) scspot_of.nd rfl (.inl rfl) (callD Dgreatest_parting (hr.mono (by decide)) (pa_cons (callD Dgreatest_parting (hr.mono (by decide)) (pa_cons (pv 0) (pa_cons (pv 1) pa_nil))) (pa_cons (pv 2) pa_nil))))
      (cutS (ps_if (pt_cmpR op_lt (pv 2) pe_int (nomark _)) (pss_one (ps_set (i := 3) scspot_of.nd rfl (.inl rfl) (pe_un un_neg (pv 3)))) pss_nil)
      (pss_one (ps_ret (tupN (pa_cons (pe_op op_fdivX (pv 0) (pv 3)) (pa_cons (pe_op op_fdivX (pv 1) (pv 3)) (pa_cons (pe_op op_fdivX (pv 2) (pv 3)) pa_nil)))))))), ?_⟩
    refine ⟨_, rfl, _, rfl, n, m, rfl, _, rfl, _, d, rfl, ?_⟩
    obtain ⟨v1, v2, v3⟩ := spP_dvd n m d
    rw [← Int.fdiv_eq_ediv_of_dvd v1, ← Int.fdiv_eq_ediv_of_dvd v2, ← Int.fdiv_eq_ediv_of_dvd v3] at q
    have hd : CDivX n (spP n m d) := by
      refine ⟨spP_ne h0, ?_⟩
      have a1 := gpar_le (n := n) (m := m) h0
      have a2 := gpar_pos (n := n) (m := m) h0
      have a3 : (spP n m d).natAbs < 2 ^ 200 := by unfold spP; split <;> omega
      have := PySem.Flt.log2_lt_of (show 0 < 200 by decide) a3
      omega
    refine ⟨fun σ' H' => σ' = [some (.int n), some (.int m), some (.int d), some (.int (spP n m d))] ∧ H' = H, ?_, ?_⟩
    · refine ⟨_, rfl, _, _, rfl, rfl, _, rfl, ite2 (fun e => ?_) (fun e => ?_)⟩
      · have e' := of_decide_eq_true e
        refine ⟨_, rfl, _, rfl, ?_, rfl⟩
        unfold spP
        rw [if_pos e']
        rfl
      · have e' : ¬ d < 0 := fun z => e (decide_eq_true z)
        refine ⟨?_, rfl⟩
        unfold spP
        rw [if_neg e']
        rfl
    · rintro σ' H' ⟨rfl, rfl⟩
      exact ⟨_, rfl, _, rfl, _, _, rfl, rfl, hd, _, rfl, _, rfl, _, _, rfl, rfl, hd, _, rfl, _, rfl, _, _, rfl, rfl, hd, (by show 3 ≤ sizeLine; decide), q⟩

theorem okstep_of {f : Addr} {fd : FuncData} (F : Fun K "step_of" "step_of" sstep_of f fd) (T : Bt mg) :
    FnG P w K mg base CX0 1 f fd ["line"] (spStep K) := by
  refine okG (k := 0) F scstep_of (fun vs H Q E h => ?_) (fun cdv A outer s H vs Q E hr h => ?_)
  · obtain ⟨v, l, rfl, _⟩ := h
    rfl
  · obtain ⟨_, l, rfl, ⟨a, _, _, rfl, hS, ⟨b, rfl, hb⟩, ⟨c, rfl, hc⟩⟩, q⟩ := h
    refine ⟨_, (pss_cons (ps_asg (pv 0) (pg_tup (by rfl) (pgs_cons (pg_tup (by rfl) (pgs_cons (pg_name (i := 1) scstep_of.nd rfl (.inl rfl)) (pgs_cons (pg_name (i := 2) scstep_of.nd rfl (.inl rfl)) pgs_nil))) (pgs_cons (pg_tup (by rfl) (pgs_cons (pg_name (i := 3) scstep_of.nd rfl (.inl rfl)) (pgs_cons (pg_name (i := 4) scstep_of.nd rfl (.inl rfl)) pgs_nil))) pgs_nil))))
      (pss_one (ps_ret (tupN (pa_cons (pe_op op_sub (pv 3) (pv 1)) (pa_cons (pe_op op_sub (pv 4) (pv 2)) pa_nil)))))), ?_⟩
    refine ⟨_, rfl, a, _, rfl, hS, rfl, _, _, rfl, b, _, rfl, hb, rfl, _, _, rfl, _, _, rfl, rfl, _, _, rfl, c, _, rfl, hc, rfl, _, _, rfl, _, _, rfl, rfl, rfl, ?_⟩
    exact ⟨_, rfl, _, rfl, _, _, rfl, rfl, _, rfl, _, rfl, _, _, rfl, rfl, (by show 2 ≤ sizeLine; decide), fun p H1 n s e => q _ _ s ⟨p, rfl, .inl (.inl e)⟩⟩

theorem okspot_at {f : Addr} {fd : FuncData} (F : Fun K "spot_at" "spot_at" sspot_at f fd) (T : Bt mg) (Dstep_of : Def P w K mg base 1 "step_of" ["line"] (spStep K)) (Dspot_of : Def P w K mg base 2 "spot_of" ["n", "m", "d"] spSpotOf) :
    FnG P w K mg base CX0 3 f fd ["line", "k", "m"] (spSpotAt K) := by
  refine okG (k := 2) F scspot_at (fun vs H Q E h => ?_) (fun cdv A outer s H vs Q E hr h => ?_)
  · obtain ⟨v, l, k, m, rfl, _⟩ := h
    rfl
  · obtain ⟨_, l, kk, m, rfl, hL, bl, hm, hm2, q⟩ := h
    refine ⟨_, (pss_cons (ps_asg (pe_ix ix_tup (pv 0) pe_int (fun _ _ => rfl)) (pg_tup (by rfl) (pgs_cons (pg_name (i := 3) scspot_at.nd rfl (.inl rfl)) (pgs_cons (pg_name (i := 4) scspot_at.nd rfl (.inl rfl)) pgs_nil))))
      (pss_cons (ps_asg (callD Dstep_of (hr.mono (by decide)) (pa_cons (pv 0) pa_nil)) (pg_tup (by rfl) (pgs_cons (pg_name (i := 5) scspot_at.nd rfl (.inl rfl)) (pgs_cons (pg_name (i := 6) scspot_at.nd rfl (.inl rfl)) pgs_nil))))
      (pss_one (ps_ret (callD Dspot_of (hr.mono (by decide)) (pa_cons (pe_op op_add (pe_op op_mul (pv 2) (pv 3)) (pe_op op_mul (pv 1) (pv 5))) (pa_cons (pe_op op_add (pe_op op_mul (pv 2) (pv 4)) (pe_op op_mul (pv 1) (pv 6))) (pa_cons (pv 2) pa_nil)))))))), ?_⟩
    obtain ⟨⟨x1, x2⟩, x3, x4⟩ := bl.1
    obtain ⟨⟨d1, d2⟩, d3, d4⟩ := bd_less bl.2 bl.1
    have hL0 := hL
    obtain ⟨a, x, y, rfl, hS, ⟨b, rfl, hb⟩, hy⟩ := hL
    refine ⟨_, rfl, a, _, 0, _, rfl, rfl, hS, rfl, b, _, rfl, hb, rfl, _, _, rfl, _, _, rfl, rfl, ?_⟩
    refine ⟨_, rfl, _, l, rfl, hL0, fun w1 H1 s1 e1 => ?_⟩
    obtain ⟨c, rfl, hc⟩ := e1
    refine ⟨c, _, rfl, hc, rfl, _, _, rfl, _, _, rfl, rfl, ?_⟩
    exact ⟨_, rfl, _, rfl, _, _, rfl, rfl, .inr (by omega), _, rfl, _, rfl, _, _, rfl, rfl, .inr (by omega), _, _, rfl, rfl, _, rfl, _, rfl, _, _, rfl, rfl, .inr (by omega), _, rfl, _, rfl, _, _, rfl, rfl, .inr (by omega), _, _, rfl, rfl, _, rfl,
      _, _, m, rfl, hm, hm2, fun p H2 n2 s2 e2 => q _ _ (s1.trans s2) ⟨p, rfl, .inl (.inl e2)⟩⟩

theorem okcorner_at {f : Addr} {fd : FuncData} (F : Fun K "corner_at" "corner_at" scorner_at f fd) (T : Bt mg) (Dnearest : Def P w K mg base 1 "nearest" ["n", "d"] spNear) :
    FnG P w K mg base CX0 2 f fd ["grain", "spot"] (spCornerAt K) := by
  refine okG (k := 1) F sccorner_at (fun vs H Q E h => ?_) (fun cdv A outer s H vs Q E hr h => ?_)
  · obtain ⟨g, v, s, rfl, _⟩ := h
    rfl
  · obtain ⟨g, _, ⟨n, m, d⟩, rfl, ⟨a, rfl, hS⟩, h0, h1, h2, h3, q⟩ := h
    refine ⟨_, (pss_cons (ps_asg (pv 1) (pg_tup (by rfl) (pgs_cons (pg_name (i := 2) sccorner_at.nd rfl (.inl rfl)) (pgs_cons (pg_name (i := 3) sccorner_at.nd rfl (.inl rfl)) (pgs_cons (pg_name (i := 4) sccorner_at.nd rfl (.inl rfl)) pgs_nil)))))
      (pss_one (ps_ret (tupN (pa_cons (callD Dnearest (hr.mono (by decide)) (pa_cons (pv 2) (pa_cons (pe_op op_mul (pv 4) (pv 0)) pa_nil))) (pa_cons (callD Dnearest (hr.mono (by decide)) (pa_cons (pv 3) (pa_cons (pe_op op_mul (pv 4) (pv 0)) pa_nil))) pa_nil)))))), ?_⟩
    have h4 : 0 < d * g := Int.mul_pos h2 h0
    refine ⟨.ref a, rfl, a, _, rfl, hS, rfl, _, _, rfl, _, _, rfl, _, _, rfl, rfl, ?_⟩
    exact ⟨_, rfl, _, rfl, _, rfl, _, _, rfl, rfl, .inr (by omega), n, d * g, rfl, h4, h3, _, rfl, _, rfl, _, rfl, _, _, rfl, rfl, .inr (by omega), m, d * g, rfl, h4, h3, (by show 2 ≤ sizeLine; decide), fun p H1 n1 s1 e1 => q _ _ s1 ⟨p, rfl, .inl (.inl e1)⟩⟩

end
end Cl

set_option maxHeartbeats 0
namespace Cl
open PySem PySem.Spec PyProof.Rows L2
open GxR (TabB TabG)


/-- a paper: a word and whole numbers -/
def Pap (K : PySem.W.Frag) (H : Hp) (v : V) (wd : Str) (ns : List Int) : Prop := ∃ a, v = .ref a ∧ SqT K H a (.str wd :: ns.map V.int)
theorem Pap.same {K : PySem.W.Frag} {H H' : Hp} {v : V} {wd : Str} {ns : List Int} (h : Pap K H v wd ns) (s : Same H H') : Pap K H' v wd ns := by
  obtain ⟨a, e, h⟩ := h
  exact ⟨a, e, seT s h⟩
def spPaper (K : PySem.W.Frag) (P : Addr) : Sp := fun vs H Q _ => ∃ v w m wd ns, vs = [v, .str w, .int m] ∧ TabG H P ∧ Pap K H v wd ns ∧ ns.length ≤ 9 ∧ SeqAt.shaped (.tuple [.str wd]) = true ∧ SeqAt.shaped (.tuple [.str w]) = true ∧ ∀ H', Same H H' → Q (.bl (decide (wd = w) && decide ((ns.length : Int) = m))) H'
theorem eqv_str1 (a b : Str) : PyData.eqv (.tuple [.str a]) (.tuple [.str b]) = decide (a = b) := by
  rw [Bool.eq_iff_iff]
  simp [PyData.eqv, PyData.eqvAll]
theorem wholes_ints (ns : List Int) (m : Int) : wholes (some (ns.map V.int)) m = decide ((ns.length : Int) = m) := by
  show (decide (((ns.map V.int).length : Int) = m) && (ns.map V.int).all isI) = _
  rw [List.length_map, show (ns.map V.int).all isI = true from List.all_eq_true.mpr fun x hx => by
    obtain ⟨i, _, rfl⟩ := List.mem_map.mp hx
    rfl, Bool.and_true]
theorem th_ints {K : PySem.W.Frag} {H : Hp} {a : Addr} {ns : List Int} (h : SqT K H a (ns.map V.int)) : Th K H (.ref a) (some (ns.map V.int)) :=
  ⟨a, rfl, h, fun x hx => by
    obtain ⟨i, _, rfl⟩ := List.mem_map.mp hx
    exact ⟨_, .int i⟩⟩
def spShareQ : Sp := fun vs H Q _ => ∃ k m : Int, vs = [.int k, .int m] ∧ Q (.bl (decide (1 ≤ m) && (decide (0 ≤ k) && decide (k ≤ m)))) H


def shQ (k m : Int) : Bool := decide (1 ≤ m) && (decide (0 ≤ k) && decide (k ≤ m))
theorem shQ_iff {k m : Int} : shQ k m = true ↔ 1 ≤ m ∧ 0 ≤ k ∧ k ≤ m := by
  unfold shQ
  simp
/-- the greater one of p * L and p * U -/
def gr1 (p l u : Int) : Int := if 0 < p then p * u else p * l
def grt (g : Int) (c : Pt) (p q : Int) : Int := gr1 p (rimL g c.1) (rimH g c.1) + gr1 q (rimL g c.2) (rimH g c.2)
def BdG (g : Int) (c : Pt) : Prop := 0 < g ∧ g ≤ 1000 ∧ BdN 3000000 c
def spGreat (K : PySem.W.Frag) : Sp := fun vs H Q _ => ∃ g u c p q, vs = [.int g, u, .int p, .int q] ∧ At2 K H u c ∧ BdG g c ∧ ∀ H', Same H H' → Q (.int (grt g c p q)) H'
def keepB (g : Int) (c : Pt) (p q r : Int) : Bool := decide (grt g c p q < r) || (decide (grt g c p q = r) && (decide (0 < p) || decide (0 < q)))
def spKeeps (K : PySem.W.Frag) : Sp := fun vs H Q _ => ∃ g u c p q r, vs = [.int g, u, .int p, .int q, .int r] ∧ At2 K H u c ∧ BdG g c ∧ ∀ H', Same H H' → Q (.bl (keepB g c p q r)) H'
theorem rim_lt {g n : Int} (h0 : 0 < g) : rimL g n < rimH g n := by
  unfold rimL rimH
  rw [show (2 * n + 1) = (2 * n - 1) + 2 by omega, Int.add_mul]
  omega
theorem gr1_max {p l u : Int} (h : l < u) : p * l ≤ gr1 p l u ∧ p * u ≤ gr1 p l u ∧ (gr1 p l u = p * l ∨ gr1 p l u = p * u) := by
  unfold gr1
  split
  · rename_i hp
    have := Int.mul_le_mul_of_nonneg_left (Int.le_of_lt h) (Int.le_of_lt hp)
    exact ⟨this, Int.le_refl _, .inr rfl⟩
  · rename_i hp
    have := Int.mul_le_mul_of_nonpos_left (show p ≤ 0 by omega) (Int.le_of_lt h)
    exact ⟨Int.le_refl _, this, .inl rfl⟩

section
variable {P : Program} {w : World} {K : PySem.W.Frag} {mg : Str → Option Value} {base : Heap}

theorem qw_is_whole {f : Addr} {fd : FuncData} (F : Fun K "is_whole" "is_whole" sis_whole f fd) (T : Bt mg) (b : Binds K fd ["thing"] []) : QW P w K mg f :=
  qw_of (k := 0) F scis_whole rfl rfl rfl rfl T.isinstance T.int T.bool rfl b

theorem okare_wholes {f c Pt : Addr} {fd : FuncData} (F : Fun K "are_wholes" "are_wholes" sare_wholes f fd) (hc : fd.code = .ref c) (TB : GxR.TabB base mg c Pt) (T : Bt mg) {fw : Addr} (W : QW P w K mg fw) (hW : mg "is_whole" = some (.ref fw)) (kW : PySem.W.keepIn K (.ref fw) = true) :
    FnG P w K mg base CX0 3 f fd ["thing", "many"] (spAre K Pt) := by
  refine okGT (k := 2) F hc scare_wholes (fun vs H Q E h => ?_) (fun A outer s H vs Q E hr h => ?_)
  · obtain ⟨v, m, u, rfl, _⟩ := h
    rfl
  · obtain ⟨v, m, u, rfl, hT, hv, q⟩ := h
    refine ⟨_, (pss_one (ps_ret (pe_and (pe_callB call_isi (by rfl) T.isinstance (by decide +kernel) (pa_cons (pv 0) (pa_cons (pe_bltn (v := .ty "tuple") (by rfl) T.tuple (by decide +kernel) rfl) pa_nil))) (pe_and (pe_cmpR op_eq (pe_callB call_len_seq (by rfl) T.len (by decide +kernel) (pa_cons (pv 0) pa_nil)) (pv 1) (nomark _)) (pe_one (pe_allW hr.room (roomD hr.room) (by rfl) T.all TB rfl W hW kW (pv 0) (genS rfl rfl (by decide +kernel) rfl rfl) rfl)))))), ?_⟩
    cases u with
    | none =>
      obtain ⟨U, hk, nt⟩ := hv
      refine ⟨_, rfl, _, _, _, _, _, rfl, .ty _, hk.ty, kit_ty hk.tuple?, _, rfl, ?_⟩
      rw [decide_eq_false nt]
      exact iteF (q _ (.refl _))
    | some xs =>
      obtain ⟨a, rfl, hS, hp⟩ := hv
      refine ⟨_, rfl, _, _, _, _, _, rfl, .ty _, (Kd.tup hS).ty, kit_ty (Kd.tup hS).tuple?, _, rfl, iteT ?_⟩
      refine ⟨_, rfl, a, _, rfl, .inr hS, _, rfl, rfl, _, rfl, ite2 (fun e => ?_) (fun e => ?_)⟩
      · have hw : wholes (some xs) m = (xs.map isI).all id := by
          show (decide ((xs.length : Int) = m) && xs.all isI) = _
          rw [show decide ((xs.length : Int) = m) = true from decide_eq_true (V.int.inj (of_decide_eq_true e)), Bool.true_and, List.all_map]
          rfl
        refine ⟨_, rfl, a, xs, xs.map isI, rfl, hS, by simp, fun i x b hx hb => ?_, trivial, hT, fun H2 s t => ?_⟩
        · obtain ⟨U, hk⟩ := hp x (List.mem_of_getElem? hx)
          refine ⟨U, hk, ?_⟩
          rw [List.getElem?_map, hx] at hb
          exact (Option.some.inj hb).symm
        · have := q H2 s
          rw [hw] at this
          exact this
      · have hw : wholes (some xs) m = false := by
          show (decide ((xs.length : Int) = m) && xs.all isI) = _
          rw [show decide ((xs.length : Int) = m) = false from decide_eq_false fun z => e (decide_eq_true (by rw [z])), Bool.false_and]
        have := q H (.refl _)
        rw [hw] at this
        exact this

theorem okis_paper {f Pt : Addr} {fd : FuncData} (F : Fun K "is_paper" "is_paper" sis_paper f fd) (T : Bt mg) (Dare_wholes : Def P w K mg base 3 "are_wholes" ["thing", "many"] (spAre K Pt)) :
    FnG P w K mg base CX0 4 f fd ["thing", "word", "many"] (spPaper K Pt) := by
  refine okG (k := 3) F scis_paper (fun vs H Q E h => ?_) (fun cdv A outer s H vs Q E hr h => ?_)
  · obtain ⟨v, w, m, wd, ns, rfl, _⟩ := h
    rfl
  · obtain ⟨v, w2, m, wd, ns, rfl, hT, hp, hl, sh1, sh2, q⟩ := h
    refine ⟨_, (pss_one (ps_ret (pe_and (pe_callB call_isi (by rfl) T.isinstance (by decide +kernel) (pa_cons (pv 0) (pa_cons (pe_bltn (v := .ty "tuple") (by rfl) T.tuple (by decide +kernel) rfl) pa_nil))) (pe_and (pe_cmpR (op_eqD hr.room.units) (pe_slice sl_tupB (pv 0) po_none (po_some pe_int)) (tupN (pa_cons (pv 1) pa_nil)) (nomark _)) (pe_one (callD Dare_wholes (hr.mono (by decide)) (pa_cons (pe_slice sl_tupB (pv 0) (po_some pe_int) po_none) (pa_cons (pv 2) pa_nil)))))))), ?_⟩
    obtain ⟨a, rfl, hS⟩ := hp
    refine ⟨_, rfl, _, _, _, _, _, rfl, .ty _, (Kd.tup hS).ty, kit_ty (Kd.tup hS).tuple?, _, rfl, iteT ?_⟩
    refine ⟨.ref a, rfl, _, rfl, a, _, rfl, hS, fun p1 H1 s1 e1 => ?_⟩
    rw [cut_first] at e1
    refine ⟨_, rfl, (by show 1 ≤ sizeLine; decide), fun p2 H2 n2 s2 e2 => ?_⟩
    refine ⟨.tuple [.str wd], .tuple [.str w2], .tup (seT s2 e1) (.cons (.str _) .nil), .tup (.inl (.inl e2)) (.cons (.str _) .nil), sh1, sh2, _, rfl, ?_⟩
    rw [eqv_str1]
    have S2 := s1.trans s2
    refine ite2 (fun e => ?_) (fun e => ?_)
    · refine ⟨.ref a, rfl, _, rfl, a, _, rfl, seT S2 hS, fun p3 H3 s3 e3 => ?_⟩
      rw [cut_rest] at e3
      refine ⟨_, rfl, .ref p3, m, some (ns.map V.int), rfl, (S2.trans s3).tab hT, th_ints e3, fun H4 s4 => ?_⟩
      rw [wholes_ints]
      have := q H4 (S2.trans (s3.trans s4))
      rw [of_decide_eq_true e, decide_eq_true rfl, Bool.true_and] at this
      exact this
    · have := q H2 S2
      rw [decide_eq_false (fun z => e (decide_eq_true z)), Bool.false_and] at this
      exact this

theorem okis_share {f : Addr} {fd : FuncData} (F : Fun K "is_share" "is_share" sis_share f fd) (T : Bt mg) :
    FnG P w K mg base CX0 1 f fd ["k", "m"] spShareQ := by
  refine okG (k := 0) F scis_share (fun vs H Q E h => ?_) (fun cdv A outer s H vs Q E hr h => ?_)
  · obtain ⟨k, m, rfl, _⟩ := h
    rfl
  · obtain ⟨k, m, rfl, q⟩ := h
    refine ⟨_, (pss_one (ps_ret (pe_and (pe_cmpR op_ge (pv 1) pe_int (nomark _)) (pe_one (pe_chain op_le op_le pe_int (pv 0) (pv 1)))))), ?_⟩
    refine ⟨_, rfl, _, _, rfl, rfl, _, rfl, ite2 (fun e => ?_) (fun e => ?_)⟩
    · rw [show decide (1 ≤ m) = true from e, Bool.true_and] at q
      refine ⟨_, rfl, _, _, rfl, rfl, _, rfl, ite2 (fun e => ?_) (fun e => ?_)⟩
      · rw [show decide (0 ≤ k) = true from e, Bool.true_and] at q
        exact ⟨_, rfl, _, _, rfl, rfl, q⟩
      · rw [show decide (0 ≤ k) = false from Bool.eq_false_iff.mpr e, Bool.false_and] at q
        exact q
    · have : ¬ (1 : Int) ≤ m := fun z => e (decide_eq_true z)
      rw [decide_eq_false this, Bool.false_and] at q
      exact q

theorem okgreatest_in {f : Addr} {fd : FuncData} (F : Fun K "greatest_in" "greatest_in" sgreatest_in f fd) (T : Bt mg) (Drims_of : Def P w K mg base 1 "rims_of" ["grain", "number"] (spRims K)) :
    FnG P w K mg base CX0 2 f fd ["grain", "corner", "p", "q"] (spGreat K) := by
  refine okG (k := 1) F scgreatest_in (fun vs H Q E h => ?_) (fun cdv A outer s H vs Q E hr h => ?_)
  · obtain ⟨g, u, c, p, q, rfl, _⟩ := h
    rfl
  · obtain ⟨g, _, c, p, q, rfl, ⟨a, rfl, hS⟩, bd, Q1⟩ := h
    refine ⟨_, (pss_cons (ps_asg (pv 1) (pg_tup (by rfl) (pgs_cons (pg_name (i := 4) scgreatest_in.nd rfl (.inl rfl)) (pgs_cons (pg_name (i := 5) scgreatest_in.nd rfl (.inr rfl)) pgs_nil))))
      (pss_one (ps_ret (pe_callB (cr_max rfl) (by rfl) T.max (by decide +kernel) (pa_cons (pe_lc2 (own := [("x", 6), ("y", 7)]) (vs1 := [7]) (g := gName 6) (g1 := gName 7) (tt := tYes) (tt1 := tYes) (by rfl) scgreatest_in.nd (pi_tup (callD Drims_of (hr.mono (by decide)) (pa_cons (pv 0) (pa_cons (pv 4) pa_nil)))) (blkOk_by (own := [("x", 6), ("y", 7)]) (N := ["grain", "corner", "p", "q", "i", "j", "x", "y"]) (sc := defScope sgreatest_in) (by decide +kernel)) (by decide) (fun _ _ _ _ _ => (pg_name (i := 6) scgreatest_in.nd rfl (.inl rfl))) (fun _ _ _ _ _ => pts_nil) (fun _ _ _ _ _ => (pi_tupk (K := K) rfl (callD Drims_of (hr.mono (by decide)) (pa_cons (pv 0) (pa_cons (pv 5) pa_nil))))) (fun _ _ _ _ _ => (pg_name (i := 7) scgreatest_in.nd rfl (.inl rfl))) (fun _ _ _ _ _ => pts_nil) (fun _ _ _ _ _ => (pe_op op_add (pe_op op_mul (pv 2) (pv 6)) (pe_op op_mul (pv 3) (pv 7))))) pa_nil))))), ?_⟩
    obtain ⟨h0, h1, ⟨⟨c1, c2⟩, c3, c4⟩⟩ := bd
    refine ⟨.ref a, rfl, a, _, rfl, hS, rfl, _, _, rfl, _, _, rfl, rfl, ?_⟩
    obtain ⟨x1, x2, x3, x4⟩ := rim_b h0 h1 c1 c2
    obtain ⟨y1, y2, y3, y4⟩ := rim_b h0 h1 c3 c4
    refine ⟨_, rfl, _, rfl, g, c.1, rfl, h0, by omega, fun pr H1 n1 s1 e1 => ⟨pr, rfl, ⟨_, .inl (.inl e1)⟩, fun pD nD => ?_⟩⟩
    have F0 : True := trivial
    refine genT (K := K) (a := pr) (xs := [rimL g c.1, rimH g c.1].map V.int) (fun i H' => Same H1 H' ∧ H' pD = some (.lst (((([rimL g c.1, rimH g c.1].take i).flatMap fun x => [rimL g c.2, rimH g c.2].map fun y => p * x + q * y)).map V.int))) ⟨same_new nD, upd_same⟩ (fun i H' _ z => by exact seT z.1 (.inl (.inl e1))) (fun i x H' hx z => ?_) (fun H' z => ?_)
    · obtain ⟨z1, z2⟩ := z
      obtain ⟨xx, hxx, rfl⟩ : ∃ xx, [rimL g c.1, rimH g c.1][i]? = some xx ∧ x = .int xx := by
        rw [List.getElem?_map] at hx
        cases hq : [rimL g c.1, rimH g c.1][i]? with
        | none => rw [hq] at hx; cases hx
        | some k => rw [hq] at hx; exact ⟨k, rfl, (Option.some.inj hx).symm⟩
      have bx : -(2 ^ 64) < xx ∧ xx < 2 ^ 64 := by
        have := List.mem_of_getElem? hxx
        simp only [List.mem_cons, List.not_mem_nil, or_false] at this
        rcases this with rfl | rfl <;> omega
      have hi : i < 2 := by
        have := (List.getElem?_eq_some_iff.mp hxx).1
        simpa using this
      refine ⟨rfl, _, rfl, _, rfl, g, c.2, rfl, h0, by omega, fun p2 H2 n2 s2 e2 => ⟨p2, rfl, ⟨_, .inl (.inl e2)⟩, ?_⟩⟩
      have zz := s2 _ _ z2
      have np : pD ≠ p2 := ne_of_none z2 n2
      refine genT (K := K) (a := p2) (xs := [rimL g c.2, rimH g c.2].map V.int) (fun j H' => Same H1 H' ∧ H' p2 = some (.tup [.int (rimL g c.2), .int (rimH g c.2)]) ∧ H' pD = some (.lst (((([rimL g c.1, rimH g c.1].take i).flatMap fun x => [rimL g c.2, rimH g c.2].map fun y => p * x + q * y) ++ ([rimL g c.2, rimH g c.2].take j).map fun y => p * xx + q * y).map V.int))) ⟨z1.trans s2, e2, by rw [zz, List.take_zero, List.map_nil, List.append_nil]⟩ (fun j H' _ z => .inl (.inl z.2.1)) (fun j y H' hy w => ?_) (fun H' w => ?_)
      · obtain ⟨w1, w2, w3⟩ := w
        obtain ⟨yy, hyy, rfl⟩ : ∃ yy, [rimL g c.2, rimH g c.2][j]? = some yy ∧ y = .int yy := by
          rw [List.getElem?_map] at hy
          cases hq : [rimL g c.2, rimH g c.2][j]? with
          | none => rw [hq] at hy; cases hy
          | some k => rw [hq] at hy; exact ⟨k, rfl, (Option.some.inj hy).symm⟩
        have by_ : -(2 ^ 64) < yy ∧ yy < 2 ^ 64 := by
          have := List.mem_of_getElem? hyy
          simp only [List.mem_cons, List.not_mem_nil, or_false] at this
          rcases this with rfl | rfl <;> omega
        refine ⟨rfl, _, rfl, _, rfl, _, _, rfl, rfl, .inr bx, _, rfl, _, rfl, _, _, rfl, rfl, .inr by_, _, _, rfl, rfl, _, w3, ?_, ?_, ?_, ?_⟩
        · rw [List.length_map, List.length_append, List.length_map, List.length_take]
          refine small1000 ?_
          obtain rfl | rfl : i = 0 ∨ i = 1 := by omega
          · simp; omega
          · simp; omega
        · exact fun b o z => by rw [upd_ne (ne_of_none z nD)]; exact w1 _ _ z
        · rw [upd_ne np.symm]; exact w2
        · rw [upd_same]
          simp [List.take_add_one, hyy]
      · obtain ⟨w1, w2, w3⟩ := w
        refine ⟨w1, ?_⟩
        rw [w3, List.take_add_one, hxx]
        simp [List.flatMap_append]
    · obtain ⟨z1, z2⟩ := z
      have z2 : H' pD = some (.lst ([p * rimL g c.1 + q * rimL g c.2, p * rimL g c.1 + q * rimH g c.2, p * rimH g c.1 + q * rimL g c.2, p * rimH g c.1 + q * rimH g c.2].map V.int)) := z2
      refine ⟨pD, _, rfl, .inl (.inl z2), by simp, fun m hm1 hm2 => ?_⟩
      have a1 := gr1_max (p := p) (rim_lt (n := c.1) h0)
      have a2 := gr1_max (p := q) (rim_lt (n := c.2) h0)
      have k1 := hm2 (p * rimL g c.1 + q * rimL g c.2) (by simp)
      have k2 := hm2 (p * rimL g c.1 + q * rimH g c.2) (by simp)
      have k3 := hm2 (p * rimH g c.1 + q * rimL g c.2) (by simp)
      have k4 := hm2 (p * rimH g c.1 + q * rimH g c.2) (by simp)
      have hm : m = grt g c p q := by
        unfold grt
        simp only [List.mem_cons, List.not_mem_nil, or_false] at hm1
        rcases a1.2.2 with e1 | e1 <;> rcases a2.2.2 with e2 | e2 <;> (rw [e1, e2]; rw [e1] at a1; rw [e2] at a2; rcases hm1 with z | z | z | z <;> omega)
      rw [hm]
      exact Q1 H' (s1.trans z1)

theorem okkeeps_below {f : Addr} {fd : FuncData} (F : Fun K "keeps_below" "keeps_below" skeeps_below f fd) (T : Bt mg) (Dgreatest_in : Def P w K mg base 2 "greatest_in" ["grain", "corner", "p", "q"] (spGreat K)) :
    FnG P w K mg base CX0 3 f fd ["grain", "corner", "p", "q", "r"] (spKeeps K) := by
  refine okG (k := 2) F sckeeps_below (fun vs H Q E h => ?_) (fun cdv A outer s H vs Q E hr h => ?_)
  · obtain ⟨g, u, c, p, q, r, rfl, _⟩ := h
    rfl
  · obtain ⟨g, u, c, p, q, r, rfl, hc, bd, Q1⟩ := h
    refine ⟨_, (pss_cons (ps_set (i := 5) sckeeps_below.nd rfl (.inl rfl) (callD Dgreatest_in (hr.mono (by decide)) (pa_cons (pv 0) (pa_cons (pv 1) (pa_cons (pv 2) (pa_cons (pv 3) pa_nil))))))
      (pss_one (ps_ret (pe_or (pe_cmpR op_lt (pv 5) (pv 4) (nomark _)) (pe_one (pe_and (pe_cmpR op_eq (pv 5) (pv 4) (nomark _)) (pe_one (pe_or (pe_cmpR op_gt (pv 2) pe_int (nomark _)) (pe_one (pe_cmpR op_gt (pv 3) pe_int (nomark _))))))))))), ?_⟩
    refine ⟨_, rfl, _, rfl, _, rfl, _, rfl, g, u, c, p, q, rfl, hc, bd, fun H1 s1 => ?_⟩
    have Q1 := Q1 H1 s1
    unfold keepB at Q1
    generalize grt g c p q = m at Q1
    refine ⟨_, rfl, _, rfl, _, _, rfl, rfl, _, rfl, ite2 (fun e => ?_) (fun e => ?_)⟩
    · rw [show decide (m < r) = true from e, Bool.true_or] at Q1
      exact Q1
    · rw [show decide (m < r) = false from Bool.eq_false_iff.mpr e, Bool.false_or] at Q1
      refine ⟨_, rfl, _, rfl, rfl, _, rfl, ite2 (fun e2 => ?_) (fun e2 => ?_)⟩
      · have e2 : m = r := V.int.inj (of_decide_eq_true e2)
        rw [decide_eq_true e2, Bool.true_and] at Q1
        refine ⟨_, rfl, _, _, rfl, rfl, _, rfl, ite2 (fun e3 => ?_) (fun e3 => ?_)⟩
        · rw [show decide (0 < p) = true from e3, Bool.true_or] at Q1
          exact Q1
        · rw [show decide (0 < p) = false from Bool.eq_false_iff.mpr e3, Bool.false_or] at Q1
          exact ⟨_, rfl, _, _, rfl, rfl, Q1⟩
      · have e2 : ¬ m = r := fun z => e2 (decide_eq_true (by rw [z]))
        rw [decide_eq_false e2, Bool.false_and] at Q1
        exact Q1

end
end Cl

set_option maxHeartbeats 0
namespace Cl
open PySem PySem.Spec PyProof.Rows L2
open GxR (TabB TabG)


def hoB (g : Int) (r : Ln) (c : Pt) (p q : Int) : Bool := (decide ((2 * c.1 - 1) * g * q ≤ 2 * (r.1.1 * q + (r.2.1 - r.1.1) * p)) && decide (2 * (r.1.1 * q + (r.2.1 - r.1.1) * p) < (2 * c.1 + 1) * g * q)) &&
  (decide ((2 * c.2 - 1) * g * q ≤ 2 * (r.1.2 * q + (r.2.2 - r.1.2) * p)) && decide (2 * (r.1.2 * q + (r.2.2 - r.1.2) * p) < (2 * c.2 + 1) * g * q))
theorem hoB_iff {g : Int} {r : Ln} {c : Pt} {p q : Int} : hoB g r c p q = true ↔ HOc g r c p q := by
  unfold hoB HOc HO1
  simp only [Bool.and_eq_true, decide_eq_true_iff]
def CB (_ _ _ : Int) (x : Int × Int) : Prop := (-(2 ^ 64) < x.1 ∧ x.1 < 2 ^ 64) ∧ -(2 ^ 64) < x.2 ∧ x.2 < 2 ^ 64
def ptsOf (l : Ln) : List (Int × Int) := [l.1, l.2]
def least (p q r : Int) (x : Int × Int) : Bool := decide (r ≤ 2 * (p * x.1 + q * x.2))
def isMet (g : Int) (r : Ln) (c : Pt) (wd : Str) : List Int → Bool
  | [k, m] => decide (wd = "meets") && (shQ k m && hoB g r c k m)
  | _ => false
def isMiss (g : Int) (r : Ln) (c : Pt) (wd : Str) : List Int → Bool
  | [p, q, t] => decide (wd = "misses") && (!decide (p = 0 ∧ q = 0) && (keepB g c p q t && (ptsOf r).all (least p q t)))
  | _ => false
theorem isMet_not {g : Int} {r : Ln} {c : Pt} {wd : Str} {ns : List Int} (h : ¬ (wd = "meets" ∧ ns.length = 2)) : isMet g r c wd ns = false := by
  unfold isMet
  split
  · rw [decide_eq_false (fun z => h ⟨z, rfl⟩), Bool.false_and]
  · rfl
theorem isMiss_not {g : Int} {r : Ln} {c : Pt} {wd : Str} {ns : List Int} (h : ¬ (wd = "misses" ∧ ns.length = 3)) : isMiss g r c wd ns = false := by
  unfold isMiss
  split
  · rw [decide_eq_false (fun z => h ⟨z, rfl⟩), Bool.false_and]
  · rfl
def B50 (ns : List Int) : Prop := ∀ n ∈ ns, n.natAbs < 2 ^ 50
def spMetQ (K : PySem.W.Frag) (P : Addr) : Sp := fun vs H Q _ => ∃ g v u w r c wd ns, vs = [.int g, v, u, w] ∧ TabG H P ∧ AtL K H v r ∧ At2 K H u c ∧ BdW g r c ∧ Pap K H w wd ns ∧ ns.length ≤ 9 ∧ (wd = "meets" → B50 ns) ∧ SeqAt.shaped (.tuple [.str wd]) = true ∧
  ∀ H', Same H H' → Q (.bl (isMet g r c wd ns)) H'
def spMissQ (K : PySem.W.Frag) (P P2 : Addr) : Sp := fun vs H Q _ => ∃ g v u w r c wd ns, vs = [.int g, v, u, w] ∧ TabG H P ∧ TabG H P2 ∧ AtL K H v r ∧ At2 K H u c ∧ BdW g r c ∧ Pap K H w wd ns ∧ ns.length ≤ 9 ∧ SeqAt.shaped (.tuple [.str wd]) = true ∧
  ∀ H', Same H H' → Q (.bl (isMiss g r c wd ns)) H'
def spHoldsC (K : PySem.W.Frag) (P P2 : Addr) : Sp := fun vs H Q _ => ∃ g v u w r c wd ns, vs = [.int g, v, u, w] ∧ TabG H P ∧ TabG H P2 ∧ AtL K H v r ∧ At2 K H u c ∧ BdW g r c ∧ Pap K H w wd ns ∧ ns.length ≤ 9 ∧ (wd = "meets" → B50 ns) ∧ SeqAt.shaped (.tuple [.str wd]) = true ∧
  ∀ H', Same H H' → Q (.bl (isMet g r c wd ns || isMiss g r c wd ns)) H'
section
variable {P : Program} {w : World}
theorem elt_least {scope : Scope} {q1 q2 q3 q4 q5 q6 q7 q8 q9 q10 q11 : Pos} {kk : Nat} (hk : scope.kind = .function) (h1 : scope.names.lookup ("p" : Str) = some NameKind.free) (h2 : scope.names.lookup ("q" : Str) = some NameKind.free) (h3 : scope.names.lookup ("r" : Str) = some NameKind.free) (h4 : scope.names.lookup ("x" : Str) = some NameKind.local) (h5 : scope.names.lookup ("y" : Str) = some NameKind.local) :
    EltP P w scope "x" "y" "p" "q" "r" (.Compare (.BinOp (.Constant (.int 2) kk q10) .Mult (.BinOp (.BinOp (.Name "p" q1) .Mult (.Name "x" q2) q3) .Add (.BinOp (.Name "q" q4) .Mult (.Name "y" q5) q6) q7) q11) [.GtE] [.Name "r" q8] q9) CB least := by
  intro cenv h i1 i2 i3 x y tx ty m hs c1 c2 c3 hn hx hy hC
  subst hs
  obtain ⟨a1, t1, e1, g1⟩ := c1
  obtain ⟨a2, t2, e2, g2⟩ := c2
  obtain ⟨a3, t3, e3, g3⟩ := c3
  exact sees_ge (sees_mul sees_int (sees_add (sees_mul (sees_free hk h1 e1 g1) (sees_loc hk h4 hn hx) (CMul.ok (.inr hC.1))) (sees_mul (sees_free hk h2 e2 g2) (sees_loc hk h5 hn hy) (CMul.ok (.inr hC.2)))) (CMul.ok (.inl (by decide)))) (sees_free hk h3 e3 g3)
end
theorem bdl_of {B : Int} {r : Ln} (h1 : BdN B r.1) (h2 : BdN B r.2) (hB : B < 2 ^ 40) : BdL r := by
  obtain ⟨⟨a, b⟩, c, d⟩ := h1
  obtain ⟨⟨e, f⟩, g, h⟩ := h2
  exact ⟨⟨⟨by omega, by omega⟩, by omega, by omega⟩, ⟨by omega, by omega⟩, by omega, by omega⟩
theorem cb_of {l : Ln} (b : BdL l) (i j k : Int) : ∀ p ∈ ptsOf l, CB i j k p := fun p hp => by
  obtain ⟨⟨⟨x1, x2⟩, x3, x4⟩, ⟨y1, y2⟩, y3, y4⟩ := b
  simp only [ptsOf, List.mem_cons, List.not_mem_nil, or_false] at hp
  rcases hp with rfl | rfl
  · exact ⟨⟨by omega, by omega⟩, by omega, by omega⟩
  · exact ⟨⟨by omega, by omega⟩, by omega, by omega⟩
theorem pts_at {K : PySem.W.Frag} {H : Hp} {v : V} {l : Ln} (h : AtL K H v l) : ∃ a vs, v = .ref a ∧ SqT K H a vs ∧ AllAt (At2 K H) vs (ptsOf l) := by
  obtain ⟨a, u, w, e, h1, h2, h3⟩ := h
  exact ⟨a, _, e, h1, .cons h2 (.cons h3 .nil)⟩

section
variable {P : Program} {w : World} {K : PySem.W.Frag} {mg : Str → Option Value} {base : Heap}

theorem okmet_holds {f Pt : Addr} {fd : FuncData} (F : Fun K "met_holds" "met_holds" smet_holds f fd) (T : Bt mg) (Dis_paper : Def P w K mg base 4 "is_paper" ["thing", "word", "many"] (spPaper K Pt)) (Dis_share : Def P w K mg base 1 "is_share" ["k", "m"] spShareQ) (Dspot_at : Def P w K mg base 3 "spot_at" ["line", "k", "m"] (spSpotAt K)) (Dcorner_at : Def P w K mg base 2 "corner_at" ["grain", "spot"] (spCornerAt K)) :
    FnG P w K mg base CX0 5 f fd ["grain", "line", "corner", "thing"] (spMetQ K Pt) := by
  refine okG (k := 4) F scmet_holds (fun vs H Q E h => ?_) (fun cdv A outer s H vs Q E hr h => ?_)
  · obtain ⟨g, v, u, w, r, c, wd, ns, rfl, _⟩ := h
    rfl
  · obtain ⟨g, v, u, w, r, c, wd, ns, rfl, hT, hL, hc, bd, hp, hl, hb, sh, q⟩ := h
    refine ⟨_, (pss_cons (ps_if (pt_not (pt_val (callD Dis_paper (hr.mono (by decide)) (pa_cons (pv 3) (pa_cons pe_str (pa_cons pe_int pa_nil)))))) (pss_one (ps_ret pe_bl)) pss_nil)
      (pss_cons (ps_asg (pe_slice sl_tupB (pv 3) (po_some pe_int) po_none) (pg_tup (by rfl) (pgs_cons (pg_name (i := 4) scmet_holds.nd rfl (.inl rfl)) (pgs_cons (pg_name (i := 5) scmet_holds.nd rfl (.inl rfl)) pgs_nil))))
      (pss_one (ps_ret (pe_and (callD Dis_share (hr.mono (by decide)) (pa_cons (pv 4) (pa_cons (pv 5) pa_nil))) (pe_one (pe_cmpR (op_eqD hr.room.units) (callD Dcorner_at (hr.mono (by decide)) (pa_cons (pv 0) (pa_cons (callD Dspot_at (hr.mono (by decide)) (pa_cons (pv 1) (pa_cons (pv 4) (pa_cons (pv 5) pa_nil)))) pa_nil))) (pv 2) (nomark _)))))))), ?_⟩
    refine ⟨_, rfl, w, "meets", 2, wd, ns, rfl, hT, hp, hl, sh, by decide +kernel, fun H1 s1 => ?_⟩
    by_cases hw : wd = "meets" ∧ ns.length = 2
    · obtain ⟨rfl, hn⟩ := hw
      obtain ⟨k, m, rfl⟩ : ∃ k m, ns = [k, m] := by
        match ns, hn with
        | [k, m], _ => exact ⟨k, m, rfl⟩
      obtain ⟨a, rfl, hS⟩ := hp
      refine ⟨true, rfl, iteF ?_⟩
      refine ⟨.ref a, rfl, _, rfl, a, _, rfl, seT s1 hS, fun p1 H2 s2 e2 => ?_⟩
      rw [cut_rest] at e2
      refine ⟨p1, _, rfl, e2, rfl, _, _, rfl, _, _, rfl, rfl, ?_⟩
      have S2 := s1.trans s2
      have ev : isMet g r c "meets" [k, m] = (shQ k m && hoB g r c k m) := by
        show (decide ((("meets" : Str)) = "meets") && _) = _
        rw [decide_eq_true rfl]
        exact Bool.true_and _
      rw [ev] at q
      refine ⟨_, rfl, _, rfl, k, m, rfl, _, rfl, ?_⟩
      cases h1 : shQ k m with
      | false =>
        rw [h1, Bool.false_and] at q
        rw [show (decide (1 ≤ m) && (decide (0 ≤ k) && decide (k ≤ m))) = false from h1]
        exact iteF (q H2 S2)
      | true =>
        rw [h1, Bool.true_and] at q
        rw [show (decide (1 ≤ m) && (decide (0 ≤ k) && decide (k ≤ m))) = true from h1]
        have m1 := (shQ_iff.mp h1).1
        have mb := hb rfl m (by simp)
        obtain ⟨g0, g1, b1, b2, b3⟩ := bd
        refine iteT ⟨_, rfl, _, rfl, _, rfl, _, rfl, v, r, k, m, rfl, hL.same S2, bdl_of b1 b2 (by decide), by omega, by omega, fun w1 H3 s3 e3 => ?_⟩
        obtain ⟨d0, d1, dE⟩ := corner_share (r := r) (c := c) (p := k) g0 (show 0 < m by omega)
        have dg : (sp3 (m * r.1.1 + k * (r.2.1 - r.1.1)) (m * r.1.2 + k * (r.2.2 - r.1.2)) m).2.2 * g < 2 ^ 60 := by
          have := Int.mul_le_mul d1 g1 (by omega) (by omega : 0 ≤ m)
          omega
        refine ⟨g, w1, _, rfl, e3, g0, by omega, d0, dg, fun w2 H4 s4 e4 => ?_⟩
        obtain ⟨a2, rfl, g2⟩ := e4
        have S4 := S2.trans (s3.trans s4)
        obtain ⟨a3, rfl, g3⟩ := hc.same S4
        refine ⟨_, rfl, .tuple [.int _, .int _], .tuple [.int c.1, .int c.2], .tup g2 (.cons (.int _) (.cons (.int _) .nil)), .tup g3 (.cons (.int _) (.cons (.int _) .nil)), rfl, rfl, ?_⟩
        rw [eqv_pair]
        have := q H4 S4
        have e9 : hoB g r c k m = decide ((nr (sp3 (m * r.1.1 + k * (r.2.1 - r.1.1)) (m * r.1.2 + k * (r.2.2 - r.1.2)) m).1 ((sp3 (m * r.1.1 + k * (r.2.1 - r.1.1)) (m * r.1.2 + k * (r.2.2 - r.1.2)) m).2.2 * g)) = c.1 ∧ (nr (sp3 (m * r.1.1 + k * (r.2.1 - r.1.1)) (m * r.1.2 + k * (r.2.2 - r.1.2)) m).2.1 ((sp3 (m * r.1.1 + k * (r.2.1 - r.1.1)) (m * r.1.2 + k * (r.2.2 - r.1.2)) m).2.2 * g)) = c.2) := by
          rw [Bool.eq_iff_iff, hoB_iff, ← dE, decide_eq_true_iff]
          exact ⟨fun z => ⟨congrArg Prod.fst z, congrArg Prod.snd z⟩, fun z => Prod.ext z.1 z.2⟩
        rw [e9] at this
        exact this
    · have hv : (decide (wd = "meets") && decide ((ns.length : Int) = 2)) = false := by
        rw [Bool.and_eq_false_iff]
        by_cases h1 : wd = "meets"
        · exact .inr (decide_eq_false fun z => hw ⟨h1, by omega⟩)
        · exact .inl (decide_eq_false h1)
      rw [hv]
      have := q H1 s1
      rw [isMet_not hw] at this
      exact ⟨false, rfl, iteT this⟩

theorem okmissed_holds {f c Pt Pa : Addr} {fd : FuncData} (F : Fun K "missed_holds" "missed_holds" smissed_holds f fd) (hc : fd.code = .ref c) (TB : GxR.TabB base mg c Pt) (T : Bt mg) (Dis_paper : Def P w K mg base 4 "is_paper" ["thing", "word", "many"] (spPaper K Pa)) (Dkeeps_below : Def P w K mg base 3 "keeps_below" ["grain", "corner", "p", "q", "r"] (spKeeps K)) :
    FnG P w K mg base CX0 5 f fd ["grain", "line", "corner", "thing"] (spMissQ K Pa Pt) := by
  refine okGT (k := 4) F hc scmissed_holds (fun vs H Q E h => ?_) (fun A outer s H vs Q E hr h => ?_)
  · obtain ⟨g, v, u, w, r, c, wd, ns, rfl, _⟩ := h
    rfl
  · obtain ⟨g, v, u, w, r, c, wd, ns, rfl, hTa, hT, hL, hc, bd, hp, hl, sh, Q1⟩ := h
    refine ⟨_, (pss_cons (ps_if (pt_not (pt_val (callD Dis_paper (hr.mono (by decide)) (pa_cons (pv 3) (pa_cons pe_str (pa_cons pe_int pa_nil)))))) (pss_one (ps_ret pe_bl)) pss_nil)
      (pss_cons (ps_asg (pe_slice sl_tupB (pv 3) (po_some pe_int) po_none) (pg_tup (by rfl) (pgs_cons (pg_name (i := 4) scmissed_holds.nd rfl (.inr rfl)) (pgs_cons (pg_name (i := 5) scmissed_holds.nd rfl (.inr rfl)) (pgs_cons (pg_name (i := 6) scmissed_holds.nd rfl (.inr rfl)) pgs_nil)))))
      (pss_cons (ps_if (PW.pt (pw_or (pt_cmpR (op_eqD hr.room.units) (tupN (pa_cons (pv 4) (pa_cons (pv 5) pa_nil))) (tupN (pa_cons pe_int (pa_cons pe_int pa_nil))) (nomark _)) (pw_or1 (pt_not (pt_val (callD Dkeeps_below (hr.mono (by decide)) (pa_cons (pv 0) (pa_cons (pv 2) (pa_cons (pv 4) (pa_cons (pv 5) (pa_cons (pv 6) pa_nil))))))))))) (pss_one (ps_ret pe_bl)) pss_nil)
      (pss_one (ps_ret (pe_allP (s1 := 4) (s2 := 5) (s3 := 6) hr.room (by rfl) T.all TB rfl (pv 1) ⟨rfl, rfl, by decide +kernel, rfl, rfl, rfl, by decide, by decide +kernel, by decide +kernel, by decide +kernel, by decide +kernel, rfl, rfl, rfl, PySem.W.cellsFrom_some _ _ _ (.inl rfl), PySem.W.cellsFrom_some _ _ _ (.inl rfl), PySem.W.cellsFrom_some _ _ _ (.inl rfl)⟩ rfl rfl rfl (elt_least rfl rfl rfl rfl rfl rfl))))))), ?_⟩
    refine ⟨_, rfl, w, "misses", 3, wd, ns, rfl, hTa, hp, hl, sh, by decide +kernel, fun H1 s1 => ?_⟩
    by_cases hw : wd = "misses" ∧ ns.length = 3
    · obtain ⟨rfl, hn⟩ := hw
      obtain ⟨p, q, t, rfl⟩ : ∃ p q t, ns = [p, q, t] := by
        match ns, hn with
        | [p, q, t], _ => exact ⟨p, q, t, rfl⟩
      obtain ⟨a, rfl, hS⟩ := hp
      refine ⟨true, rfl, iteF ?_⟩
      refine ⟨.ref a, rfl, _, rfl, a, _, rfl, seT s1 hS, fun p1 H2 s2 e2 => ?_⟩
      rw [cut_rest] at e2
      refine ⟨p1, _, rfl, e2, rfl, _, _, rfl, _, _, rfl, _, _, rfl, rfl, ?_⟩
      have S2 := s1.trans s2
      have ev : isMiss g r c "misses" [p, q, t] = (!decide (p = 0 ∧ q = 0) && (keepB g c p q t && (ptsOf r).all (least p q t))) := by
        show (decide ((("misses" : Str)) = "misses") && _) = _
        rw [decide_eq_true rfl]
        exact Bool.true_and _
      rw [ev] at Q1
      refine ⟨_, rfl, _, rfl, (by show 2 ≤ sizeLine; decide), fun p3 H3 n3 s3 e3 => ⟨(by show 2 ≤ sizeLine; decide), fun p4 H4 n4 s4 e4 => ?_⟩⟩
      have S4 := S2.trans (s3.trans s4)
      refine ⟨.tuple [.int p, .int q], .tuple [.int 0, .int 0], .tup (.inl (.inl (s4 _ _ e3))) (.cons (.int _) (.cons (.int _) .nil)), .tup (.inl (.inl e4)) (.cons (.int _) (.cons (.int _) .nil)), rfl, rfl, _, rfl, ?_⟩
      rw [eqv_pair]
      refine ite2 (fun e => ?_) (fun e => ?_)
      · have := Q1 H4 S4
        rw [e] at this
        exact iteT this
      rw [Bool.eq_false_iff.mpr e] at Q1
      refine ⟨_, rfl, _, rfl, _, rfl, _, rfl, _, rfl, g, u, c, p, q, t, rfl, hc.same S4, ⟨bd.1, bd.2.1, bd.2.2.2.2⟩, fun H5 s5 => ⟨_, rfl, ?_⟩⟩
      have S5 := S4.trans s5
      cases hk : keepB g c p q t with
      | false =>
        rw [hk] at Q1
        exact iteT (Q1 H5 S5)
      | true =>
        rw [hk] at Q1
        obtain ⟨a1, vs1, rfl, h1, h2⟩ := pts_at hL
        refine iteF ⟨_, rfl, a1, vs1, ptsOf r, p, q, t, rfl, seT S5 h1, h2.map fun _ _ z => z.same S5, rfl, rfl, rfl, cb_of (bdl_of bd.2.2.1 bd.2.2.2.1 (by decide)) _ _ _, S5.tab hT, fun H6 s6 t6 => ?_⟩
        exact Q1 H6 (S5.trans s6)
    · have hv : (decide (wd = "misses") && decide ((ns.length : Int) = 3)) = false := by
        rw [Bool.and_eq_false_iff]
        by_cases h1 : wd = "misses"
        · exact .inr (decide_eq_false fun z => hw ⟨h1, by omega⟩)
        · exact .inl (decide_eq_false h1)
      rw [hv]
      have := Q1 H1 s1
      rw [isMiss_not hw] at this
      exact ⟨false, rfl, iteT this⟩

theorem okmeets_holds {f Pt Pa : Addr} {fd : FuncData} (F : Fun K "meets_holds" "meets_holds" smeets_holds f fd) (T : Bt mg) (Dmet_holds : Def P w K mg base 5 "met_holds" ["grain", "line", "corner", "thing"] (spMetQ K Pa)) (Dmissed_holds : Def P w K mg base 5 "missed_holds" ["grain", "line", "corner", "thing"] (spMissQ K Pa Pt)) :
    FnG P w K mg base CX0 6 f fd ["grain", "line", "corner", "thing"] (spHoldsC K Pa Pt) := by
  refine okG (k := 5) F scmeets_holds (fun vs H Q E h => ?_) (fun cdv A outer s H vs Q E hr h => ?_)
  · obtain ⟨g, v, u, w, r, c, wd, ns, rfl, _⟩ := h
    rfl
  · obtain ⟨g, v, u, w, r, c, wd, ns, rfl, hTa, hT, hL, hc, bd, hp, hl, hb, sh, q⟩ := h
    refine ⟨_, (pss_one (ps_ret (pe_or (callD Dmet_holds (hr.mono (by decide)) (pa_cons (pv 0) (pa_cons (pv 1) (pa_cons (pv 2) (pa_cons (pv 3) pa_nil))))) (pe_one (callD Dmissed_holds (hr.mono (by decide)) (pa_cons (pv 0) (pa_cons (pv 1) (pa_cons (pv 2) (pa_cons (pv 3) pa_nil))))))))), ?_⟩
    refine ⟨_, rfl, _, rfl, _, rfl, _, rfl, g, v, u, w, r, c, wd, ns, rfl, hTa, hL, hc, bd, hp, hl, hb, sh, fun H1 s1 => ⟨_, rfl, ?_⟩⟩
    cases h1 : isMet g r c wd ns with
    | true =>
      rw [h1, Bool.true_or] at q
      exact iteT (q H1 s1)
    | false =>
      rw [h1, Bool.false_or] at q
      exact iteF ⟨_, rfl, _, rfl, _, rfl, _, rfl, g, v, u, w, r, c, wd, ns, rfl, s1.tab hTa, s1.tab hT, hL.same s1, hc.same s1, bd, hp.same s1, hl, sh, fun H2 s2 => q H2 (s1.trans s2)⟩

end
end Cl

namespace Cl
def lst (r : Ln) (p q : Int) : Int := if p * r.1.1 + q * r.1.2 ≤ p * r.2.1 + q * r.2.2 then p * r.1.1 + q * r.1.2 else p * r.2.1 + q * r.2.2
def byd (g : Int) (r : Ln) (c : Pt) (w : Int × Int) : Bool := keepB g c w.1 w.2 (2 * lst r w.1 w.2)
def waysR (r : Ln) : List (Int × Int) := [(1, 0), (0, 1), (-1, 0), (0, -1), (-(r.2.2 - r.1.2), r.2.1 - r.1.1), (r.2.2 - r.1.2, -(r.2.1 - r.1.1))]
theorem byd_no {g : Int} {r : Ln} {c : Pt} {p q : Int} (h : byd g r c (p, q) = false) : 2 * lst r p q ≤ grt g c p q ∧ (0 < p ∨ 0 < q → 2 * lst r p q < grt g c p q) := by
  unfold byd keepB at h
  rw [Bool.or_eq_false_iff, Bool.and_eq_false_iff, Bool.or_eq_false_iff] at h
  simp only [decide_eq_false_iff_not] at h
  obtain ⟨h1, h2⟩ := h
  refine ⟨by omega, fun z => ?_⟩
  rcases h2 with h2 | h2
  · omega
  · omega
theorem lst_le (r : Ln) (p q : Int) : lst r p q ≤ p * r.1.1 + q * r.1.2 ∧ lst r p q ≤ p * r.2.1 + q * r.2.2 ∧ (lst r p q = p * r.1.1 + q * r.1.2 ∨ lst r p q = p * r.2.1 + q * r.2.2) := by
  unfold lst
  split <;> omega
theorem ho1_in {g start step num p q : Int} : HO1 g start step num p q ↔ In1 (rimL g num) (rimH g num) (2 * start) (2 * step) p q := by
  unfold HO1 In1 rimL rimH
  rw [show 2 * start * q + 2 * step * p = 2 * (start * q + step * p) from by rw [Int.mul_add, Int.mul_assoc, Int.mul_assoc]]
theorem over_of {g : Int} {r : Ln} {c : Pt} (hw : ∀ w ∈ waysR r, byd g r c w = false) : ((2 * r.1.1 < rimH g c.1 ∨ 2 * r.2.1 < rimH g c.1) ∧ (rimL g c.1 ≤ 2 * r.1.1 ∨ rimL g c.1 ≤ 2 * r.2.1)) ∧ ((2 * r.1.2 < rimH g c.2 ∨ 2 * r.2.2 < rimH g c.2) ∧ (rimL g c.2 ≤ 2 * r.1.2 ∨ rimL g c.2 ≤ 2 * r.2.2)) := by
  have n1 := (byd_no (hw (1, 0) (by simp [waysR]))).2 (by decide)
  have n2 := (byd_no (hw (0, 1) (by simp [waysR]))).2 (by decide)
  have n3 := (byd_no (hw (-1, 0) (by simp [waysR]))).1
  have n4 := (byd_no (hw (0, -1) (by simp [waysR]))).1
  have l1 := (lst_le r 1 0).2.2
  have l2 := (lst_le r 0 1).2.2
  have l3 := (lst_le r (-1) 0).2.2
  have l4 := (lst_le r 0 (-1)).2.2
  rw [show grt g c 1 0 = rimH g c.1 by simp [grt, gr1]] at n1
  rw [show grt g c 0 1 = rimH g c.2 by simp [grt, gr1]] at n2
  rw [show grt g c (-1) 0 = -rimL g c.1 by simp [grt, gr1]] at n3
  rw [show grt g c 0 (-1) = -rimL g c.2 by simp [grt, gr1]] at n4
  refine ⟨⟨?_, ?_⟩, ?_, ?_⟩ <;> omega
theorem sep_of {g : Int} {r : Ln} {c : Pt} (h0 : 0 < g) (hw : ∀ w ∈ waysR r, byd g r c w = false) (hb : ∃ P Q, 0 < Q ∧ In1 (rimL g c.1) (rimH g c.1) (2 * r.1.1) (2 * (r.2.1 - r.1.1)) P Q ∧ In1 (rimL g c.2) (rimH g c.2) (2 * r.1.2) (2 * (r.2.2 - r.1.2)) P Q) : Meets g r c := by
  have u1 := rim_lt (n := c.1) h0
  have u2 := rim_lt (n := c.2) h0
  obtain ⟨⟨o1, o2⟩, o3, o4⟩ := over_of hw
  obtain ⟨P, Q, q0, k1, k2⟩ := hb
  obtain ⟨P1, Q1, q1, s1, k3⟩ := in_seg (L := rimL g c.1) (U := rimH g c.1) (a := 2 * r.1.1) (b := 2 * (r.2.1 - r.1.1)) u1 (by omega) (by omega)
  obtain ⟨P2, Q2, q2, s2, k4⟩ := in_seg (L := rimL g c.2) (U := rimH g c.2) (a := 2 * r.1.2) (b := 2 * (r.2.2 - r.1.2)) u2 (by omega) (by omega)
  obtain ⟨P3, Q3, q3, m1, m2, m3⟩ := helly in1_cvx in1_cvx seg_cvx q0 q2 q1 k1 k2 k4 s2 k3 s1
  exact ⟨P3, Q3, q3, m3.1, m3.2, ho1_in.mpr m1, ho1_in.mpr m2⟩
theorem sep_right {g : Int} {r : Ln} {c : Pt} (h0 : 0 < g) (hx : 0 < r.2.1 - r.1.1) (hw : ∀ w ∈ waysR r, byd g r c w = false) : Meets g r c := by
  refine sep_of h0 hw ?_
  have u1 := rim_lt (n := c.1) h0
  have u2 := rim_lt (n := c.2) h0
  have n5 := byd_no (hw (-(r.2.2 - r.1.2), r.2.1 - r.1.1) (by simp [waysR]))
  have n6 := byd_no (hw (r.2.2 - r.1.2, -(r.2.1 - r.1.1)) (by simp [waysR]))
  have ov := over_of hw
  have ey : r.2.2 = r.1.2 + (r.2.2 - r.1.2) := by omega
  rw [ey] at ov
  clear ey
  have l5 : lst r (-(r.2.2 - r.1.2)) (r.2.1 - r.1.1) = -((r.2.2 - r.1.2) * r.1.1) + (r.2.1 - r.1.1) * r.1.2 := by
    have e : -(r.2.2 - r.1.2) * r.2.1 + (r.2.1 - r.1.1) * r.2.2 = -((r.2.2 - r.1.2) * r.1.1) + (r.2.1 - r.1.1) * r.1.2 := by grind
    rcases (lst_le r (-(r.2.2 - r.1.2)) (r.2.1 - r.1.1)).2.2 with z | z
    · rw [z, Int.neg_mul]
    · rw [z, e]
  have l6 : lst r (r.2.2 - r.1.2) (-(r.2.1 - r.1.1)) = (r.2.2 - r.1.2) * r.1.1 - (r.2.1 - r.1.1) * r.1.2 := by
    have e : (r.2.2 - r.1.2) * r.2.1 + -(r.2.1 - r.1.1) * r.2.2 = (r.2.2 - r.1.2) * r.1.1 - (r.2.1 - r.1.1) * r.1.2 := by grind
    rcases (lst_le r (r.2.2 - r.1.2) (-(r.2.1 - r.1.1))).2.2 with z | z
    · rw [z, Int.neg_mul]; rfl
    · rw [z, e]
  rw [l5] at n5
  rw [l6] at n6
  unfold grt gr1 at n5 n6
  generalize r.2.1 - r.1.1 = x at *
  generalize r.2.2 - r.1.2 = y at *
  generalize rimL g c.1 = L1 at *
  generalize rimH g c.1 = U1 at *
  generalize rimL g c.2 = L2 at *
  generalize rimH g c.2 = U2 at *
  generalize r.1.1 = p at *
  generalize r.1.2 = q at *
  by_cases hy : 0 < y
  · rw [if_neg (show ¬ 0 < -y by omega), if_pos hx, Int.neg_mul] at n5
    rw [if_pos hy, if_neg (show ¬ 0 < -x by omega), Int.neg_mul] at n6
    have n5 := n5.2 (.inr hx)
    have n6 := n6.2 (.inl hy)
    exact both_up (by omega) (by omega) u1 u2 (by
      rw [show 2 * x * (2 * q) = 4 * (x * q) by grind, show 2 * y * L1 = 2 * (y * L1) by grind, show 2 * x * U2 = 2 * (x * U2) by grind, show 2 * y * (2 * p) = 4 * (y * p) by grind]
      omega) (by
      rw [show 2 * x * (2 * q) = 4 * (x * q) by grind, show 2 * y * U1 = 2 * (y * U1) by grind, show 2 * x * L2 = 2 * (x * L2) by grind, show 2 * y * (2 * p) = 4 * (y * p) by grind]
      omega)
  by_cases hy2 : y = 0
  · subst hy2
    have e1 : 2 * p * (2 * x) + 2 * x * (L1 - 2 * p) = L1 * (2 * x) := by grind
    refine ⟨L1 - 2 * p, 2 * x, by omega, ⟨by rw [e1]; exact Int.le_refl _, by rw [e1]; exact Int.mul_lt_mul_of_pos_right u1 (by omega)⟩, ?_, ?_⟩
    · rw [show 2 * q * (2 * x) + 2 * 0 * (L1 - 2 * p) = (2 * q) * (2 * x) by grind]
      exact Int.mul_le_mul_of_nonneg_right (by omega) (by omega)
    · rw [show 2 * q * (2 * x) + 2 * 0 * (L1 - 2 * p) = (2 * q) * (2 * x) by grind]
      exact Int.mul_lt_mul_of_pos_right (by omega) (by omega)
  · have he : 0 < -y := by omega
    rw [if_pos he, if_pos hx, Int.neg_mul] at n5
    rw [if_neg hy, if_neg (show ¬ 0 < -x by omega), Int.neg_mul] at n6
    have n5 := n5.2 (.inr hx)
    have n6 := n6.1
    have := both_down (L1 := L1) (U1 := U1) (L2 := L2) (U2 := U2) (a := 2 * p) (b := 2 * x) (c := 2 * q) (e := 2 * -y) (by omega) (by omega) u1 u2 (by
      rw [show 2 * x * (2 * q) = 4 * (x * q) by grind, show 2 * -y * U1 = -2 * (y * U1) by grind, show 2 * x * U2 = 2 * (x * U2) by grind, show 2 * -y * (2 * p) = -4 * (y * p) by grind]
      omega) (by
      rw [show 2 * x * (2 * q) = 4 * (x * q) by grind, show 2 * -y * L1 = -2 * (y * L1) by grind, show 2 * x * L2 = 2 * (x * L2) by grind, show 2 * -y * (2 * p) = -4 * (y * p) by grind]
      omega)
    rw [show -(2 * -y) = 2 * y by omega] at this
    exact this
theorem sep_up {g : Int} {r : Ln} {c : Pt} (h0 : 0 < g) (hx : r.2.1 - r.1.1 = 0) (hw : ∀ w ∈ waysR r, byd g r c w = false) : Meets g r c := by
  refine sep_of h0 hw ?_
  have u2 := rim_lt (n := c.2) h0
  obtain ⟨⟨o1, o2⟩, o3, o4⟩ := over_of hw
  have ex : r.2.1 = r.1.1 := by omega
  rw [hx]
  rw [ex] at o1 o2
  by_cases hy : r.2.2 - r.1.2 = 0
  · rw [hy]
    have ey : r.2.2 = r.1.2 := by omega
    rw [ey] at o3 o4
    exact ⟨0, 1, by decide, ⟨by omega, by omega⟩, by omega, by omega⟩
  clear o3 o4
  generalize r.2.2 - r.1.2 = y at *
  generalize rimL g c.1 = L1 at *
  generalize rimH g c.1 = U1 at *
  generalize rimL g c.2 = L2 at *
  generalize rimH g c.2 = U2 at *
  generalize r.1.1 = p at *
  generalize r.1.2 = q at *
  unfold In1
  by_cases h : 0 < y
  · have e1 : 2 * q * (2 * y) + 2 * y * (L2 - 2 * q) = L2 * (2 * y) := by grind
    refine ⟨L2 - 2 * q, 2 * y, by omega, ⟨?_, ?_⟩, by rw [e1]; exact Int.le_refl _, by rw [e1]; exact Int.mul_lt_mul_of_pos_right u2 (by omega)⟩
    · rw [show 2 * p * (2 * y) + 2 * 0 * (L2 - 2 * q) = (2 * p) * (2 * y) by grind]
      exact Int.mul_le_mul_of_nonneg_right (by omega) (by omega)
    · rw [show 2 * p * (2 * y) + 2 * 0 * (L2 - 2 * q) = (2 * p) * (2 * y) by grind]
      exact Int.mul_lt_mul_of_pos_right (by omega) (by omega)
  · have e1 : 2 * q * (-(2 * y)) + 2 * y * (2 * q - L2) = L2 * (-(2 * y)) := by grind
    refine ⟨2 * q - L2, -(2 * y), by omega, ⟨?_, ?_⟩, by rw [e1]; exact Int.le_refl _, by rw [e1]; exact Int.mul_lt_mul_of_pos_right u2 (by omega)⟩
    · rw [show 2 * p * (-(2 * y)) + 2 * 0 * (2 * q - L2) = (2 * p) * (-(2 * y)) by grind]
      exact Int.mul_le_mul_of_nonneg_right (by omega) (by omega)
    · rw [show 2 * p * (-(2 * y)) + 2 * 0 * (2 * q - L2) = (2 * p) * (-(2 * y)) by grind]
      exact Int.mul_lt_mul_of_pos_right (by omega) (by omega)
theorem lst_rev (r : Ln) (p q : Int) : lst (r.2, r.1) p q = lst r p q := by
  unfold lst
  simp only
  split <;> split <;> omega
/-- a line that no way lies beyond meets the cell -/
theorem sep {g : Int} {r : Ln} {c : Pt} (h0 : 0 < g) (hw : ∀ w ∈ waysR r, byd g r c w = false) : Meets g r c := by
  by_cases h1 : 0 < r.2.1 - r.1.1
  · exact sep_right h0 h1 hw
  by_cases h2 : r.2.1 - r.1.1 = 0
  · exact sep_up h0 h2 hw
  · have m : Meets g (r.2, r.1) c := by
      refine sep_right h0 (by show 0 < r.1.1 - r.2.1; omega) fun w hw' => ?_
      unfold byd
      rw [lst_rev]
      refine hw w ?_
      simp only [waysR, List.mem_cons, List.not_mem_nil, or_false] at hw' ⊢
      rw [show -(r.2.2 - r.1.2) = r.1.2 - r.2.2 by omega, show -(r.2.1 - r.1.1) = r.1.1 - r.2.1 by omega]
      rw [show -(r.1.2 - r.2.2) = r.2.2 - r.1.2 by omega, show -(r.1.1 - r.2.1) = r.2.1 - r.1.1 by omega] at hw'
      rcases hw' with z | z | z | z | z | z
      · exact .inl z
      · exact .inr (.inl z)
      · exact .inr (.inr (.inl z))
      · exact .inr (.inr (.inr (.inl z)))
      · exact .inr (.inr (.inr (.inr (.inr z))))
      · exact .inr (.inr (.inr (.inr (.inl z))))
    exact Meets.rev.mp m
end Cl

set_option maxHeartbeats 0
namespace Cl
open PySem PySem.Spec PyProof.Rows L2
open GxR (TabB TabG)


def lowN (n d : Int) : Int × Int := (n / ((Int.gcd n d : Nat) : Int), d / ((Int.gcd n d : Nat) : Int))
def spLowG (K : PySem.W.Frag) : Sp := fun vs H Q _ => ∃ n d : Int, vs = [.int n, .int d] ∧ 0 < d ∧ d < 2 ^ 200 ∧ ∀ w H', Same H H' → At2 K H' w (lowN n d) → Q w H'
/-- the share that the program tells -/
def mw (g : Int) (r : Ln) (c : Pt) : Int × Int := match sharesW g r c with
  | some (f, l) => lowN (midP f l) (midQ f l)
  | none => (0, 1)
def okW (g : Int) (r : Ln) (c : Pt) (z : Int × Int) : Prop := 0 < z.2 ∧ (0 ≤ z.1 ∧ z.1 ≤ z.2) ∧ HOc g r c z.1 z.2 ∧ z.2 ≤ 2 ^ 49
def spShareF (K : PySem.W.Frag) : Sp := fun vs H Q _ => ∃ g v r u c, vs = [.int g, v, u] ∧ AtL K H v r ∧ At2 K H u c ∧ BdW g r c ∧
  (¬ Meets g r c → ∀ H', Same H H' → Q .non H') ∧ (Meets g r c → okW g r c (mw g r c) → ∀ w H', Same H H' → At2 K H' w (mw g r c) → Q w H')
theorem mid_in {g : Int} {r : Ln} {c : Pt} {f l : Sh} (h : sharesW g r c = some (f, l)) : 0 ≤ midP f l ∧ midP f l ≤ midQ f l := by
  obtain ⟨f0, l0, fl, k⟩ := sharesW_some h
  have q0 : 0 < midQ f l := by unfold midQ; exact Int.mul_pos (by omega) l0
  have a1 : f.1 * midQ f l ≤ midP f l * f.2 := by
    unfold midP midQ
    have := Int.mul_le_mul_of_nonneg_right fl (Int.le_of_lt f0)
    have e1 : f.1 * (2 * f.2 * l.2) = f.1 * l.2 * f.2 + f.1 * l.2 * f.2 := by grind
    have e2 : (f.1 * l.2 + l.1 * f.2) * f.2 = f.1 * l.2 * f.2 + l.1 * f.2 * f.2 := by grind
    omega
  have a2 : midP f l * l.2 ≤ l.1 * midQ f l := by
    unfold midP midQ
    have := Int.mul_le_mul_of_nonneg_right fl (Int.le_of_lt l0)
    have e1 : l.1 * (2 * f.2 * l.2) = l.1 * f.2 * l.2 + l.1 * f.2 * l.2 := by grind
    have e2 : (f.1 * l.2 + l.1 * f.2) * l.2 = f.1 * l.2 * l.2 + l.1 * f.2 * l.2 := by grind
    omega
  have := (k (midP f l) (midQ f l) q0).mpr ⟨a1, a2⟩
  exact ⟨this.1, this.2.1⟩

section
variable {P : Program} {w : World} {K : PySem.W.Frag} {mg : Str → Option Value} {base : Heap}

theorem oklowest {f : Addr} {fd : FuncData} (F : Fun K "lowest" "lowest" slowest f fd) (T : Bt mg) (Dgreatest_parting : Def P w K mg base 1 "greatest_parting" ["n", "m"] spGp) :
    FnG P w K mg base CX0 2 f fd ["n", "d"] (spLowG K) := by
  refine okG (k := 1) F sclowest (fun vs H Q E h => ?_) (fun cdv A outer s H vs Q E hr h => ?_)
  · obtain ⟨n, d, rfl, _⟩ := h
    rfl
  · obtain ⟨n, d, rfl, h0, h1, q⟩ := h
    refine ⟨_, (pss_cons (ps_set (i := 2) sclowest.nd rfl (.inl rfl) (callD Dgreatest_parting (hr.mono (by decide)) (pa_cons (pv 0) (pa_cons (pv 1) pa_nil))))
      (pss_one (ps_ret (tupN (pa_cons (pe_op op_fdivW (pv 0) (pv 2)) (pa_cons (pe_op op_fdivW (pv 1) (pv 2)) pa_nil)))))), ?_⟩
    obtain ⟨k, ek, k0, k1, e1, e2, k2⟩ := low_parts (n := n) h0
    refine ⟨_, rfl, _, rfl, n, d, rfl, ?_⟩
    rw [← ek]
    refine ⟨_, rfl, _, rfl, _, _, rfl, rfl, wide_div (b := 200) k0 (by omega) (by decide) (by decide), _, rfl, _, rfl, _, _, rfl, rfl, wide_div (b := 200) k0 (by omega) (by decide) (by decide), (by show 2 ≤ sizeLine; decide), fun p H1 nn s e => ?_⟩
    subst ek
    exact q _ _ s ⟨p, rfl, .inl (.inl e)⟩

theorem okis_less {f : Addr} {fd : FuncData} (F : Fun K "is_less" "is_less" sis_less f fd) (T : Bt mg) :
    FnG P w K mg base CX0 1 f fd ["one", "other"] (spSooner K) := by
  refine okG (k := 0) F scis_less (fun vs H Q E h => ?_) (fun cdv A outer s H vs Q E hr h => ?_)
  · obtain ⟨u, v, p, q, rfl, _⟩ := h
    rfl
  · obtain ⟨_, _, p, p2, rfl, ⟨a, rfl, ha⟩, ⟨b, rfl, hb⟩, ⟨x1, x2, x3, x4⟩, ⟨y1, y2, y3, y4⟩, q⟩ := h
    refine ⟨_, (pss_one (ps_ret (pe_cmpR op_lt (pe_op op_mul (pe_ix ix_tup (pv 0) pe_int (fun _ _ => rfl)) (pe_ix ix_tup (pv 1) pe_int (fun _ _ => rfl))) (pe_op op_mul (pe_ix ix_tup (pv 1) pe_int (fun _ _ => rfl)) (pe_ix ix_tup (pv 0) pe_int (fun _ _ => rfl))) (nomark _)))), ?_⟩
    exact ⟨_, rfl, a, _, 0, _, rfl, rfl, ha, rfl, _, rfl, b, _, 1, _, rfl, rfl, hb, rfl, _, _, rfl, rfl, .inl (by omega), _, rfl, b, _, 0, _, rfl, rfl, hb, rfl, _, rfl, a, _, 1, _, rfl, rfl, ha, rfl, _, _, rfl, rfl, .inl (by omega), _, _, rfl, rfl, q⟩

theorem okgreater_of {f : Addr} {fd : FuncData} (F : Fun K "greater_of" "greater_of" sgreater_of f fd) (T : Bt mg) (Dis_less : Def P w K mg base 1 "is_less" ["one", "other"] (spSooner K)) :
    FnG P w K mg base CX0 2 f fd ["one", "other"] (spLater K later) := by
  refine okG (k := 1) F scgreater_of (fun vs H Q E h => ?_) (fun cdv A outer s H vs Q E hr h => ?_)
  · obtain ⟨u, v, p, q, rfl, _⟩ := h
    rfl
  · obtain ⟨u, v, p, p2, rfl, ha, hb, bp, bq, q⟩ := h
    refine ⟨_, (pss_one (ps_ret (pe_ifExp (pt_val (callD Dis_less (hr.mono (by decide)) (pa_cons (pv 0) (pa_cons (pv 1) pa_nil)))) (pv 1) (pv 0)))), ?_⟩
    refine ⟨_, rfl, _, rfl, u, v, p, p2, rfl, ha, hb, bp, bq, _, rfl, ite2 (fun e => ?_) (fun e => ?_)⟩
    · have e := of_decide_eq_true e
      exact ⟨_, rfl, q _ (by unfold later; rw [if_pos e]; exact hb)⟩
    · have e : ¬ _ := fun z => e (decide_eq_true z)
      exact ⟨_, rfl, q _ (by unfold later; rw [if_neg e]; exact ha)⟩

theorem oklesser_of {f : Addr} {fd : FuncData} (F : Fun K "lesser_of" "lesser_of" slesser_of f fd) (T : Bt mg) (Dis_less : Def P w K mg base 1 "is_less" ["one", "other"] (spSooner K)) :
    FnG P w K mg base CX0 2 f fd ["one", "other"] (spLater K soon) := by
  refine okG (k := 1) F sclesser_of (fun vs H Q E h => ?_) (fun cdv A outer s H vs Q E hr h => ?_)
  · obtain ⟨u, v, p, q, rfl, _⟩ := h
    rfl
  · obtain ⟨u, v, p, p2, rfl, ha, hb, bp, bq, q⟩ := h
    refine ⟨_, (pss_one (ps_ret (pe_ifExp (pt_val (callD Dis_less (hr.mono (by decide)) (pa_cons (pv 1) (pa_cons (pv 0) pa_nil)))) (pv 1) (pv 0)))), ?_⟩
    refine ⟨_, rfl, _, rfl, v, u, p2, p, rfl, hb, ha, bq, bp, _, rfl, ite2 (fun e => ?_) (fun e => ?_)⟩
    · have e := of_decide_eq_true e
      exact ⟨_, rfl, q _ (by unfold soon; rw [if_pos e]; exact hb)⟩
    · have e : ¬ _ := fun z => e (decide_eq_true z)
      exact ⟨_, rfl, q _ (by unfold soon; rw [if_neg e]; exact ha)⟩

theorem okshares_within {f : Addr} {fd : FuncData} (F : Fun K "shares_within" "shares_within" sshares_within f fd) (T : Bt mg) (Drims_of : Def P w K mg base 1 "rims_of" ["grain", "number"] (spRims K)) (Dstep_of : Def P w K mg base 1 "step_of" ["line"] (spStep K)) (Dgreater_of : Def P w K mg base 2 "greater_of" ["one", "other"] (spLater K later)) (Dlesser_of : Def P w K mg base 2 "lesser_of" ["one", "other"] (spLater K soon)) (Dis_less : Def P w K mg base 1 "is_less" ["one", "other"] (spSooner K)) :
    FnG P w K mg base CX0 3 f fd ["grain", "line", "corner"] (spWithin K) := by
  refine okG (k := 2) F scshares_within (fun vs H Q E h => ?_) (fun cdv A outer s H vs Q E hr h => ?_)
  · obtain ⟨g, v, r, u, c, rfl, _⟩ := h
    rfl
  · obtain ⟨g, _, r, _, c, rfl, ⟨a, x, y, rfl, hS, hx, hy⟩, ⟨cc, rfl, hc⟩, bd, q1, q2⟩ := h
    refine ⟨_, (pss_cons (ps_asg (tupN (pa_cons (tupN (pa_cons pe_int (pa_cons pe_int pa_nil))) (pa_cons (tupN (pa_cons pe_int (pa_cons pe_int pa_nil))) pa_nil))) (pg_tup (by rfl) (pgs_cons (pg_name (i := 3) scshares_within.nd rfl (.inl rfl)) (pgs_cons (pg_name (i := 4) scshares_within.nd rfl (.inl rfl)) pgs_nil))))
      (pss_cons (ps_for PassesOwn.never rfl (pi_zip3 (by rfl) T.zip (pa_cons (pe_ix ix_tup (pv 1) pe_int (fun _ _ => rfl)) (pa_cons (callD Dstep_of (hr.mono (by decide)) (pa_cons (pv 1) pa_nil)) (pa_cons (pv 2) pa_nil)))) (pg_tup (by rfl) (pgs_cons (pg_name (i := 5) scshares_within.nd rfl (.inr rfl)) (pgs_cons (pg_name (i := 6) scshares_within.nd rfl (.inl rfl)) (pgs_cons (pg_name (i := 7) scshares_within.nd rfl (.inl rfl)) pgs_nil)))) (pss_cons (ps_asg (pe_lc (own := [("rim", 10)]) (g := gName 10) (tt := tYes) (by rfl) scshares_within.nd (pi_tup (callD Drims_of (hr.mono (by decide)) (pa_cons (pv 0) (pa_cons (pv 7) pa_nil)))) (blkOk_by (own := [("rim", 10)]) (N := ["grain", "line", "corner", "first", "last", "start", "step", "number", "near", "far", "rim"]) (sc := defScope sshares_within) (by decide +kernel)) (fun _ _ _ _ _ => (pg_name (i := 10) scshares_within.nd rfl (.inl rfl))) (fun _ _ _ _ _ => pts_nil) (fun _ _ _ _ _ => (pe_op op_sub (pv 10) (pe_op op_mul pe_int (pv 5))))) (pg_lst (by rfl) (pgs_cons (pg_name (i := 8) scshares_within.nd rfl (.inl rfl)) (pgs_cons (pg_name (i := 9) scshares_within.nd rfl (.inl rfl)) pgs_nil))))
      (pss_one (ps_if (pt_cmpR op_eq (pv 6) pe_int (nomark _)) (pss_one (ps_if (PW.pt (pw_or (pt_cmpR op_gt (pv 8) pe_int (nomark _)) (pw_or1 (pt_cmpR op_lt (pv 9) pe_int (nomark _))))) (pss_one (ps_ret pe_non)) pss_nil)) (pss_cons (ps_if (pt_cmpR op_lt (pv 6) pe_int (nomark _)) (pss_one (ps_par (i := 8) (j := 9) (by rfl) scshares_within.nd rfl rfl (by decide) rfl rfl (pa_cons (pe_un un_neg (pv 9)) (pa_cons (pe_un un_neg (pv 8)) pa_nil)) (by rfl))) pss_nil)
      (pss_cons (ps_set (i := 3) scshares_within.nd rfl (.inl rfl) (callD Dgreater_of (hr.mono (by decide)) (pa_cons (pv 3) (pa_cons (tupN (pa_cons (pv 8) (pa_cons (pe_op op_mul pe_int (pe_callB call_abs (by rfl) T.abs (by decide +kernel) (pa_cons (pv 6) pa_nil))) pa_nil))) pa_nil))))
      (pss_one (ps_set (i := 4) scshares_within.nd rfl (.inl rfl) (callD Dlesser_of (hr.mono (by decide)) (pa_cons (pv 4) (pa_cons (tupN (pa_cons (pv 9) (pa_cons (pe_op op_mul pe_int (pe_callB call_abs (by rfl) T.abs (by decide +kernel) (pa_cons (pv 6) pa_nil))) pa_nil))) pa_nil)))))))))))
      (pss_cons (ps_if (pt_val (callD Dis_less (hr.mono (by decide)) (pa_cons (pv 4) (pa_cons (pv 3) pa_nil)))) (pss_one (ps_ret pe_non)) pss_nil)
      (pss_one (ps_ret (tupN (pa_cons (pv 3) (pa_cons (pv 4) pa_nil)))))))), ?_⟩
    refine ⟨(by show 2 ≤ sizeLine; decide), fun p1 H1 n1 s1 g1 => ⟨(by show 2 ≤ sizeLine; decide), fun p2 H2 n2 s2 g2 => ⟨(by show 2 ≤ sizeLine; decide), fun p3 H3 n3 s3 g3 => ⟨p3, _, rfl, .inl (.inl g3), rfl, _, _, rfl, _, _, rfl, rfl, ?_⟩⟩⟩⟩
    have s13 := (s1.trans s2).trans s3
    refine ⟨_, rfl, a, _, 0, _, rfl, rfl, seT s13 hS, rfl, _, rfl, .ref a, r, rfl, ⟨a, x, y, rfl, seT s13 hS, hx.same s13, hy.same s13⟩, fun p4 H4 s4 e4 => ?_⟩
    obtain ⟨a4, rfl, h4⟩ := e4
    have s04 := s13.trans s4
    obtain ⟨ax, rfl, hax⟩ := hx
    obtain ⟨b0, b1, b2, b3, b4⟩ := bd
    unfold BdN at b2 b3 b4
    refine ⟨_, rfl, ax, a4, cc, _, _, _, rfl, seT s04 hax, h4, seT s04 hc, for_zip3 (xs := [.int r.1.1, .int r.1.2]) (ys := [.int (r.2.1 - r.1.1), .int (r.2.2 - r.1.2)]) (zs := [.int c.1, .int c.2]) rfl rfl (fun i σ H' => ∃ f l vf vl y5 y6 y7 y8 y9 y10, σ = [some (.int g), some (.ref a), some (.ref cc), some vf, some vl, y5, y6, y7, y8, y9, y10] ∧ Same H4 H' ∧ stg g r c i = some (f, l) ∧ At2 K H' vf f ∧ At2 K H' vl l ∧ ShN f ∧ ShN l) ?_ ?_ ?_ ?_⟩
    · exact ⟨(0, 1), (1, 1), _, _, _, _, _, _, _, _, rfl, .refl _, rfl, ⟨p1, rfl, .inl (.inl ((s2.trans (s3.trans s4)) _ _ g1))⟩, ⟨p2, rfl, .inl (.inl ((s3.trans s4) _ _ g2))⟩, by unfold ShN; decide, by unfold ShN; decide⟩
    · rintro i σ H' ⟨f, l, vf, vl, y5, y6, y7, y8, y9, y10, rfl, sh, _⟩
      exact ⟨seT (s04.trans sh) hax, seT sh h4, seT (s04.trans sh) hc⟩
    · rintro i x y u T σ H' ix iy iu ⟨f, l, vf, vl, y5, y6, y7, y8, y9, y10, rfl, sh, hst, hf, hl, bf, bl⟩ hT
      have hi : i < 2 ∧ x = .int (crd r.1 i) ∧ y = .int (crd r.2 i - crd r.1 i) ∧ u = .int (crd c i) := by
        match i, ix, iy, iu with
        | 0, ix, iy, iu => exact ⟨by decide, (Option.some.inj ix).symm, (Option.some.inj iy).symm, (Option.some.inj iu).symm⟩
        | 1, ix, iy, iu => exact ⟨by decide, (Option.some.inj ix).symm, (Option.some.inj iy).symm, (Option.some.inj iu).symm⟩
        | i + 2, ix, iy, iu => cases ix
      obtain ⟨hi, rfl, rfl, rfl⟩ := hi
      have bst : -3000000 ≤ crd r.1 i ∧ crd r.1 i ≤ 3000000 ∧ -3000000 ≤ crd r.2 i ∧ crd r.2 i ≤ 3000000 ∧ -3000000 ≤ crd c i ∧ crd c i ≤ 3000000 := by
        unfold crd
        split <;> omega
      generalize est : crd r.1 i = st at *
      generalize efar : crd r.2 i = far at *
      generalize enum : crd c i = num at *
      have e1 : stg g r c (i + 1) = inc f l (far - st) (rimL g num - 2 * st) (rimH g num - 2 * st) := by
        show (match stg g r c i with
          | none => none
          | some (f, l) => inc f l (crd r.2 i - crd r.1 i) (rimL g (crd c i) - 2 * crd r.1 i) (rimH g (crd c i) - 2 * crd r.1 i)) = _
        rw [hst, est, efar, enum]
      obtain ⟨rl0, rl1, rh0, rh1⟩ := rim_b (n := num) b0 b1 (by omega) (by omega)
      have sT : Same H' (upd H' T (.tup [.int st, .int (far - st), .int num])) := same_new hT
      refine ⟨T, _, rfl, .inl (.inl upd_same), rfl, _, _, rfl, _, _, rfl, _, _, rfl, rfl, ?_⟩
      refine ⟨_, rfl, _, rfl, g, num, rfl, b0, by omega, fun p5 H5 n5 s5 g5 => ⟨p5, rfl, ⟨_, .inl (.inl g5)⟩, fun pD nD => ?_⟩⟩
      refine lcT (K := K) (a := p5) (xs := [.int (rimL g num), .int (rimH g num)]) (fun j G => Same H5 G ∧ G pD = some (.lst (([rimL g num - 2 * st, rimH g num - 2 * st].take j).map V.int))) nD (fun G k1 k2 => ⟨k1, k2⟩) (fun j G _ z => seT z.1 (.inl (.inl g5))) (fun j z G hz w => ?_) (fun H6 z => ?_)
      · obtain ⟨w1, w2⟩ := w
        have hz' : ∃ k : Int, z = .int k ∧ [rimL g num - 2 * st, rimH g num - 2 * st][j]? = some (k - 2 * st) := by
          match j, hz with
          | 0, hz => exact ⟨_, (Option.some.inj hz).symm, rfl⟩
          | 1, hz => exact ⟨_, (Option.some.inj hz).symm, rfl⟩
          | j + 2, hz => cases hz
        obtain ⟨k, rfl, hk⟩ := hz'
        refine ⟨rfl, _, rfl, _, rfl, _, _, rfl, rfl, .inl (by decide), _, _, rfl, rfl, _, w2, by rw [List.length_map, List.length_take]; exact small1000 (by show min j 2 ≤ 1000; omega), fun b o e => ?_, ?_⟩
        · rw [upd_ne (ne_of_none e nD)]; exact w1 _ _ e
        · rw [upd_same, List.take_add_one, hk, List.map_append]; rfl
      · obtain ⟨s6, g6⟩ := z
        have s6' := (sT.trans s5).trans s6
        refine ⟨pD, _, rfl, .inl (.inl g6), rfl, _, _, rfl, _, _, rfl, rfl, ?_⟩
        refine ⟨_, rfl, rfl, _, rfl, ite2 (fun e => ?_) (fun e => ?_)⟩
        · have e0 : far - st = 0 := V.int.inj (of_decide_eq_true e)
          refine ⟨_, rfl, _, _, rfl, rfl, _, rfl, ite2 (fun k => ?_) (fun k => ?_)⟩
          · have k0 := of_decide_eq_true k
            exact q1 (stg_none hi (by rw [e1]; unfold inc; rw [if_pos e0, if_pos (.inl k0)])) _ (s04.trans (sh.trans s6'))
          · have k0 : ¬ _ := fun z => k (decide_eq_true z)
            refine ⟨_, rfl, _, _, rfl, rfl, _, rfl, ite2 (fun k => ?_) (fun k => ?_)⟩
            · have k1 := of_decide_eq_true k
              exact q1 (stg_none hi (by rw [e1]; unfold inc; rw [if_pos e0, if_pos (.inr k1)])) _ (s04.trans (sh.trans s6'))
            · have k1 : ¬ _ := fun z => k (decide_eq_true z)
              exact ⟨f, l, vf, vl, _, _, _, _, _, _, rfl, sh.trans s6', by rw [e1]; unfold inc; rw [if_pos e0, if_neg (fun z => z.elim k0 k1)], hf.same s6', hl.same s6', bf, bl⟩
        · have e0 : far - st ≠ 0 := fun z => e (decide_eq_true (by rw [z]))
          refine ⟨_, rfl, _, _, rfl, rfl, _, rfl, ite2 (fun k => ?_) (fun k => ?_)⟩
          · have k0 : far - st < 0 := of_decide_eq_true k
            refine ⟨_, rfl, _, rfl, _, rfl, _, rfl, _, _, rfl, ?_⟩
            refine ⟨_, rfl, _, rfl, _, rfl, _, rfl, _, _, rfl, rfl, .inl (by decide), (by show 2 ≤ sizeLine; decide), fun p7 H7 n7 s7 g7 => ?_⟩
            have g7' : H7 p7 = some (.tup [.int (-(rimH g num - 2 * st)), .int (2 * (if far - st < 0 then -(far - st) else far - st))]) := g7
            rw [if_pos k0] at g7'
            have b7 : ShN (-(rimH g num - 2 * st), 2 * -(far - st)) := by unfold ShN; simp only; omega
            refine ⟨vf, .ref p7, f, (-(rimH g num - 2 * st), 2 * -(far - st)), rfl, (hf.same s6').same s7, ⟨p7, rfl, .inl (.inl g7')⟩, bf.b, b7.b, fun w7 e7 => ?_⟩
            refine ⟨_, rfl, _, rfl, _, rfl, _, rfl, _, _, rfl, rfl, .inl (by decide), (by show 2 ≤ sizeLine; decide), fun p8 H8 n8 s8 g8 => ?_⟩
            have g8' : H8 p8 = some (.tup [.int (-(rimL g num - 2 * st)), .int (2 * (if far - st < 0 then -(far - st) else far - st))]) := g8
            rw [if_pos k0] at g8'
            have b8 : ShN (-(rimL g num - 2 * st), 2 * -(far - st)) := by unfold ShN; simp only; omega
            refine ⟨vl, .ref p8, l, (-(rimL g num - 2 * st), 2 * -(far - st)), rfl, ((hl.same s6').same s7).same s8, ⟨p8, rfl, .inl (.inl g8')⟩, bl.b, b8.b, fun w8 e8 => ?_⟩
            exact ⟨_, _, _, _, _, _, _, _, _, _, rfl, (sh.trans s6').trans (s7.trans s8), by rw [e1]; unfold inc; rw [if_neg e0, if_pos k0], e7.same s8, e8, later_ShN bf b7, soon_ShN bl b8⟩
          · have k0 : ¬ far - st < 0 := fun z => k (decide_eq_true z)
            refine ⟨_, rfl, _, rfl, _, rfl, _, rfl, _, _, rfl, rfl, .inl (by decide), (by show 2 ≤ sizeLine; decide), fun p7 H7 n7 s7 g7 => ?_⟩
            have g7' : H7 p7 = some (.tup [.int (rimL g num - 2 * st), .int (2 * (if far - st < 0 then -(far - st) else far - st))]) := g7
            rw [if_neg k0] at g7'
            have b7 : ShN (rimL g num - 2 * st, 2 * (far - st)) := by unfold ShN; simp only; omega
            refine ⟨vf, .ref p7, f, (rimL g num - 2 * st, 2 * (far - st)), rfl, (hf.same s6').same s7, ⟨p7, rfl, .inl (.inl g7')⟩, bf.b, b7.b, fun w7 e7 => ?_⟩
            refine ⟨_, rfl, _, rfl, _, rfl, _, rfl, _, _, rfl, rfl, .inl (by decide), (by show 2 ≤ sizeLine; decide), fun p8 H8 n8 s8 g8 => ?_⟩
            have g8' : H8 p8 = some (.tup [.int (rimH g num - 2 * st), .int (2 * (if far - st < 0 then -(far - st) else far - st))]) := g8
            rw [if_neg k0] at g8'
            have b8 : ShN (rimH g num - 2 * st, 2 * (far - st)) := by unfold ShN; simp only; omega
            refine ⟨vl, .ref p8, l, (rimH g num - 2 * st, 2 * (far - st)), rfl, ((hl.same s6').same s7).same s8, ⟨p8, rfl, .inl (.inl g8')⟩, bl.b, b8.b, fun w8 e8 => ?_⟩
            exact ⟨_, _, _, _, _, _, _, _, _, _, rfl, (sh.trans s6').trans (s7.trans s8), by rw [e1]; unfold inc; rw [if_neg e0, if_neg k0], e7.same s8, e8, later_ShN bf b7, soon_ShN bl b8⟩
    · rintro σ H' ⟨f, l, vf, vl, y5, y6, y7, y8, y9, y10, rfl, sh, hst, hf, hl, bf, bl⟩
      have hst2 : stg g r c 2 = some (f, l) := hst
      refine ⟨_, rfl, _, rfl, vl, vf, l, f, rfl, hl, hf, bl.b, bf.b, _, rfl, ite2 (fun e => ?_) (fun e => ?_)⟩
      · have e := of_decide_eq_true e
        exact q1 (by rw [sharesW_stg, hst2]; exact if_pos e) _ (s04.trans sh)
      · have e : ¬ _ := fun z => e (decide_eq_true z)
        exact ⟨_, rfl, _, rfl, (by show 2 ≤ sizeLine; decide), fun p8 H8 n8 s8 g8 => q2 f l _ _ (by rw [sharesW_stg, hst2]; exact if_neg e) (s04.trans (sh.trans s8)) ⟨p8, vf, vl, rfl, .inl (.inl g8), hf.same s8, hl.same s8⟩ bf bl⟩

end
end Cl

set_option maxHeartbeats 0
namespace Cl
open PySem PySem.Spec PyProof.Rows L2
open GxR (TabB TabG)

section
variable {P : Program} {w : World} {K : PySem.W.Frag} {mg : Str → Option Value} {base : Heap}

theorem okshare_in {f : Addr} {fd : FuncData} (F : Fun K "share_in" "share_in" sshare_in f fd) (T : Bt mg) (Dshares_within : Def P w K mg base 3 "shares_within" ["grain", "line", "corner"] (spWithin K)) (Dlowest : Def P w K mg base 2 "lowest" ["n", "d"] (spLowG K)) (Dcorner_at : Def P w K mg base 2 "corner_at" ["grain", "spot"] (spCornerAt K)) (Dspot_at : Def P w K mg base 3 "spot_at" ["line", "k", "m"] (spSpotAt K)) :
    FnG P w K mg base CX0 4 f fd ["grain", "line", "corner"] (spShareF K) := by
  refine okG (k := 3) F scshare_in (fun vs H Q E h => ?_) (fun cdv A outer s H vs Q E hr h => ?_)
  · obtain ⟨g, v, r, u, c, rfl, _⟩ := h
    rfl
  · obtain ⟨g, v, r, u, c, rfl, hL, hc, bd, q1, q2⟩ := h
    refine ⟨_, (pss_cons (ps_set (i := 3) scshare_in.nd rfl (.inl rfl) (callD Dshares_within (hr.mono (by decide)) (pa_cons (pv 0) (pa_cons (pv 1) (pa_cons (pv 2) pa_nil)))))
      (pss_cons (ps_if (pt_cmpR op_isN (pv 3) pe_non (nomark _)) (pss_one (ps_ret pe_non)) pss_nil)
      (pss_cons (ps_asg (pv 3) (pg_tup (by rfl) (pgs_cons (pg_tup (by rfl) (pgs_cons (pg_name (i := 4) scshare_in.nd rfl (.inl rfl)) (pgs_cons (pg_name (i := 5) scshare_in.nd rfl (.inl rfl)) pgs_nil))) (pgs_cons (pg_tup (by rfl) (pgs_cons (pg_name (i := 6) scshare_in.nd rfl (.inl rfl)) (pgs_cons (pg_name (i := 7) scshare_in.nd rfl (.inl rfl)) pgs_nil))) pgs_nil))))
      (pss_cons (ps_set (i := 8) scshare_in.nd rfl (.inl rfl) (callD Dlowest (hr.mono (by decide)) (pa_cons (pe_op op_add (pe_op op_mul (pv 4) (pv 7)) (pe_op op_mul (pv 6) (pv 5))) (pa_cons (pe_op op_mul (pe_op op_mul pe_int (pv 5)) (pv 7)) pa_nil))))
      (pss_cons (ps_if (pt_cmpR (op_neD hr.room.units) (callD Dcorner_at (hr.mono (by decide)) (pa_cons (pv 0) (pa_cons (callDS Dspot_at (hr.mono (by decide)) (pa_cons (pv 1) (StX.pa_star (pv 8) pa_nil))) pa_nil))) (pv 2) (nomark _)) (pss_one (ps_ret pe_non)) pss_nil)
      (pss_one (ps_ret (pv 8)))))))), ?_⟩
    refine ⟨_, rfl, _, rfl, _, rfl, g, v, r, u, c, rfl, hL, hc, bd, fun hn H1 s1 => ?_, fun f l w H1 hs s1 e1 bf bl => ?_⟩
    · refine ⟨_, rfl, rfl, _, rfl, iteT ?_⟩
      exact q1 (sharesW_none hn) _ s1
    · obtain ⟨a, uf, ul, rfl, hS, ⟨af, rfl, hf⟩, ⟨al, rfl, hl⟩⟩ := e1
      refine ⟨_, rfl, rfl, _, rfl, iteF ?_⟩
      refine ⟨_, rfl, a, _, rfl, hS, rfl, _, _, rfl, af, _, rfl, hf, rfl, _, _, rfl, _, _, rfl, rfl, _, _, rfl, al, _, rfl, hl, rfl, _, _, rfl, _, _, rfl, rfl, rfl, ?_⟩
      obtain ⟨f0, f1, f2, f3⟩ := id bf
      obtain ⟨l0, l1, l2, l3⟩ := id bl
      obtain ⟨hQ, hQ2⟩ := mid_b bf bl
      refine ⟨_, rfl, _, rfl, _, _, rfl, rfl, .inl (by omega), _, rfl, _, rfl, _, _, rfl, rfl, .inl (by omega), _, _, rfl, rfl, _, rfl, _, _, rfl, rfl, .inl (by decide), _, rfl, _, _, rfl, rfl, .inl (by omega), midP f l, midQ f l, rfl, hQ, by omega, fun w H2 s2 ew => ?_⟩
      obtain ⟨k, ek, k0, _, ep, eq, q0⟩ := low_parts (n := midP f l) (d := midQ f l) hQ
      have em : mw g r c = lowN (midP f l) (midQ f l) := by unfold mw; rw [hs]
      obtain ⟨i1, i2⟩ := mid_in hs
      unfold lowN at em ew
      rw [← ek] at em ew
      generalize midP f l / k = p at *
      generalize midQ f l / k = q at *
      obtain ⟨aw, rfl, hw⟩ := ew
      have hqk : q ≤ midQ f l := by
        have := Int.mul_le_mul_of_nonneg_left (show 1 ≤ k by omega) (Int.le_of_lt q0)
        omega
      obtain ⟨b0, b1, b2, b3, b4⟩ := bd
      unfold BdN at b2 b3 b4
      obtain ⟨t0, t1, t2⟩ := corner_share (r := r) (c := c) (p := p) b0 q0
      have tg : ∀ z : Int, 0 < z → z ≤ q → z * g < 2 ^ 60 := fun z z0 z1 => by
        have := Int.mul_le_mul (show z ≤ 2 ^ 49 by omega) b1 (Int.le_of_lt b0) (by decide)
        omega
      refine ⟨_, rfl, _, rfl, _, rfl, aw, _, rfl, .inl hw, v, r, p, q, rfl, (hL.same s1).same s2, ⟨bdC_of (by unfold BdN; omega), bdC_of (by unfold BdN; omega)⟩, by omega, by omega, fun w3 H3 s3 e3 => ⟨g, w3, _, rfl, e3, b0, by omega, t0, tg _ t0 t1, fun w4 H4 s4 e4 => ?_⟩⟩
      have s14 := (s1.trans s2).trans (s3.trans s4)
      refine ⟨_, rfl, _, _, e4.dp, (hc.same s14).dp, rfl, rfl, _, rfl, ?_⟩
      have mm : Meets g r c ↔ HOc g r c p q := by
        rw [meets_mid hs, ep, eq]
        exact mid_low k0
      have ev : ∀ x y : Pt, PyData.eqv (pd x) (pd y) = decide (x = y) := fun x y => by
        show PyData.eqv (.tuple [.int x.1, .int x.2]) (.tuple [.int y.1, .int y.2]) = _
        rw [eqv_pair]
        exact decide_eq_decide.mpr ⟨fun z => Prod.ext z.1 z.2, fun z => by rw [z]; exact ⟨rfl, rfl⟩⟩
      rw [ev]
      refine ite2 (fun e => ?_) (fun e => ?_)
      · refine q1 (fun z => ?_) _ s14
        rw [decide_eq_true (t2.mpr (mm.mp z))] at e
        cases e
      · have ho : HOc g r c p q := t2.mp (Classical.not_not.mp fun z => e (by rw [decide_eq_false z]; rfl))
        have i3 : 0 ≤ p := Int.not_lt.mp fun z => by
          have := Int.mul_neg_of_neg_of_pos z k0
          omega
        have i4 : p ≤ q := Int.not_lt.mp fun z => by
          have := Int.mul_lt_mul_of_pos_right z k0
          omega
        refine ⟨_, rfl, q2 (mm.mpr ho) ?_ _ _ s14 ?_⟩
        · rw [em]
          exact ⟨q0, ⟨i3, i4⟩, ho, by show q ≤ 2 ^ 49; omega⟩
        · rw [em]
          exact ⟨aw, rfl, seT (s3.trans s4) hw⟩

end
end Cl

namespace Cl
open PySem PySem.Spec PyProof.Rows L2
/-! ### zip of two tuples within a comprehension -/
theorem walk_zipT {K : PySem.W.Frag} {a b : Addr} {xs ys : List V} {n : Nat} (hn : n = min xs.length ys.length) : Walk (RZ.ItzT K a b) n (fun H => SqT K H a xs ∧ SqT K H b ys) (YPair (fun i => xs[i]?) (fun i => ys[i]?)) := by
  subst hn
  refine ⟨fun i _ hi q => ?_, fun _ q => ⟨xs, ys, q.1, q.2, by omega⟩, fun i H v H' _ q y => ?_⟩
  · have h1 : i < xs.length := by omega
    have h2 : i < ys.length := by omega
    exact ⟨xs, ys, xs[i], ys[i], q.1, q.2, by simp [h1], by simp [h2]⟩
  · obtain ⟨T, x, z, h1, h2, h3, h4, h5⟩ := y
    exact ⟨T, x, z, h1, h2, h3, h4 xs q.1, h5 ys q.2⟩
def lcZT {K : PySem.W.Frag} {a b : Addr} {xs ys : List V} {n : Nat} {g : TG} {tt : TT} {te : TE} {vs : List Nat} {σ : L2.St} {H1 : Hp} {D : Addr} {Qd : Hp → Prop} (hn : n = min xs.length ys.length)
    (Pv : Nat → Hp → Prop) (hD : H1 D = none) (h0 : ∀ H', Same H1 H' → H' D = some (.lst []) → Pv 0 H') (hG : ∀ i H, i ≤ n → Pv i H → SqT K H a xs ∧ SqT K H b ys)
    (hs : ∀ i x H H', i < n → Pv i H → YPair (fun i => xs[i]?) (fun i => ys[i]?) i H x H' → g x (wipe σ vs) H' fun σ2 H2 => wipe σ2 vs = wipe σ vs ∧ tt σ2 H2 fun b H3 =>
      if b = true then te σ2 H3 fun y H4 => ∃ acc, H4 D = some (.lst acc) ∧ acc.length < sizeLine ∧ Pv (i + 1) (upd H4 D (.lst (acc ++ [y]))) else Pv (i + 1) H3)
    (hd : ∀ H, Pv n H → Qd H) := lc_it (walk_zipT (K := K) (a := a) (b := b) hn) (g := g) (tt := tt) (te := te) (vs := vs) (σ := σ) (H1 := H1) (D := D) (Qd := Qd) Pv (h0 _ (same_new hD) upd_same) hG hs hd
end Cl

namespace Cl
open PySem PySem.Spec PyProof.Rows L2
section
variable {X : Cx}
theorem bool_beq (a b : Bool) : (Value.bool a == Value.bool b) = decide (a = b) := by
  cases a <;> cases b <;> rfl
theorem op_isB : OpR X (compareOp .Is) (fun x y H Q => ∃ a b, x = .bl a ∧ y = .bl b ∧ Q (.bl (decide (a = b))) H) := by
  intro pins s σ H x y v u Q I rx ry h
  obtain ⟨a, b, rfl, rfl, q⟩ := h
  cases rx
  cases ry
  exact wpAny_is_plain rfl (fin_bl I q (bool_beq a b).symm)
theorem op_isNotB : OpR X (compareOp .IsNot) (fun x y H Q => ∃ a b, x = .bl a ∧ y = .bl b ∧ Q (.bl (!decide (a = b))) H) := by
  intro pins s σ H x y v u Q I rx ry h
  obtain ⟨a, b, rfl, rfl, q⟩ := h
  cases rx
  cases ry
  exact wpAny_isNot_plain rfl (fin_bl I q (congrArg not (bool_beq a b).symm))
end
end Cl

set_option maxHeartbeats 0
namespace Cl
open PySem PySem.Spec PyProof.Rows L2
open GxR (TabB TabG)


theorem hoB_at {g : Int} {r : Ln} {c : Pt} {k m : Int} : hoB g r c k m = ((decide (rimL g c.1 * m ≤ 2 * r.1.1 * m + 2 * (r.2.1 - r.1.1) * k) && decide (2 * r.1.1 * m + 2 * (r.2.1 - r.1.1) * k < rimH g c.1 * m)) &&
    (decide (rimL g c.2 * m ≤ 2 * r.1.2 * m + 2 * (r.2.2 - r.1.2) * k) && decide (2 * r.1.2 * m + 2 * (r.2.2 - r.1.2) * k < rimH g c.2 * m))) := by
  have e : ∀ x d : Int, 2 * x * m + 2 * d * k = 2 * (x * m + d * k) := fun x d => by rw [Int.mul_add, Int.mul_assoc, Int.mul_assoc]
  rw [e, e]
  rfl
theorem eqv_tt (a b : Bool) : PyData.eqv (.list [.bool a, .bool b]) (.list [.bool true, .bool true]) = (a && b) := by
  cases a <;> cases b <;> simp [PyData.eqv, PyData.eqvAll]
theorem rep_dp {K : PySem.W.Frag} {H : Hp} {n : Nat} (h : n ≤ 2) : ∃ ds, DpAll K H (List.replicate n (V.int 1)) ds ∧ SeqAt.shaped (.list ds) = true ∧ PyData.eqv (.list ds) (.list []) = decide (n = 0) := by
  match n, h with
  | 0, _ => exact ⟨[], .nil, rfl, by simp [PyData.eqv, PyData.eqvAll]⟩
  | 1, _ => exact ⟨[.int 1], .cons (.int 1) .nil, rfl, by simp [PyData.eqv, PyData.eqvAll]⟩
  | 2, _ => exact ⟨[.int 1, .int 1], .cons (.int 1) (.cons (.int 1) .nil), rfl, by simp [PyData.eqv, PyData.eqvAll]⟩
def sd (p l u : Int) : Int := if 0 < p then u else l
theorem sd_at {p l u : Int} : atI [V.int l, .int u] (if decide (0 < p) = true then 1 else 0) = some (.int (sd p l u)) := by
  unfold sd
  by_cases h : 0 < p
  · rw [if_pos h, decide_eq_true h]; rfl
  · rw [if_neg h, decide_eq_false h]; rfl
theorem grt_sd {g : Int} {c : Pt} {p q : Int} : grt g c p q = p * sd p (rimL g c.1) (rimH g c.1) + q * sd q (rimL g c.2) (rimH g c.2) := by
  unfold grt gr1 sd
  split <;> split <;> rfl
theorem two_at {α : Type} {R : V → α → Prop} {vs : List V} {x y : α} (h : AllAt R vs [x, y]) : ∃ v w, vs = [v, w] ∧ R v x ∧ R w y := by
  match vs, h with
  | _, .cons h1 (.cons h2 .nil) => exact ⟨_, _, rfl, h1, h2⟩
def okSh (p : Int × Int) : Prop := (0 ≤ p.1 ∧ p.1 ≤ p.2) ∧ 0 < p.2 ∧ p.2 ≤ 2 ^ 46
def spAnyShare (K : PySem.W.Frag) : Sp := fun us H Q _ => ∃ d l L vs ps, us = [.ref d, .ref L] ∧ Deck H d l ∧ (L ≠ d ∧ L ≠ l) ∧ H L = some (.lst vs) ∧ AllAt (At2 K H) vs ps ∧ ps ≠ [] ∧ ps.length ≤ 30 ∧ (∀ p ∈ ps, okSh p) ∧
  ∀ w H' p, Step d l H H' → At2 K H' w p → (0 ≤ p.1 ∧ p.1 < 2 ^ 50) → (0 < p.2 ∧ p.2 < 2 ^ 50) → Q w H'
def spMeeting (K : PySem.W.Frag) : Sp := fun us H Q _ => ∃ d l L vs ps, us = [.ref d, .ref L] ∧ Deck H d l ∧ (L ≠ d ∧ L ≠ l) ∧ H L = some (.lst vs) ∧ AllAt (At2 K H) vs ps ∧ ps.length ≤ 30 ∧ (∀ p ∈ ps, okSh p) ∧
  ∀ w H' k m, Step d l H H' → Pap K H' w "meets" [k, m] → B50 [k, m] → Q w H'
def spMissing (K : PySem.W.Frag) : Sp := fun us H Q _ => ∃ d l g v r u c, us = [.ref d, .int g, v, u] ∧ Deck H d l ∧ AtL K H v r ∧ At2 K H u c ∧ BdW g r c ∧
  ∀ w H' p q t, Step d l H H' → Pap K H' w "misses" [p, q, t] → Q w H'
def spBeyondC (K : PySem.W.Frag) : Sp := fun us H Q _ => ∃ d l g v r, us = [.ref d, .int g, v] ∧ Deck H d l ∧ AtL K H v r ∧ 0 < g ∧ g ≤ 1000 ∧ BdR 1100000 r ∧
  ∀ w H' u1 u2 b c k m, Step d l H H' → w = .ref b → SqT K H' b [u1, u2] → At2 K H' u1 c → BdN 3000000 c → Pap K H' u2 "meets" [k, m] → B50 [k, m] → Q w H'
def spCPap (K : PySem.W.Frag) : Sp := fun us H Q _ => ∃ g v u w r c wd ns, us = [.int g, v, u, w] ∧ AtL K H v r ∧ At2 K H u c ∧ BdW g r c ∧ Pap K H w wd ns ∧ ns.length ≤ 9 ∧ SeqAt.shaped (.tuple [.str wd]) = true ∧
  ∀ H', Same H H' → Q (.bl (isMet g r c wd ns || isMiss g r c wd ns)) H'

theorem accI {α : Type} {H0 H' : Hp} {pD : Addr} {ps : List α} {F : α → Int} {i : Nat} {pt : α} (nD : H0 pD = none) (t1 : Same H0 H') (e : H' pD = some (.lst (((ps.take i).map F).map V.int))) (hp : ps[i]? = some pt) (len : ps.length ≤ 900) :
    ∃ acc, H' pD = some (.lst acc) ∧ acc.length < sizeLine ∧ Same H0 (upd H' pD (.lst (acc ++ [V.int (F pt)]))) ∧ (upd H' pD (.lst (acc ++ [V.int (F pt)]))) pD = some (.lst (((ps.take (i + 1)).map F).map V.int)) := by
  obtain ⟨acc, a1, a2, a3, a4⟩ := acc_new (y := V.int (F pt)) nD t1 e (by rw [List.length_map, List.length_map, List.length_take]; omega)
  refine ⟨acc, a1, a2, a3, ?_⟩
  rw [a4, List.take_add_one, hp, List.map_append, List.map_append]
  rfl


theorem acc2 {K : PySem.W.Frag} {H5 H' H7 : Hp} {pD p7 : Addr} {ws : List V} {ss : List (Int × Int)} {t : Int × Int} (nD : H5 pD = none) (t1 : Same H5 H') (e : H' pD = some (.lst ws))
    (all : AllAt (At2 K H') ws ss) (s7 : Same H' H7) (n7 : H' p7 = none) (g7 : H7 p7 = some (.tup [.int t.1, .int t.2])) (len : ss.length ≤ 900) :
    ∃ acc, H7 pD = some (.lst acc) ∧ acc.length < sizeLine ∧ (Same H5 (upd H7 pD (.lst (acc ++ [.ref p7]))) ∧
      ∃ ws', (upd H7 pD (.lst (acc ++ [.ref p7]))) pD = some (.lst ws') ∧ AllAt (At2 K (upd H7 pD (.lst (acc ++ [.ref p7])))) ws' (ss ++ [t])) := by
  have npD : pD ≠ p7 := ne_of_none e n7
  have k7 := s7 _ _ e
  have lw := all.length
  have sT : ∀ {o : HO} {b : Addr} {xs : List V}, SqT K H7 b xs → SqT K (upd H7 pD o) b xs := fun {o b xs} z => by
    rcases z with (z | ⟨oo, z⟩) | z
    · exact .inl (.inl (by rw [upd_ne (ne_of z k7 (by intro z; cases z))]; exact z))
    · exact .inl (.inr ⟨oo, by rw [upd_ne (ne_of z k7 (by intro z; cases z))]; exact z⟩)
    · exact .inr z
  refine ⟨ws, k7, small1000 (by omega), fun b o z => ?_, ws ++ [.ref p7], upd_same, ?_⟩
  · rw [upd_ne (ne_of_none z nD)]
    exact (t1.trans s7) _ _ z
  · refine AllAt.app (all.map fun v s h => ?_) (.cons ⟨p7, rfl, .inl (.inl ?_)⟩ .nil)
    · obtain ⟨b, rfl, h9⟩ := h.same s7
      exact ⟨b, rfl, sT h9⟩
    · rw [upd_ne npD.symm]
      exact g7

section
variable {P : Program} {w : World} {K : PySem.W.Frag} {mg : Str → Option Value} {base : Heap}

theorem ok_law_is_whole {f : Addr} {fd : FuncData} (F : Fun K "_law_is_whole" "_law_is_whole" s_law_is_whole f fd) (T : Bt mg) :
    FnG P w K mg base CX0 1 f fd ["_law_thing"] (spWhole K) := by
  refine okG (k := 0) F sc_law_is_whole (fun vs H Q E h => ?_) (fun cdv A outer s H vs Q E hr h => ?_)
  · obtain ⟨v, T, rfl, _⟩ := h
    rfl
  · obtain ⟨v, U, rfl, hk, q⟩ := h
    refine ⟨_, (pss_one (ps_ret (pe_and (pe_callB call_isi (by rfl) T.isinstance (by decide +kernel) (pa_cons (pv 0) (pa_cons (pe_bltn (v := .ty "int") (by rfl) T.int (by decide +kernel) rfl) pa_nil))) (pe_one (pe_not (pe_callB call_isi (by rfl) T.isinstance (by decide +kernel) (pa_cons (pv 0) (pa_cons (pe_bltn (v := .ty "bool") (by rfl) T.bool (by decide +kernel) rfl) pa_nil)))))))), ?_⟩
    refine ⟨_, rfl, _, _, _, _, _, rfl, .ty _, hk.ty, kit_ty hk.int?, _, rfl, ?_⟩
    cases hb : isB v with
    | true =>
      have e : (isI v || true) = true := by cases isI v <;> rfl
      rw [e]
      refine iteT ⟨_, rfl, _, _, _, _, _, rfl, .ty _, hk.ty, kit_ty hk.bool?, _, rfl, ?_⟩
      rw [hb]
      have e2 : isI v = false := by cases v <;> first | rfl | cases hb
      rw [e2] at q
      exact q
    | false =>
      rw [Bool.or_false]
      cases hi : isI v with
      | false =>
        rw [hi] at q
        exact iteF q
      | true =>
        rw [hi] at q
        refine iteT ⟨_, rfl, _, _, _, _, _, rfl, .ty _, hk.ty, kit_ty hk.bool?, _, rfl, ?_⟩
        rw [hb]
        exact q

end
end Cl

set_option maxHeartbeats 0
namespace Cl
open PySem PySem.Spec PyProof.Rows L2
open GxR (TabB TabG)


def spWaysA (K : PySem.W.Frag) : Sp := fun vs H Q _ => ∃ v r, vs = [v] ∧ AtL K H v r ∧ ∀ W u1 u2 H', Same H H' → SqT K H' W [u1, u2] → At2 K H' u1 (-(r.2.2 - r.1.2), r.2.1 - r.1.1) → At2 K H' u2 (r.2.2 - r.1.2, -(r.2.1 - r.1.1)) → Q (.ref W) H'
def BdT (r : Ln) : Prop := ∀ z ∈ ptsOf r, (-(2 ^ 64) < z.1 ∧ z.1 < 2 ^ 64) ∧ -(2 ^ 64) < z.2 ∧ z.2 < 2 ^ 64
theorem bdt_of {g : Int} {r : Ln} {c : Pt} (bd : BdW g r c) : BdT r := fun z hz => by
  obtain ⟨_, _, ⟨⟨x1, x2⟩, x3, x4⟩, ⟨⟨x5, x6⟩, x7, x8⟩, _⟩ := bd
  simp only [ptsOf, List.mem_cons, List.not_mem_nil, or_false] at hz
  rcases hz with rfl | rfl <;> exact ⟨⟨by omega, by omega⟩, by omega, by omega⟩
def spLeast (K : PySem.W.Frag) : Sp := fun vs H Q _ => ∃ v r p q, vs = [v, .int p, .int q] ∧ AtL K H v r ∧ BdT r ∧ ∀ H', Same H H' → Q (.int (lst r p q)) H'
def spByd (K : PySem.W.Frag) : Sp := fun vs H Q _ => ∃ g v u w r c z, vs = [.int g, v, u, w] ∧ AtL K H v r ∧ At2 K H u c ∧ At2 K H w z ∧ BdW g r c ∧ ∀ H', Same H H' → Q (.bl (byd g r c z)) H'
def wyF (g : Int) (r : Ln) (c : Pt) : Int × Int := ((waysR r).filter (byd g r c)).headD (0, 0)
def missN (g : Int) (r : Ln) (c : Pt) : List Int := [(wyF g r c).1, (wyF g r c).2, 2 * lst r (wyF g r c).1 (wyF g r c).2]
def spMissP (K : PySem.W.Frag) : Sp := fun vs H Q _ => ∃ g v u r c, vs = [.int g, v, u] ∧ AtL K H v r ∧ At2 K H u c ∧ BdW g r c ∧ ¬ Meets g r c ∧ ∀ w H', Same H H' → Pap K H' w "misses" (missN g r c) → byd g r c (wyF g r c) = true → Q w H'
theorem accW {K : PySem.W.Frag} {H5 H' : Hp} {pD : Addr} {ws : List V} {ss : List (Int × Int)} {t : Int × Int} {y : V} (nD : H5 pD = none) (t1 : Same H5 H') (e : H' pD = some (.lst ws))
    (all : AllAt (At2 K H') ws ss) (hy : At2 K H' y t) (len : ss.length ≤ 900) :
    ∃ acc, H' pD = some (.lst acc) ∧ acc.length < sizeLine ∧ (Same H5 (upd H' pD (.lst (acc ++ [y]))) ∧
      ∃ ws', (upd H' pD (.lst (acc ++ [y]))) pD = some (.lst ws') ∧ AllAt (At2 K (upd H' pD (.lst (acc ++ [y])))) ws' (ss ++ [t])) := by
  have lw := all.length
  have sT : ∀ {o : HO} {b : Addr} {xs : List V}, SqT K H' b xs → SqT K (upd H' pD o) b xs := fun {o b xs} z => by
    rcases z with (z | ⟨oo, z⟩) | z
    · exact .inl (.inl (by rw [upd_ne (ne_of z e (by intro z; cases z))]; exact z))
    · exact .inl (.inr ⟨oo, by rw [upd_ne (ne_of z e (by intro z; cases z))]; exact z⟩)
    · exact .inr z
  refine ⟨ws, e, small1000 (by omega), fun b o z => ?_, ws ++ [y], upd_same, ?_⟩
  · rw [upd_ne (ne_of_none z nD)]
    exact t1 _ _ z
  · obtain ⟨b2, rfl, h2⟩ := hy
    refine AllAt.app (all.map fun v s h => ?_) (.cons ⟨b2, rfl, sT h2⟩ .nil)
    obtain ⟨b, rfl, h9⟩ := h
    exact ⟨b, rfl, sT h9⟩
theorem wy_at {K : PySem.W.Frag} {H : Hp} {g : Int} {r : Ln} {c : Pt} {vs : List V} (h0 : 0 < g) (hn : ¬ Meets g r c) (h : AllAt (At2 K H) vs ((waysR r).filter (byd g r c))) : ∃ w, atI vs 0 = some w ∧ At2 K H w (wyF g r c) ∧ byd g r c (wyF g r c) = true := by
  unfold wyF
  cases e : (waysR r).filter (byd g r c) with
  | nil => exact absurd (sep h0 fun w hw => Bool.eq_false_iff.mpr fun z => by
      have := List.mem_filter.mpr ⟨hw, z⟩
      rw [e] at this
      cases this) hn
  | cons z zs =>
    rw [e] at h
    have hz : z ∈ (waysR r).filter (byd g r c) := by rw [e]; exact List.mem_cons_self ..
    cases h with
    | cons h1 _ => exact ⟨_, atI_nat (j := 0) rfl, h1, (List.mem_filter.mp hz).2⟩
theorem lst_min {r : Ln} {p q m : Int} (h1 : m = p * r.1.1 + q * r.1.2 ∨ m = p * r.2.1 + q * r.2.2) (h2 : m ≤ p * r.1.1 + q * r.1.2) (h3 : m ≤ p * r.2.1 + q * r.2.2) : m = lst r p q := by
  unfold lst
  split <;> omega

section
variable {P : Program} {w : World} {K : PySem.W.Frag} {mg : Str → Option Value} {base : Heap}

theorem okways_across {f : Addr} {fd : FuncData} (F : Fun K "ways_across" "ways_across" sways_across f fd) (T : Bt mg) (Dstep_of : Def P w K mg base 1 "step_of" ["line"] (spStep K)) :
    FnG P w K mg base CX0 2 f fd ["line"] (spWaysA K) := by
  refine okG (k := 1) F scways_across (fun vs H Q E h => ?_) (fun cdv A outer s H vs Q E hr h => ?_)
  · obtain ⟨v, r, rfl, _⟩ := h
    rfl
  · obtain ⟨v, r, rfl, hL, q⟩ := h
    refine ⟨_, (pss_cons (ps_asg (callD Dstep_of (hr.mono (by decide)) (pa_cons (pv 0) pa_nil)) (pg_tup (by rfl) (pgs_cons (pg_name (i := 1) scways_across.nd rfl (.inl rfl)) (pgs_cons (pg_name (i := 2) scways_across.nd rfl (.inl rfl)) pgs_nil))))
      (pss_one (ps_ret (tupN (pa_cons (tupN (pa_cons (pe_un un_neg (pv 2)) (pa_cons (pv 1) pa_nil))) (pa_cons (tupN (pa_cons (pv 2) (pa_cons (pe_un un_neg (pv 1)) pa_nil))) pa_nil)))))), ?_⟩
    refine ⟨_, rfl, v, r, rfl, hL, fun w H1 s1 e1 => ?_⟩
    obtain ⟨a4, rfl, h4⟩ := e1
    refine ⟨a4, _, rfl, h4, rfl, _, _, rfl, _, _, rfl, rfl, ?_⟩
    refine ⟨_, rfl, _, rfl, _, rfl, (by show 2 ≤ sizeLine; decide), fun p1 H2 n2 s2 e2 => ⟨_, rfl, _, rfl, _, rfl, (by show 2 ≤ sizeLine; decide), fun p2 H3 n3 s3 e3 => ⟨(by show 2 ≤ sizeLine; decide), fun p4 H4 n4 s4 e4 => ?_⟩⟩⟩
    exact q p4 _ _ H4 (s1.trans (s2.trans (s3.trans s4))) (.inl (.inl e4)) ⟨p1, rfl, .inl (.inl ((s3.trans s4) _ _ e2))⟩ ⟨p2, rfl, .inl (.inl (s4 _ _ e3))⟩

theorem okleast_by {f : Addr} {fd : FuncData} (F : Fun K "least_by" "least_by" sleast_by f fd) (T : Bt mg) :
    FnG P w K mg base CX0 1 f fd ["line", "p", "q"] (spLeast K) := by
  refine okG (k := 0) F scleast_by (fun vs H Q E h => ?_) (fun cdv A outer s H vs Q E hr h => ?_)
  · obtain ⟨v, r, p, q, rfl, _⟩ := h
    rfl
  · obtain ⟨v, r, p, q, rfl, hL, bT, Q1⟩ := h
    refine ⟨_, (pss_one (ps_ret (pe_callB (cr_min rfl) (by rfl) T.min (by decide +kernel) (pa_cons (pe_lc (own := [("x", 3), ("y", 4)]) (g := gTup K 2 (gCons (gName 3) (gCons (gName 4) gNil))) (tt := tYes) (by rfl) scleast_by.nd (pi_tup (pv 0)) (blkOk_by (own := [("x", 3), ("y", 4)]) (N := ["line", "p", "q", "x", "y"]) (sc := defScope sleast_by) (by decide +kernel)) (fun _ _ _ _ _ => (pg_tup (by rfl) (pgs_cons (pg_name (i := 3) scleast_by.nd rfl (.inl rfl)) (pgs_cons (pg_name (i := 4) scleast_by.nd rfl (.inl rfl)) pgs_nil)))) (fun _ _ _ _ _ => pts_nil) (fun _ _ _ _ _ => (pe_op op_add (pe_op op_mul (pv 1) (pv 3)) (pe_op op_mul (pv 2) (pv 4))))) pa_nil)))), ?_⟩
    obtain ⟨a, vs, rfl, h1, h2⟩ := pts_at hL
    refine ⟨_, rfl, a, rfl, ⟨_, h1⟩, fun pE nE => ?_⟩
    refine lcT (K := K) (a := a) (xs := vs) (fun i H' => Same H H' ∧ H' pE = some (.lst ((((ptsOf r).take i).map (fun z => p * z.1 + q * z.2)).map V.int))) nE (fun H' e1 e2 => ⟨e1, e2⟩) (fun i H' _ z => seT z.1 h1) (fun i z H' hz w => ?_) (fun H10 z => ?_)
    · obtain ⟨t1, t2⟩ := w
      obtain ⟨pt, hpt, b, rfl, hb⟩ := h2.get hz
      have hpm := List.mem_of_getElem? hpt
      refine ⟨b, _, rfl, seT t1 hb, rfl, _, _, rfl, _, _, rfl, rfl, rfl, ?_⟩
      obtain ⟨acc, a1, a2, a3, a4⟩ := accI (F := (fun z => p * z.1 + q * z.2)) nE t1 t2 hpt (by simp [ptsOf])
      exact ⟨_, rfl, _, rfl, _, _, rfl, rfl, .inr ((bT _ hpm).1), _, rfl, _, rfl, _, _, rfl, rfl, .inr ((bT _ hpm).2), _, _, rfl, rfl, acc, a1, a2, a3, a4⟩
    obtain ⟨z1, z2⟩ := z
    rw [List.take_of_length_le (by rw [h2.length]; exact Nat.le_refl _)] at z2
    refine ⟨pE, _, rfl, .inl (.inl z2), (by simp [ptsOf]), fun m hm1 hm2 => ?_⟩
    have k1 := hm2 (p * r.1.1 + q * r.1.2) (by simp [ptsOf])
    have k2 := hm2 (p * r.2.1 + q * r.2.2) (by simp [ptsOf])
    have k3 : m = p * r.1.1 + q * r.1.2 ∨ m = p * r.2.1 + q * r.2.2 := by simpa [ptsOf] using hm1
    rw [lst_min k3 k1 k2]
    exact Q1 _ z1

theorem oklies_beyond {f : Addr} {fd : FuncData} (F : Fun K "lies_beyond" "lies_beyond" slies_beyond f fd) (T : Bt mg) (Dleast_by : Def P w K mg base 1 "least_by" ["line", "p", "q"] (spLeast K)) (Dkeeps_below : Def P w K mg base 3 "keeps_below" ["grain", "corner", "p", "q", "r"] (spKeeps K)) :
    FnG P w K mg base CX0 4 f fd ["grain", "line", "corner", "way"] (spByd K) := by
  refine okG (k := 3) F sclies_beyond (fun vs H Q E h => ?_) (fun cdv A outer s H vs Q E hr h => ?_)
  · obtain ⟨g, v, u, w, r, c, z, rfl, _⟩ := h
    rfl
  · obtain ⟨g, v, u, _, r, c, z, rfl, hL, hc, ⟨aw, rfl, hw⟩, bd, q⟩ := h
    refine ⟨_, (pss_cons (ps_asg (pv 3) (pg_tup (by rfl) (pgs_cons (pg_name (i := 4) sclies_beyond.nd rfl (.inl rfl)) (pgs_cons (pg_name (i := 5) sclies_beyond.nd rfl (.inl rfl)) pgs_nil))))
      (pss_one (ps_ret (callD Dkeeps_below (hr.mono (by decide)) (pa_cons (pv 0) (pa_cons (pv 2) (pa_cons (pv 4) (pa_cons (pv 5) (pa_cons (pe_op op_mul pe_int (callD Dleast_by (hr.mono (by decide)) (pa_cons (pv 1) (pa_cons (pv 4) (pa_cons (pv 5) pa_nil))))) pa_nil))))))))), ?_⟩
    refine ⟨_, rfl, aw, _, rfl, hw, rfl, _, _, rfl, _, _, rfl, rfl, ?_⟩
    refine ⟨_, rfl, _, rfl, _, rfl, _, rfl, _, rfl, _, rfl, _, rfl, v, r, z.1, z.2, rfl, hL, bdt_of bd, fun H1 s1 => ⟨_, _, rfl, rfl, .inl (by decide), g, u, c, z.1, z.2, _, rfl, hc.same s1, ⟨bd.1, bd.2.1, bd.2.2.2.2⟩, fun H2 s2 => ?_⟩⟩
    exact q H2 (s1.trans s2)

theorem okmisses_paper {f : Addr} {fd : FuncData} (F : Fun K "misses_paper" "misses_paper" smisses_paper f fd) (T : Bt mg) (Dways_across : Def P w K mg base 2 "ways_across" ["line"] (spWaysA K)) (Dlies_beyond : Def P w K mg base 4 "lies_beyond" ["grain", "line", "corner", "way"] (spByd K)) (Dleast_by : Def P w K mg base 1 "least_by" ["line", "p", "q"] (spLeast K)) :
    FnG P w K mg base CX0 5 f fd ["grain", "line", "corner"] (spMissP K) := by
  refine okG (k := 4) F scmisses_paper (fun vs H Q E h => ?_) (fun cdv A outer s H vs Q E hr h => ?_)
  · obtain ⟨g, v, u, r, c, rfl, _⟩ := h
    rfl
  · obtain ⟨g, v, u, r, c, rfl, hL, hc, bd, hn, q⟩ := h
    refine ⟨_, (pss_cons (ps_set (i := 3) scmisses_paper.nd rfl (.inl rfl) (tupN (pa_cons (tupN (pa_cons pe_int (pa_cons pe_int pa_nil))) (pa_cons (tupN (pa_cons pe_int (pa_cons pe_int pa_nil))) (pa_cons (tupN (pa_cons (pe_un un_neg pe_int) (pa_cons pe_int pa_nil))) (pa_cons (tupN (pa_cons pe_int (pa_cons (pe_un un_neg pe_int) pa_nil))) (StX.pa_star (callD Dways_across (hr.mono (by decide)) (pa_cons (pv 1) pa_nil)) pa_nil)))))))
      (pss_cons (ps_asg (pe_ix ix_list (pe_lc (own := [("way", 6)]) (g := gName 6) (by rfl) scmisses_paper.nd (pi_tup (pv 3)) (blkOk_by (own := [("way", 6)]) (N := ["grain", "line", "corner", "ways", "p", "q", "way"]) (sc := defScope smisses_paper) (by decide +kernel)) (fun _ _ _ _ _ => (pg_name (i := 6) scmisses_paper.nd rfl (.inl rfl))) (fun _ _ _ _ _ => (pts_one (pt_val (callD Dlies_beyond (hr.mono (by decide)) (pa_cons (pv 0) (pa_cons (pv 1) (pa_cons (pv 2) (pa_cons (pv 6) pa_nil)))))))) (fun _ _ _ _ _ => (pv 6))) pe_int (fun _ _ => rfl)) (pg_tup (by rfl) (pgs_cons (pg_name (i := 4) scmisses_paper.nd rfl (.inl rfl)) (pgs_cons (pg_name (i := 5) scmisses_paper.nd rfl (.inl rfl)) pgs_nil))))
      (pss_one (ps_ret (tupN (pa_cons pe_str (pa_cons (pv 4) (pa_cons (pv 5) (pa_cons (pe_op op_mul pe_int (callD Dleast_by (hr.mono (by decide)) (pa_cons (pv 1) (pa_cons (pv 4) (pa_cons (pv 5) pa_nil))))) pa_nil))))))))), ?_⟩
    refine ⟨(by show 2 ≤ sizeLine; decide), fun p1 H1 n1 s1 e1 => ⟨(by show 2 ≤ sizeLine; decide), fun p2 H2 n2 s2 e2 => ⟨_, rfl, (by show 2 ≤ sizeLine; decide), fun p3 H3 n3 s3 e3 => ⟨_, rfl, (by show 2 ≤ sizeLine; decide), fun p4 H4 n4 s4 e4 => ?_⟩⟩⟩⟩
    have S4 := s1.trans (s2.trans (s3.trans s4))
    refine ⟨_, rfl, v, r, rfl, hL.same S4, fun W u1 u2 H5 s5 gW k1 k2 => ⟨W, _, rfl, .inl gW, (by show 6 ≤ sizeLine; decide), fun pW H6 n6 s6 e6 => ?_⟩⟩
    have e6 : H6 pW = some (.tup [.ref p1, .ref p2, .ref p3, .ref p4, u1, u2]) := e6
    have S6 := S4.trans (s5.trans s6)
    have t46 := s5.trans s6
    have hall : AllAt (At2 K H6) [.ref p1, .ref p2, .ref p3, .ref p4, u1, u2] (waysR r) := .cons ⟨p1, rfl, .inl (.inl ((s2.trans (s3.trans (s4.trans t46))) _ _ e1))⟩ (.cons ⟨p2, rfl, .inl (.inl ((s3.trans (s4.trans t46)) _ _ e2))⟩ (.cons ⟨p3, rfl, .inl (.inl ((s4.trans t46) _ _ e3))⟩ (.cons ⟨p4, rfl, .inl (.inl (t46 _ _ e4))⟩ (.cons (k1.same s6) (.cons (k2.same s6) .nil)))))
    refine ⟨_, rfl, pW, rfl, ⟨_, .inl (.inl e6)⟩, fun pD nD => ?_⟩
    refine lcT (K := K) (a := pW) (xs := [.ref p1, .ref p2, .ref p3, .ref p4, u1, u2]) (fun i H' => Same H6 H' ∧ ∃ ws, H' pD = some (.lst ws) ∧ AllAt (At2 K H') ws (((waysR r).take i).filter (byd g r c))) nD (fun H' e1 e2 => ⟨e1, [], e2, .nil⟩) (fun i H' _ z => .inl (.inl (z.1 _ _ e6))) (fun i x H' hx z => ?_) (fun H7 z => ?_)
    · obtain ⟨t1, ws, t2, t3⟩ := z
      obtain ⟨way, hy, hw⟩ := hall.get hx
      refine ⟨rfl, _, rfl, _, rfl, _, rfl, _, rfl, g, v, u, x, r, c, way, rfl, hL.same (S6.trans t1), hc.same (S6.trans t1), hw.same t1, bd, fun H8 s8 => ⟨_, rfl, ite2 (fun e => ?_) (fun e => ?_)⟩⟩
      · obtain ⟨acc, a1, a2, a3, ws', a4, a5⟩ := accW nD (t1.trans s8) (s8 _ _ t2) (t3.map fun _ _ z => z.same s8) ((hw.same t1).same s8) (Nat.le_trans (List.length_filter_le ..) (by rw [List.length_take]; exact Nat.le_trans (Nat.min_le_right ..) (show (6 : Nat) ≤ 900 by decide)))
        refine ⟨_, rfl, acc, a1, a2, a3, ws', a4, ?_⟩
        rw [List.take_add_one, hy, List.filter_append]
        rw [show List.filter (byd g r c) (some way).toList = [way] from List.filter_cons_of_pos e]
        exact a5
      · refine ⟨t1.trans s8, ws, s8 _ _ t2, ?_⟩
        rw [List.take_add_one, hy, List.filter_append]
        rw [show List.filter (byd g r c) (some way).toList = [] from List.filter_cons_of_neg e, List.append_nil]
        exact t3.map fun _ _ z => z.same s8
    obtain ⟨t1, ws, t2, t3⟩ := z
    obtain ⟨w0, h0, h1, h2⟩ := wy_at bd.1 hn t3
    obtain ⟨b0, rfl, hb0⟩ := h1
    refine ⟨pD, ws, 0, _, rfl, rfl, .inl (.inl t2), h0, b0, _, rfl, hb0, rfl, _, _, rfl, _, _, rfl, rfl, ?_⟩
    refine ⟨_, rfl, _, rfl, _, rfl, _, rfl, _, rfl, v, r, (wyF g r c).1, (wyF g r c).2, rfl, hL.same (S6.trans t1), bdt_of bd, fun H8 s8 => ⟨_, _, rfl, rfl, .inl (by decide), (by show 4 ≤ sizeLine; decide), fun pR HR nR sR eR => ?_⟩⟩
    exact q _ HR (S6.trans (t1.trans (s8.trans sR))) ⟨pR, rfl, .inl (.inl eR)⟩ h2

end
end Cl

set_option maxHeartbeats 0
namespace Cl
open PySem PySem.Spec PyProof.Rows L2
open GxR (TabB TabG)


open Classical in
noncomputable def papW (g : Int) (r : Ln) (c : Pt) : Str := if Meets g r c then "meets" else "misses"
open Classical in
noncomputable def papN (g : Int) (r : Ln) (c : Pt) : List Int := if Meets g r c then [(mw g r c).1, (mw g r c).2] else missN g r c
structure GoodP (g : Int) (r : Ln) (c : Pt) (wd : Str) (ns : List Int) : Prop where
  ok : (isMet g r c wd ns || isMiss g r c wd ns) = true
  len : ns.length ≤ 9
  b50 : wd = "meets" → B50 ns
  sh : SeqAt.shaped (.tuple [.str wd]) = true
  due : wd = "meets" ↔ Meets g r c
def spMP (K : PySem.W.Frag) : Sp := fun vs H Q _ => ∃ g v u r c, vs = [.int g, v, u] ∧ AtL K H v r ∧ At2 K H u c ∧ BdW g r c ∧ ∀ w H', Same H H' → Pap K H' w (papW g r c) (papN g r c) → GoodP g r c (papW g r c) (papN g r c) → Q w H'
theorem good_met {g : Int} {r : Ln} {c : Pt} (hm : Meets g r c) (ok : okW g r c (mw g r c)) : GoodP g r c "meets" [(mw g r c).1, (mw g r c).2] := by
  obtain ⟨q0, ⟨p0, p1⟩, ho, hb⟩ := ok
  refine ⟨?_, by simp, fun _ n hn => ?_, by decide +kernel, fun _ => hm, fun _ => rfl⟩
  · rw [Bool.or_eq_true]
    refine .inl ?_
    show (decide (("meets" : Str) = "meets") && (shQ _ _ && hoB g r c _ _)) = true
    rw [decide_eq_true rfl, shQ_iff.mpr ⟨by omega, p0, p1⟩, hoB_iff.mpr ho]
    rfl
  · simp only [List.mem_cons, List.not_mem_nil, or_false] at hn
    rcases hn with rfl | rfl <;> omega
theorem good_miss {g : Int} {r : Ln} {c : Pt} (hn : ¬ Meets g r c) (hb : byd g r c (wyF g r c) = true) : GoodP g r c "misses" (missN g r c) := by
  refine ⟨?_, by simp [missN], fun z => absurd z (by decide), by decide +kernel, fun z => absurd z (by decide), fun z => absurd z hn⟩
  rw [Bool.or_eq_true]
  refine .inr ?_
  unfold missN
  generalize wyF g r c = z at *
  show (decide (("misses" : Str) = "misses") && (!decide (z.1 = 0 ∧ z.2 = 0) && (keepB g c z.1 z.2 (2 * lst r z.1 z.2) && (ptsOf r).all (least z.1 z.2 (2 * lst r z.1 z.2))))) = true
  have h1 : ¬ (z.1 = 0 ∧ z.2 = 0) := fun ⟨y1, y2⟩ => by
    unfold byd at hb
    rw [y1, y2] at hb
    simp [keepB, grt, gr1, lst] at hb
  have l := lst_le r z.1 z.2
  rw [decide_eq_true rfl, decide_eq_false h1, show keepB g c z.1 z.2 (2 * lst r z.1 z.2) = true from hb]
  simp [ptsOf, least]
  omega

section
variable {P : Program} {w : World} {K : PySem.W.Frag} {mg : Str → Option Value} {base : Heap}

theorem okmeets_paper {f : Addr} {fd : FuncData} (F : Fun K "meets_paper" "meets_paper" smeets_paper f fd) (T : Bt mg) (Dshare_in : Def P w K mg base 4 "share_in" ["grain", "line", "corner"] (spShareF K)) (Dmisses_paper : Def P w K mg base 5 "misses_paper" ["grain", "line", "corner"] (spMissP K)) :
    FnG P w K mg base CX0 6 f fd ["grain", "line", "corner"] (spMP K) := by
  refine okG (k := 5) F scmeets_paper (fun vs H Q E h => ?_) (fun cdv A outer s H vs Q E hr h => ?_)
  · obtain ⟨g, v, u, r, c, rfl, _⟩ := h
    rfl
  · obtain ⟨g, v, u, r, c, rfl, hL, hc, bd, q⟩ := h
    refine ⟨_, (pss_cons (ps_set (i := 3) scmeets_paper.nd rfl (.inl rfl) (callD Dshare_in (hr.mono (by decide)) (pa_cons (pv 0) (pa_cons (pv 1) (pa_cons (pv 2) pa_nil)))))
      (pss_cons (ps_if (pt_cmpR op_isN (pv 3) pe_non (nomark _)) (pss_one (ps_ret (callD Dmisses_paper (hr.mono (by decide)) (pa_cons (pv 0) (pa_cons (pv 1) (pa_cons (pv 2) pa_nil)))))) pss_nil)
      (pss_cons (ps_asg (pv 3) (pg_tup (by rfl) (pgs_cons (pg_name (i := 4) scmeets_paper.nd rfl (.inl rfl)) (pgs_cons (pg_name (i := 5) scmeets_paper.nd rfl (.inl rfl)) pgs_nil))))
      (pss_one (ps_ret (tupN (pa_cons pe_str (pa_cons (pv 4) (pa_cons (pv 5) pa_nil))))))))), ?_⟩
    refine ⟨_, rfl, _, rfl, _, rfl, g, v, r, u, c, rfl, hL, hc, bd, fun hn H1 s1 => ?_, fun hm ok w H1 s1 e1 => ?_⟩
    · refine ⟨_, rfl, rfl, _, rfl, iteT ?_⟩
      refine ⟨_, rfl, _, rfl, _, rfl, g, v, u, r, c, rfl, hL.same s1, hc.same s1, bd, hn, fun w H2 s2 hp hb => ?_⟩
      have e1 : papW g r c = "misses" := if_neg hn
      have e2 : papN g r c = missN g r c := if_neg hn
      rw [e1, e2] at q
      exact q w H2 (s1.trans s2) hp (good_miss hn hb)
    · obtain ⟨a, rfl, ha⟩ := e1
      refine ⟨_, rfl, rfl, _, rfl, iteF ?_⟩
      refine ⟨_, rfl, a, _, rfl, ha, rfl, _, _, rfl, _, _, rfl, rfl, ?_⟩
      refine ⟨_, rfl, _, rfl, (by show 3 ≤ sizeLine; decide), fun p H2 n s e => ?_⟩
      have e1 : papW g r c = "meets" := if_pos hm
      have e2 : papN g r c = [(mw g r c).1, (mw g r c).2] := if_pos hm
      rw [e1, e2] at q
      exact q _ H2 (s1.trans s) ⟨p, rfl, .inl (.inl e)⟩ (good_met hm ok)

end
end Cl

set_option maxHeartbeats 0
namespace Cl
open PySem PySem.Spec PyProof.Rows L2
/-! ### a lambda of one parameter, made within a def, handed to max as key -/
/-- the table at P: what it tells are the objects at cs -/
def TabAt (P : Addr) (cs : List Addr) : HO := .ext fun h => ∃ ps : Array Value, h.get? P = some { cls := .none, data := .fields ps } ∧ TriplesOk ps.toList ∧ ∀ (pos : Pos) (cv : Value), codeAmong pos ps.toList = some cv → ∃ c ∈ cs, cv = .ref c
/-- the lambda table at P stands: its codes bear the name q -/
def LT (H : Hp) (P : Addr) (q : Str) : Prop := ∃ cs : List Addr, H P = some (TabAt P cs) ∧ ∀ c ∈ cs, c ≠ P ∧ H c = some (LamX.CodeO c q)
theorem Same.lt {H H' : Hp} {P : Addr} {q : Str} (s : Same H H') (t : LT H P q) : LT H' P q := by
  obtain ⟨cs, h1, h2⟩ := t
  exact ⟨cs, s _ _ h1, fun c hc => ⟨(h2 c hc).1, s _ _ (h2 c hc).2⟩⟩
/-- all but the table at P stays -/
def SameX (P : Addr) (H H' : Hp) : Prop := ∀ b o, b ≠ P → H b = some o → Keep (H' b) o
theorem SameX.trans {P : Addr} {H H1 H2 : Hp} (a : SameX P H H1) (b : SameX P H1 H2) : SameX P H H2 := fun c o n h => by
  have k := a c o n h
  cases o with
  | tbl ps => exact fun t => let ⟨ps1, e1, t1⟩ := k t; b c (.tbl ps1) n e1 t1
  | _ => exact b c _ n k
theorem Same.x {P : Addr} {H H' : Hp} (a : Same H H') : SameX P H H' := fun b o _ e => a b o e
section
variable {X : Cx} {pins : List (Addr × Obj)} {σ : L2.St} {H : Hp} {s : Shared}
theorem inv_tabE {P c : Addr} {q : Str} {cs : List Addr} {ps more : Array Value} {h' : Heap} {t' : Nat} (I : Inv X pins σ H s) (hP : H P = some (TabAt P cs)) (k : ∀ b o, b ≠ P → s.heap.get? b = some o → h'.get? b = some o)
    (hm : h'.get? P = some { cls := .none, data := .fields (ps ++ more) }) (ht : TriplesOk (ps ++ more).toList) (ha : ∀ (pos : Pos) (cv : Value), codeAmong pos (ps ++ more).toList = some cv → ∃ c' ∈ c :: cs, cv = .ref c') (hc : s.heap.objs.size ≤ c) (ho : ∃ (oc : Obj) (vs : Array Value) (t : Tok), h'.get? c = some oc ∧ oc.data = .fields vs ∧ vs[1]? = some (.str q t)) :
    Inv X pins σ (upd (upd H P (TabAt P (c :: cs))) c (LamX.CodeO c q)) { s with heap := h', toks := t' } := by
  have nC : H c = none := I.hok.fresh hc
  have nPc : P ≠ c := ne_of_none hP nC
  have at_ : ∀ b, b ≠ P → b ≠ c → upd (upd H P (TabAt P (c :: cs))) c (LamX.CodeO c q) b = H b := fun b h1 h2 => by rw [upd_ne h2, upd_ne h1]
  have atP : upd (upd H P (TabAt P (c :: cs))) c (LamX.CodeO c q) P = some (TabAt P (c :: cs)) := by rw [upd_ne nPc, upd_same]
  have nP : ∀ b u, H b = some u → (∀ φ, u ≠ .ext φ) → b ≠ P := fun b u e q z => by
    rw [z, hP] at e
    exact q _ (Option.some.inj e).symm
  have nN : ∀ b, H b = none → b ≠ P := fun b e z => by
    rw [z, hP] at e
    cases e
  have lt' : ∀ b o, s.heap.get? b = some o → b ≠ c := fun b o e z => by
    rw [z] at e
    exact Nat.lt_irrefl _ (Nat.lt_of_lt_of_le (Heap.lt_size e) hc)
  have sm : ∀ b u, H b = some u → b ≠ c := fun b u e => ne_of_none e nC
  refine I.step (g' := s.gens) (d' := s.drawn) (ch := []) (fun b hb => absurd hb (by simp)) (fun b o _ _ _ e n => k b o (nN b n) e) (fun b o _ _ _ e n => ⟨o.slots, k b o (nN b n) e⟩)
    (fun b o _ e n => by rw [at_ b (nN b n) (lt' b o e)]; exact n) (fun b o _ e => ?_) (fun b xs e => by rw [at_ b (nP b _ e (fun q z => by cases z)) (sm b _ e)]; exact e) (fun b o u e => by rw [at_ b (nP b _ e (fun q z => by cases z)) (sm b _ e)]; exact e) (fun b qs e => ?_) (fun m hn => ?_) (fun b u e => ?_) I.bare
  · by_cases hb : b = P
    · rw [hb]
      exact ⟨_, hm⟩
    · exact ⟨o, k b o hb e⟩
  · rw [at_ b (nP b _ e (fun q z => by cases z)) (sm b _ e), e]
    exact ⟨#[], by simp⟩
  · obtain ⟨ob, es, ep, ho, r⟩ := hn
    exact ⟨ob, es, ep, k _ ob (nN _ I.free) ho, r⟩
  · by_cases hb : b = c
    · rw [hb, upd_same] at e
      cases e
      rw [hb]
      obtain ⟨oc, vs, t, e1, e2, e3⟩ := ho
      exact ⟨⟨oc, vs, t, e1, e2, e3⟩, ⟨oc, e1⟩, fun h1 h2 ⟨oc, vs, t, a, b, c⟩ st => ⟨oc, vs, t, st _ a, b, c⟩⟩
    · by_cases hb2 : b = P
      · rw [hb2, atP] at e
        cases e
        rw [hb2]
        exact ⟨⟨_, hm, ht, ha⟩, ⟨_, hm⟩, fun h1 h2 ⟨ps, a, b, c⟩ st => ⟨ps, st _ a, b, c⟩⟩
      · rw [at_ b hb2 hb] at e
        refine (I.hok b u e).stay (fun d v hd q => k d v ?_ q) (fun d q => by rw [at_ d (nP d _ q (fun q z => by cases z)) (sm d _ q)]; exact q) fun d xs q => by rw [at_ d (nP d _ q (fun q z => by cases z)) (sm d _ q)]; exact q
        rcases hd with z | z
        · rw [z]
          exact hb2
        · exact nP d _ z (fun q z => by cases z)
/-- the lambda's object -/
def LamO (X : Cx) (params : Arguments) (body : Expr) (scope : Scope) (c' f : Addr) : HO := .ext fun h => ∃ pm ctv : Value, h.get? f = some (PySem.W.kla_obj "<lambda>" (X.env.qual ++ "<lambda>") params body scope (cloFrom X.env.cells scope.names []) pm c' ctv)
theorem lam_make3 {c P : Addr} {params : Arguments} {body : Expr} {scope : Scope} {pos : Pos} {E : Value → Shared → Prop} {Q : Value → Shared → Prop} (I : Inv X pins σ H s) (TB : GxR.TabB X.base X.mg c P) (hcode : X.env.code = .ref c)
    (hT : LT H P (X.env.qual ++ "<lambda>")) (hdef : defaultsOf params X.env = ([], [])) (hfree : ∀ y ∈ scope.names, y.2 = .free → ∃ c, X.env.cells.lookup y.1 = some c)
    (h : ∀ (f c' : Addr) (H1 : Hp) (s' : Shared), Inv X pins σ H1 s' → SameX P H H1 → LT H1 P (X.env.qual ++ "<lambda>") →
      H1 f = some (LamO X params body scope c' f) → H1 c' = some (LamX.CodeO c' (X.env.qual ++ "<lambda>")) → Q (.ref f) s') :
    wpAny (model X.prog X.w) X.A (eval (.Lambda params body scope pos) X.env) Q E s := by
  obtain ⟨cs, hP, hcs⟩ := hT
  obtain ⟨⟨ps, hP', ht, ha⟩, _, _⟩ := I.hok P _ hP
  refine PySem.W.kla_eval hdef ?_
  have bP : s.heap.BuiltinsAt X.mg P := TB.bm.keeps I.bk
  have fin : ∀ (f c' : Addr) (pm ctv : Value) (H1 : Hp) (s' : Shared) (o : Obj) (tk : Nat), Inv X pins σ H1 { s' with toks := tk } → SameX P H H1 → LT H1 P (X.env.qual ++ "<lambda>") → H1 c' = some (LamX.CodeO c' (X.env.qual ++ "<lambda>")) → s'.heap.objs.size = f →
      o = PySem.W.kla_obj "<lambda>" (X.env.qual ++ "<lambda>") params body scope (cloFrom X.env.cells scope.names []) pm c' ctv → Q (.ref f) { s' with heap := s'.heap.push o, toks := tk } := by
    intro f c' pm ctv H1 s' o tk J sx lt hc hf ho
    have hg : (s'.heap.push o).get? f = some o := by rw [← hf, ho]; exact Heap.get?_push_size _ rfl
    have nf : H1 f = none := J.hok.fresh (by show s'.heap.objs.size ≤ f; rw [hf]; exact Nat.le_refl _)
    have J2 := J.laid (a := f) (o := LamO X params body scope c' f) (h' := s'.heap.push o) (t' := tk) (fun b u e => Heap.get?_push_of_some _ e) (by show s'.heap.objs.size ≤ f; rw [hf]; exact Nat.le_refl _)
      ⟨⟨pm, ctv, by rw [hg, ho]⟩, ⟨o, hg⟩, fun h1 h2 ⟨pm, ctv, a⟩ st => ⟨pm, ctv, st _ a⟩⟩
    have sn := same_new (o := LamO X params body scope c' f) nf
    exact h f c' _ _ J2 (sx.trans sn.x) (sn.lt lt) upd_same (sn _ _ hc)
  cases hc : codeAmong pos ps.toList with
  | none =>
    refine PySem.W.kla_makeFunction (mg := X.mg) (c := c) (P := P) (ps := ps) (closure_ok hfree) I.ok.glob (I.mod.glob.keeps I.bk) hcode (TB.code.keeps I.bk) hP' ht hc TB.gP bP fun c' ctv h' tk hx hge hlt hrec htb => ?_
    obtain ⟨c2, oc, vs, t, e2, hoc, hd, hv⟩ := hrec
    cases e2
    have nC : H c' = none := I.hok.fresh hge
    have eL : (ps ++ #[rawInt pos.line, rawInt pos.col, .ref c']).toList = ps.toList ++ [rawInt pos.line, rawInt pos.col, .ref c'] := by simp
    have I1 := inv_tabE (t' := tk) (ps := ps) (more := #[rawInt pos.line, rawInt pos.col, .ref c']) (c := c') (q := X.env.qual ++ "<lambda>") (h' := h') I hP
      (fun b o hb e => hx b o hb e) htb (by rw [eL]; exact PySem.TriplesOk_snoc _ _ _ _ ht) (fun p' cv hcv => by
        rw [eL] at hcv
        rcases LamX.among_app _ ht hcv with z | z
        · obtain ⟨c0, e1, e2⟩ := ha p' cv z
          exact ⟨c0, List.mem_cons_of_mem _ e1, e2⟩
        · exact ⟨c', List.mem_cons_self .., z⟩) hge ⟨oc, vs, t, hoc, hd, hv⟩
    refine fin h'.objs.size c' ((X.mg "__name__").getD .none) ctv _ { s with heap := h' } _ tk I1 (fun b o nb e => ?_) ⟨c' :: cs, ?_, fun c0 h0 => ?_⟩ upd_same rfl rfl
    · rw [upd_ne (ne_of_none e nC), upd_ne nb]
      exact .of e
    · rw [upd_ne (ne_of_none hP nC), upd_same]
    · rcases List.mem_cons.mp h0 with rfl | h0
      · exact ⟨(ne_of_none hP nC).symm, upd_same⟩
      · obtain ⟨n0, e⟩ := hcs c0 h0
        refine ⟨n0, ?_⟩
        rw [upd_ne (ne_of_none e nC), upd_ne n0]
        exact e
  | some cv =>
    obtain ⟨c', hm, e⟩ := ha pos cv hc
    subst e
    refine PySem.W.kla_makeFunctionHit (mg := X.mg) (c := c) (P := P) (ps := ps) (closure_ok hfree) I.ok.glob (I.mod.glob.keeps I.bk) hcode (TB.code.keeps I.bk) hP' ht hc bP fun ctv h' tk hx hsz => ?_
    have I1 : Inv X pins σ H { s with heap := h', toks := tk } := I.kept hx
    exact fin h'.objs.size c' ((X.mg "__name__").getD .none) ctv H { s with heap := h' } _ tk I1 (fun b o _ e => .of e) ⟨cs, hP, hcs⟩ (hcs c' hm).2 rfl rfl
end
end Cl

set_option maxHeartbeats 0
namespace Cl
open PySem PySem.Spec PyProof.Rows L2
/-- a lambda's scope: its one parameter a, captured names, globals -/
structure LamK (sc scope : Scope) (a : Str) : Prop where
  kind : scope.kind = .function
  co : scope.isCoroutine = false
  gen : scope.isGenerator = false
  nocell : ∀ y ∈ scope.names, y.2 ≠ .cell
  own : ∀ y ∈ scope.names, y.2 = .local → y.1 = a
  par : scope.names.lookup a = some .local
  free : ∀ y ∈ scope.names, y.2 = .free → sc.names.lookup y.1 = some .cell ∨ sc.names.lookup y.1 = some .free
def lamKB (sc scope : Scope) (a : Str) : Bool :=
  decide (scope.kind = .function) && (!scope.isCoroutine && (!scope.isGenerator && (decide (scope.names.lookup a = some .local) && scope.names.all fun y => !decide (y.2 = .cell) && ((!decide (y.2 = .local) || decide (y.1 = a)) && (!decide (y.2 = .free) || (decide (sc.names.lookup y.1 = some .cell) || decide (sc.names.lookup y.1 = some .free)))))))
theorem lamK_by {sc scope : Scope} {a : Str} (h : lamKB sc scope a = true) : LamK sc scope a := by
  unfold lamKB at h
  simp only [Bool.and_eq_true, Bool.or_eq_true, Bool.not_eq_true', decide_eq_true_eq, decide_eq_false_iff_not, List.all_eq_true] at h
  obtain ⟨h1, h2, h3, h4, h5⟩ := h
  refine ⟨h1, h2, h3, fun y hy => (h5 y hy).1, fun y hy e => ?_, h4, fun y hy e => ?_⟩
  · rcases (h5 y hy).2.1 with z | z
    · exact absurd e z
    · exact z
  · rcases (h5 y hy).2.2 with z | z
    · exact absurd e z
    · exact z
theorem LamK.has {X : Cx} {scope : Scope} {a : Str} (L : LamK X.env.scope scope a) (ok : X.Ok) : ∀ y ∈ scope.names, y.2 = .free → ∃ c, X.env.cells.lookup y.1 = some c := fun y hy e => by
  rcases L.free y hy e with k | k
  · exact ok.has _ (.inl k)
  · exact ok.has _ (.inr k)
/-- the context of the lambda's body -/
def lamCx1 (X : Cx) (a : Str) (A : Around) (outer : List Env) (s : Shared) (H : Hp) (scope : Scope) (f c' : Addr) : Cx where
  prog := X.prog
  w := X.w
  K := X.K
  mg := X.mg
  base := X.base
  A := A.deeper (LamX.lamEnv X scope s.heap.objs.size f c')
  N := a :: X.N
  s_0 := s
  H_0 := H
  env := LamX.lamEnv X scope s.heap.objs.size f c'
  outer := outer
  stack := LamX.lamEnv X scope s.heap.objs.size f c' :: outer
  ex := []
  fn := fun _ => false
  calm := true
  pn := []
  xe := fun _ _ => False
section
variable {X : Cx} {pins : List (Addr × Obj)} {σ : L2.St} {H : Hp} {s : Shared}
theorem lam_start1 {A : Around} {outer : List Env} {scope : Scope} {a : Str} {v : V} {u : Value} {f c' : Addr} {h₁ : Heap} {tk : Nat} (I : Inv X pins σ H s) (L : LamK X.env.scope scope a) (e0 : Env0 X.prog X.w X.K X.mg X.base A outer s H) (hd : A.handled = none) (ha : a ∉ X.N) (r : RelV v u)
    (hns : h₁.Ns s.heap.objs.size fun y => ([(a, u)] : List (Str × Value)).reverse.lookup y) (kp : ∀ b o, s.heap.get? b = some o → h₁.get? b = some o) :
    Inv (lamCx1 X a A outer s H scope f c') [] (some v :: σ) H { s with heap := h₁, toks := tk } := by
  have hfree := L.has I.ok
  have cm : ∀ {y c}, (cloFrom X.env.cells scope.names []).lookup y = some c → X.env.cells.lookup y = some c := fun {y c} e => by
    rcases cloFrom_mem (PySem.mem_of_lookup e) with hm | ⟨h1, h2⟩
    · cases hm
    · obtain ⟨c1, hc⟩ := hfree _ h1 rfl
      have hc : X.env.cells.lookup y = some c1 := hc
      have e2 : c = c1 := by
        rw [h2, hc] <;> rfl
      rw [e2]
      exact hc
  have look : ∀ {y}, scope.names.lookup y = some .free → ∃ c, (cloFrom X.env.cells scope.names []).lookup y = some c := fun {y} hl => by
    have hy : (y, NameKind.free) ∈ scope.names := PySem.mem_of_lookup hl
    exact mem_lookup (cloFrom_has (cells := X.env.cells) (acc := []) hy)
  have cellK : ∀ {c : Addr} {v : Option Value}, H c = none → s.heap.IsCell c v → h₁.IsCell c v := fun {c v} n ⟨o, ho, hd⟩ => ⟨_, kp _ _ ho, hd⟩
  have noA : ∀ b : Addr, b ∉ (lamCx1 X a A outer s H scope f c').ex := fun b z => absurd (show b ∈ ([] : List Addr) from z) (by simp)
  refine ⟨⟨e0.mod, L.kind, rfl, rfl, Nat.le_refl _, fun y z c e1 e2 => I.ok.inj y z c (cm e1) (cm e2), fun y hy => ?_, fun y c z _ => ?_, fun _ => hd, Around.frames_deeper e0.frames, .inr ⟨rfl, rfl⟩, fun b z => absurd z (noA b), e0.bs, e0.bsz, fun b _ _ => noA b,
      fun b z => absurd z (noA b), e0.funs, e0.frf⟩,
    rfl, e0.bare, Un.kept kp, ⟨_, hns, fun i y v' e1 e2 e3 => ?_⟩, fun y c e => ?_, e0.hok.fresh (Nat.le_refl _), fun y c e => ?_, fun q hq => absurd (show q ∈ ([] : List (Addr × Obj)) ++ [] from hq) (by simp), e0.hok.kept kp, ?_⟩
  · have hy : scope.names.lookup y = some .cell ∨ scope.names.lookup y = some .free := hy
    rcases hy with hy | hy
    · exact absurd rfl (L.nocell _ (PySem.mem_of_lookup hy))
    · exact look hy
  · have z : false = true := z
    cases z
  · have e3 : Vis scope y := e3
    cases i with
    | zero =>
      have e1 : some a = some y := e1
      have e2 : some (some v) = some (some v') := e2
      cases e1
      cases e2
      refine ⟨u, r, .inl ⟨L.par, ?_⟩⟩
      show List.lookup a [(a, u)] = some u
      simp
    | succ i =>
      have e1 : X.N[i]? = some y := e1
      have e2 : σ[i]? = some (some v') := e2
      rcases e3 with k | k | k
      · exact absurd (by rw [← L.own _ (PySem.mem_of_lookup k) rfl]; exact List.mem_of_getElem? e1) ha
      · exact absurd rfl (L.nocell _ (PySem.mem_of_lookup k))
      · obtain ⟨m, hn, hl⟩ := I.loc
        have hvis : Vis X.env.scope y := (L.free _ (PySem.mem_of_lookup k) rfl).elim (fun k => .inr (.inl k)) (fun k => .inr (.inr k))
        obtain ⟨w', r, q⟩ := hl i y v' e1 e2 hvis
        obtain ⟨c2, h2⟩ := look k
        refine ⟨w', r, .inr ⟨.inr k, c2, h2, ?_⟩⟩
        have c1 := cm h2
        rcases q with ⟨k', _⟩ | ⟨_, c3, e', z⟩
        · have k' : X.env.scope.names.lookup y = some .local := k'
          rcases L.free _ (PySem.mem_of_lookup k) rfl with k2 | k2 <;> rw [show X.env.scope.names.lookup y = _ from k2] at k' <;> cases k'
        · rw [c1] at e'
          cases e'
          exact cellK (I.freeC y _ c1) z
  · obtain ⟨w', z⟩ := I.cell y c (cm e)
    exact ⟨w', cellK (I.freeC y c (cm e)) z⟩
  · exact I.freeC y c (cm e)
  · show (some v :: σ).length = (a :: X.N).length
    rw [List.length_cons, List.length_cons, I.len]
/-- the lambda called within a built-in -/
theorem call_key {k : Nat} {params : Arguments} {body : Expr} {scope : Scope} {a : Str} {f c' : Addr} {v : V} {u : Value} {t : TE} {Q : VK} (I : Inv X pins σ H s) (L : LamK X.env.scope scope a) (ha : a ∉ X.N) (hf : H f = some (LamO X params body scope c' f)) (hc : H c' = some (LamX.CodeO c' (X.env.qual ++ "<lambda>")))
    (hbind : ∀ (q : Str) (cl : List (Str × Addr)) (pm cv ctv u : Value), bindArgs (PySem.W.kla_fn "<lambda>" q params body scope cl pm cv ctv) ⟨[u], []⟩ = pure [(a, u)])
    (hr : RG (k + 2) X.A) (hbody : ∀ (A : Around) (outer : List Env) (s : Shared) (H : Hp), RG k (A.deeper (LamX.lamEnv X scope s.heap.objs.size f c')) → PE (lamCx1 X a A outer s H scope f c') body t)
    (r : RelV v u) (ht : t (some v :: σ) H Q) :
    wpAny (model X.prog X.w) X.A.in1 (call (.ref f) [u]) (EP X pins σ Q) (fun _ _ => False) s := by
  obtain ⟨⟨pm, ctv, of1⟩, _, _⟩ := I.hok f _ hf
  obtain ⟨⟨oc, vs, tt, hoc, hdc, hvc⟩, _, _⟩ := I.hok c' _ hc
  have hr1 : RG (k + 1) X.A.in1 := ⟨hr.room.in1, hr.gd⟩
  have e0 : Env0 X.prog X.w X.K X.mg X.base X.A.in1 X.stack s H := ⟨I.ok.frames, I.ok.mod, I.bs, Nat.le_trans I.ok.bsz I.sz, I.stack, I.stkFree, I.hok, I.bare⟩
  have rc : codeAny (model X.prog X.w) X.A.in1 (.call (.ref f) ⟨[u], []⟩) (CR CX0 X.stack X.prog X.w H s Q E0) s := by
    refine PySem.W.kla_callFunE hr1.room.depth of1 rfl L.co L.gen rfl ⟨c', oc, vs, tt, rfl, hoc, hdc, hvc⟩ ?_
    rw [hbind]
    refine wpAny_pure (wpAny_newFunctionEnv (fun y hy => L.nocell y hy) (fun y hy => by rw [List.mem_singleton.mp hy]; exact L.par) (fun h₁ hns hsb => ⟨I.nolimit.fresh _ hsb, ?_⟩) L.kind)
    show codeAny _ _ (.expr body (LamX.lamEnv X scope s.heap.objs.size f c')) _ _
    have kp : ∀ b o, s.heap.get? b = some o → h₁.get? b = some o := fun b o e => hsb.extBut b o (Nat.ne_of_lt (Heap.lt_size e)) (Heap.get?_push_of_some _ e)
    have J := lam_start1 (f := f) (c' := c') (tk := s.toks + 1) I L e0 hr1.room.hd ha r hns kp
    have hr2 : RG k (X.A.in1.deeper (LamX.lamEnv X scope s.heap.objs.size f c')) := ⟨hr1.room.deeper _, hr1.gd⟩
    refine PySem.W.kla_codeExpr (wpAny_mono ((hbody X.A.in1 X.stack s H hr2).run [] _ _ H Q J ht) (fun v s' hq => ?_) fun e s' hq => (show False from hq).elim)
    obtain ⟨w', H', J', rv, q⟩ := hq
    exact ⟨w', H', J'.os, J'.bare, J'.base, J'.hok, rv, q⟩
  refine wpAny_call (codeAny_mono rc fun r s' hq => ?_)
  cases r with
  | error e => exact hq.elim
  | ok fl =>
    cases fl with
    | ret u => exact I.after hq
    | next => exact False.elim hq
    | brk => exact False.elim hq
    | cont => exact False.elim hq
end
end Cl

set_option maxHeartbeats 0
namespace Cl
open PySem PySem.Spec PyProof.Rows L2
section
variable {X : Cx} {pins : List (Addr × Obj)} {σ : L2.St} {H0 H : Hp} {s : Shared}
theorem Same.tupS {H H' : Hp} {t : Addr} {vs : List V} (s : Same H H') (h : SqT X.K H t vs) : SqT X.K H' t vs := seT s h
theorem max_loopI {t f S It : Addr} {vs : List V} {R : Result → Shared → Prop} (kf : Nat → Int) (hh : X.A.handled = none) (hS : SqT X.K H0 t vs) (hSI : S ≠ It) (htI : t ≠ It)
    (fS : ∀ H', H' S = none → FpOk X pins H' S) (fI : ∀ H', H' It = none → FpOk X pins H' It)
    (turn : ∀ (i : Nat) (x : V) (u : Value) (pins' : List (Addr × Obj)) (H : Hp) (s : Shared), vs[i]? = some x → RelV x u → Inv X pins' σ H s → Same H0 H →
      wpAny (model X.prog X.w) X.A.in1 (call (.ref f) [u]) (EP X pins' σ (fun y H' => y = .int (kf i) ∧ Same H0 H')) (fun _ _ => False) s)
    (hR : ∀ (i : Nat) (x : V) (u : Value) (H : Hp) (s : Shared), vs[i]? = some x → RelV x u → (∀ j, j < vs.length → kf i ≥ kf j ∧ (j < i → kf i > kf j)) → Inv X pins σ H s → Same H0 H → R (.ok (.ret u)) s) :
    ∀ (r j i : Nat) (H : Hp) (s : Shared) (xb : V) (ub : Value) (tb : Tok) (c : Nat), vs.length - (j + 1) = r → j + 1 ≤ vs.length → Inv X pins σ H s → Same H0 H → H S = none → H It = none →
      s.heap.get? S = some (seqObj "list" #[ub, .int (kf i) tb] c) → s.heap.IsTupleIter It t (j + 1) → vs[i]? = some xb → RelV xb ub → i ≤ j → (∀ j', j' ≤ j → kf i ≥ kf j' ∧ (j' < i → kf i > kf j')) →
      codeAny (model X.prog X.w) X.A (.builtin "max.loop" ⟨[.ref It, .ref f, .ref S], []⟩) R s := by
  have hname : (toString "max" ++ toString ".loop" : String) = "max.loop" := by decide
  intro r
  induction r with
  | zero =>
    intro j i H s xb ub tb c hr hj I sm nS nI gS hit hxb hub hij hbest
    have hin : j + 1 = vs.length := by omega
    obtain ⟨its, rv, tup, hz⟩ := I.tuple (seT sm hS)
    have W := Walks.tuple (prog := X.prog) (w := X.w) (A := X.A.in1) hh It t htI its.toArray
    have hsz : its.toArray.size = vs.length := by rw [List.size_toArray]; exact rv.length.symm
    refine codeAny_builtin PySem.F.entry_max_loop ?_
    rw [Around.under_plainId PySem.F.plain_max_loop _]
    show wpAny _ X.A.in1 (seqItems? (.ref S) >>= _) _ _ _
    refine wpAny_bind (wpAny_seqItems gS rfl ?_)
    show wpAny _ X.A.in1 (tryCatch (pyNext (.ref It)) _ >>= _) _ _ _
    refine wpAny_bind (wpAny_tryCatch (W.done _ _ _ ⟨by rw [hsz, ← hin]; exact hit, tup⟩ fun h' tk' hk' => ?_))
    obtain ⟨_, i1, i2, i3, i4, i5⟩ := fI H nI
    obtain ⟨_, s1, s2, s3, s4, s5⟩ := fS H nS
    have I1 := I.turned (h' := h') (t' := tk') (it := It) (fun b o hb e => hk' b o (by simpa using hb) e) nI i1 i3 i4 i5
    have gS' := hk' S _ (by simpa using hSI) gS
    show wpAny _ X.A.in1 (updateSeq S (fun _ => #[]) >>= _) _ _ _
    refine wpAny_bind ?_
    refine wpAny_updateSeq gS' rfl (wpAny_bind (wpAny_letGo (wpAny_pure ?_)))
    have I2 := I1.turned (h' := h'.update S (Obj.mapSeq fun _ => (#[] : Array Value))) (t' := tk') (it := S) (fun b o hb e => (Heap.get?_update_ne _ _ _ _ hb).trans e) nS s1 s3 s4 s5
    exact hR i xb ub H _ hxb hub (fun j' hj' => hbest j' (by omega)) I2 sm
  | succ r ih =>
    intro j i H s xb ub tb c hr hj I sm nS nI gS hit hxb hub hij hbest
    have hlt : j + 1 < vs.length := by omega
    obtain ⟨its, rv, tup, hz⟩ := I.tuple (seT sm hS)
    have W := Walks.tuple (prog := X.prog) (w := X.w) (A := X.A.in1) hh It t htI its.toArray
    have hsz : its.toArray.size = vs.length := by rw [List.size_toArray]; exact rv.length.symm
    refine codeAny_builtin PySem.F.entry_max_loop ?_
    rw [Around.under_plainId PySem.F.plain_max_loop _]
    show wpAny _ X.A.in1 (seqItems? (.ref S) >>= _) _ _ _
    refine wpAny_bind (wpAny_seqItems gS rfl ?_)
    show wpAny _ X.A.in1 (tryCatch (pyNext (.ref It)) _ >>= _) _ _ _
    refine wpAny_bind (wpAny_tryCatch (W.item (j + 1) _ _ _ (by rw [hsz]; exact hlt) ⟨hit, tup⟩ fun v h' tk' hP hst' hk' => ?_))
    have hv : its[j + 1]? = some v := by simpa using hP
    obtain ⟨x, hx⟩ : ∃ x, vs[j + 1]? = some x := ⟨_, List.getElem?_eq_getElem hlt⟩
    obtain ⟨v', ev, rel⟩ := rv.get hx
    obtain rfl : v' = v := Option.some.inj (ev.symm.trans hv)
    obtain ⟨_, i1, i2, i3, i4, i5⟩ := fI H nI
    obtain ⟨_, s1, s2, s3, s4, s5⟩ := fS H nS
    have I1 := I.turned (h' := h') (t' := tk') (it := It) (fun b o hb e => hk' b o (by simpa using hb) e) nI i1 i3 i4 i5
    have gS' := hk' S _ (by simpa using hSI) gS
    obtain ⟨oI', hoI', hoc, hod⟩ := id hst'.1
    have J : Inv X (pins ++ [(S, seqObj "list" #[ub, .int (kf i) tb] c), (It, oI')]) σ H { s with heap := h', toks := tk' } := I1.pins_of fun p hp => by
      rcases List.mem_append.mp hp with hp | hp
      · exact I1.pin p (List.mem_append_right _ hp)
      · rcases List.mem_cons.mp hp with rfl | hp
        · exact ⟨gS', nS, s1, s2, fun v z => nomatch z⟩
        · rw [List.mem_singleton.mp hp]
          exact ⟨hoI', nI, i1, i2, fun v z => by rw [show (It, oI').2.data = oI'.data from rfl, hod] at z; cases z⟩
    show wpAny _ X.A.in1 (tryCatch (holding [v'] (call (.ref f) [v'])) _ >>= _) _ _ _
    refine wpAny_bind (wpAny_tryCatch (wpAny_holding (wpAny_mono (turn (j + 1) x v' _ H _ hx rel J sm) (fun y s2 he => ?_) fun _ _ hF => hF.elim)))
    obtain ⟨yv, H2, J2, ry, rfl, sm2⟩ := he
    obtain ⟨t2, rfl⟩ := ry
    have pS := J2.pin (S, seqObj "list" #[ub, .int (kf i) tb] c) (List.mem_append_right _ (List.mem_append_right _ (.head _)))
    have pI := J2.pin (It, oI') (List.mem_append_right _ (List.mem_append_right _ (.tail _ (.head _))))
    have J3 : Inv X pins σ H2 s2 := J2.pins_of fun p hp => J2.pin p (List.mem_append_right _ (List.mem_append_left _ hp))
    have hit2 : s2.heap.IsTupleIter It t (j + 1 + 1) := ⟨oI', pI.1, hoc, hod⟩
    show wpAny _ X.A.in1 (tryCatch (holding [v', .int (kf (j + 1)) t2] (richCompare .Gt (.int (kf (j + 1)) t2) (.int (kf i) tb) >>= _)) _ >>= _) _ _ _
    refine wpAny_bind (wpAny_tryCatch (wpAny_holding (wpAny_bind (CmpOf.ints_gt (prog := X.prog) (w := X.w) (A := X.A.in1) (P := fun i v => ∃ t, v = .int (kf i) t) kf (fun i v h => h) (j + 1) i _ _ _ _ _ ⟨t2, rfl⟩ ⟨tb, rfl⟩ ?_))))
    refine wpAny_bind (wpAny_holding (wpAny_truthy_bool ?_))
    refine wpAny_bind (wpAny_letGo (wpAny_pure ?_))
    by_cases hb' : kf (j + 1) > kf i
    · obtain ⟨c2, hc2⟩ : ∃ c2, (s2.heap.update S (Obj.mapSeq fun _ => #[v', .int (kf (j + 1)) t2])).get? S = some (seqObj "list" #[v', .int (kf (j + 1)) t2] c2) := ⟨_, get?_update_seq pS.1 fun _ => #[v', .int (kf (j + 1)) t2]⟩
      simp only [hb', decide_true, if_true]
      refine wpAny_bind ?_
      refine wpAny_updateSeq pS.1 rfl (wpAny_bind (wpAny_letGo ?_))
      rw [hname]
      have I4 := J3.turned (h' := s2.heap.update S (Obj.mapSeq fun _ => #[v', .int (kf (j + 1)) t2])) (t' := s2.toks) (it := S) (fun b o hb e => (Heap.get?_update_ne _ _ _ _ hb).trans e) pS.2.1 s1 s3 s4 s5
      refine wpAny_pure ⟨plainId_quiet PySem.F.plain_max_loop _, ih (j + 1) (j + 1) H2 _ x v' t2 c2 (by omega) hlt I4 sm2 pS.2.1 pI.2.1 hc2 ⟨oI', (Heap.get?_update_ne _ _ _ _ hSI.symm).trans pI.1, hoc, hod⟩ hx rel (Nat.le_refl _) fun j' hj' => ?_⟩
      by_cases e : j' = j + 1
      · subst e
        exact ⟨by omega, fun _ => by omega⟩
      · have hb1 := hbest j' (by omega)
        have hb2 := hb1.1
        exact ⟨by omega, fun _ => by omega⟩
    · simp only [hb', decide_false, Bool.false_eq_true, if_false]
      refine wpAny_bind (wpAny_letGo ?_)
      rw [hname]
      refine wpAny_pure ⟨plainId_quiet PySem.F.plain_max_loop _, ih (j + 1) i H2 _ xb ub tb c (by omega) hlt J3 sm2 pS.2.1 pI.2.1 pS.1 hit2 hxb hub (by omega) fun j' hj' => ?_⟩
      by_cases e : j' = j + 1
      · subst e
        exact ⟨by omega, fun _ => by omega⟩
      · exact hbest j' (by omega)
/-- max(t, key=f), t a tuple -/
theorem max_keyI {t f : Addr} {vs : List V} {Q : Value → Shared → Prop} {E : Value → Shared → Prop} (kf : Nat → Int) (hh : X.A.handled = none) (I : Inv X pins σ H s) (hS : SqT X.K H t vs) (hne : 0 < vs.length)
    (turn : ∀ (i : Nat) (x : V) (u : Value) (pins' : List (Addr × Obj)) (H1 : Hp) (s : Shared), vs[i]? = some x → RelV x u → Inv X pins' σ H1 s → Same H H1 →
      wpAny (model X.prog X.w) X.A.in1 (call (.ref f) [u]) (EP X pins' σ (fun y H' => y = .int (kf i) ∧ Same H H')) (fun _ _ => False) s)
    (hQ : ∀ (i : Nat) (x : V) (u : Value) (H1 : Hp) (s : Shared), vs[i]? = some x → RelV x u → (∀ j, j < vs.length → kf i ≥ kf j ∧ (j < i → kf i > kf j)) → Inv X pins σ H1 s → Same H H1 → Q u s) :
    wpAny (model X.prog X.w) X.A (call (.builtin "max") [.ref t] [(Str.ofString "key", .ref f)]) Q E s := by
  have hname : (toString "max" ++ toString ".loop" : String) = "max.loop" := by decide
  obtain ⟨its, rv, tup, hz⟩ := I.tuple hS
  have htt : t < s.heap.objs.size := by obtain ⟨o, e, _⟩ := id tup; exact Heap.lt_size e
  refine kmk_tree PySem.F.kind_max PySem.F.plain_max PySem.F.entry_max (kmk_max_key _ _) ?_
  show wpAny _ X.A.in1 (Builtin.Builtins.bindParams "max" ["key", "default"] 0 ⟨[], [(Str.ofString "key", .ref f)]⟩ >>= _) _ _ s
  refine wpAny_bind (wpAny_of_eq (show Builtin.Builtins.bindParams "max" ["key", "default"] 0 ⟨[], [(Str.ofString "key", .ref f)]⟩ = pure [some (.ref f), none] from rfl) ?_)
  refine wpAny_bind (wpAny_pure ?_)
  refine wpAny_bind (wpAny_pyIter_tuple tup ?_)
  refine wpAny_bind (wpAny_newList ?_ (Nat.zero_le _))
  rw [hname]
  have hS1 : (s.heap.push { cls := .type "tuple_iterator", data := .fields #[.ref t, .int 0 0] }).objs.size = s.heap.objs.size + 1 := size_push' ..
  have htI : t ≠ s.heap.objs.size := Nat.ne_of_lt htt
  have hSI : (s.heap.push { cls := .type "tuple_iterator", data := .fields #[.ref t, .int 0 0] }).objs.size ≠ s.heap.objs.size := by rw [hS1]; exact Nat.ne_of_gt (Nat.lt_succ_self _)
  refine wpAny_pure ⟨plainId_quiet PySem.F.plain_max_loop _, ?_⟩
  have gI : ((s.heap.push { cls := .type "tuple_iterator", data := .fields #[.ref t, .int 0 0] }).push (seqObj "list" #[] 0)).get? s.heap.objs.size = some { cls := .type "tuple_iterator", data := .fields #[.ref t, .int 0 0] } :=
    Heap.get?_push_of_some _ (Heap.get?_push_size _ rfl)
  have gS : ((s.heap.push { cls := .type "tuple_iterator", data := .fields #[.ref t, .int 0 0] }).push (seqObj "list" #[] 0)).get? (s.heap.push { cls := .type "tuple_iterator", data := .fields #[.ref t, .int 0 0] }).objs.size = some (seqObj "list" #[] 0) := Heap.get?_push_size _ rfl
  have fI : ∀ H', H' s.heap.objs.size = none → FpOk X pins H' s.heap.objs.size := fun H' n => I.fpOk (Nat.le_refl _) n
  have fS : ∀ H', H' (s.heap.push { cls := .type "tuple_iterator", data := .fields #[.ref t, .int 0 0] }).objs.size = none → FpOk X pins H' (s.heap.push { cls := .type "tuple_iterator", data := .fields #[.ref t, .int 0 0] }).objs.size := fun H' n => I.fpOk (by rw [hS1]; exact Nat.le_succ _) n
  have nI : H s.heap.objs.size = none := I.hok.fresh (Nat.le_refl _)
  have nS : H (s.heap.push { cls := .type "tuple_iterator", data := .fields #[.ref t, .int 0 0] }).objs.size = none := I.hok.fresh (by rw [hS1]; exact Nat.le_succ _)
  have I0 : Inv X pins σ H { s with heap := (s.heap.push { cls := .type "tuple_iterator", data := .fields #[.ref t, .int 0 0] }).push (seqObj "list" #[] 0) } := I.kept (t' := s.toks) fun b o e => Heap.get?_push_of_some _ (Heap.get?_push_of_some _ e)
  have tup0 : ((s.heap.push { cls := .type "tuple_iterator", data := .fields #[.ref t, .int 0 0] }).push (seqObj "list" #[] 0)).IsTuple t its.toArray := by
    obtain ⟨o, e, r⟩ := id tup
    exact ⟨o, Heap.get?_push_of_some _ (Heap.get?_push_of_some _ e), r⟩
  generalize (s.heap.push { cls := .type "tuple_iterator", data := .fields #[.ref t, .int 0 0] }).objs.size = S at *
  generalize (s.heap.push { cls := .type "tuple_iterator", data := .fields #[.ref t, .int 0 0] }).push (seqObj "list" #[] 0) = h0 at *
  generalize s.heap.objs.size = It at *
  have W := Walks.tuple (prog := X.prog) (w := X.w) (A := X.A.in1) hh It t htI its.toArray
  have hsz : its.toArray.size = vs.length := by rw [List.size_toArray]; exact rv.length.symm
  refine codeAny_builtin PySem.F.entry_max_loop ?_
  rw [Around.under_plainId PySem.F.plain_max_loop _]
  show wpAny _ X.A.in1 (seqItems? (.ref _) >>= _) _ _ _
  refine wpAny_bind (wpAny_seqItems gS rfl ?_)
  show wpAny _ X.A.in1 (tryCatch (pyNext (.ref It)) _ >>= _) _ _ _
  refine wpAny_bind (wpAny_tryCatch (W.item 0 _ _ _ (by rw [hsz]; exact hne) ⟨⟨_, gI, rfl, rfl⟩, tup0⟩ fun v h' tk' hP hst' hk' => ?_))
  have hv : its[0]? = some v := by simpa using hP
  obtain ⟨x, hx⟩ : ∃ x, vs[0]? = some x := ⟨_, List.getElem?_eq_getElem hne⟩
  obtain ⟨v', ev, rel⟩ := rv.get hx
  obtain rfl : v' = v := Option.some.inj (ev.symm.trans hv)
  obtain ⟨_, i1, i2, i3, i4, i5⟩ := fI H nI
  obtain ⟨_, s1, s2, s3, s4, s5⟩ := fS H nS
  have I1 := I0.turned (h' := h') (t' := tk') (it := It) (fun b o hb e => hk' b o (by simpa using hb) e) nI i1 i3 i4 i5
  have gS' := hk' S _ (by simpa using hSI) gS
  obtain ⟨oI', hoI', hoc, hod⟩ := id hst'.1
  have J : Inv X (pins ++ [(S, seqObj "list" #[] 0), (It, oI')]) σ H { s with heap := h', toks := tk' } := I1.pins_of fun p hp => by
    rcases List.mem_append.mp hp with hp | hp
    · exact I1.pin p (List.mem_append_right _ hp)
    · rcases List.mem_cons.mp hp with rfl | hp
      · exact ⟨gS', nS, s1, s2, fun v z => nomatch z⟩
      · rw [List.mem_singleton.mp hp]
        exact ⟨hoI', nI, i1, i2, fun v z => by rw [show (It, oI').2.data = oI'.data from rfl, hod] at z; cases z⟩
  show wpAny _ X.A.in1 (tryCatch (holding [v'] (call (.ref f) [v'])) _ >>= _) _ _ _
  refine wpAny_bind (wpAny_tryCatch (wpAny_holding (wpAny_mono (turn 0 x v' _ H _ hx rel J (.refl H)) (fun y s2 he => ?_) fun _ _ hF => hF.elim)))
  obtain ⟨yv, H2, J2, ry, rfl, sm2⟩ := he
  obtain ⟨t2, rfl⟩ := ry
  have pS := J2.pin (S, seqObj "list" #[] 0) (List.mem_append_right _ (List.mem_append_right _ (.head _)))
  have pI := J2.pin (It, oI') (List.mem_append_right _ (List.mem_append_right _ (.tail _ (.head _))))
  have J3 : Inv X pins σ H2 s2 := J2.pins_of fun p hp => J2.pin p (List.mem_append_right _ (List.mem_append_left _ hp))
  obtain ⟨c2, hc2⟩ : ∃ c2, (s2.heap.update S (Obj.mapSeq fun _ => #[v', .int (kf 0) t2])).get? S = some (seqObj "list" #[v', .int (kf 0) t2] c2) := ⟨_, get?_update_seq pS.1 fun _ => #[v', .int (kf 0) t2]⟩
  show wpAny _ X.A.in1 (updateSeq S (fun _ => #[v', .int (kf 0) t2]) >>= _) _ _ _
  refine wpAny_bind ?_
  refine wpAny_updateSeq pS.1 rfl ?_
  rw [hname]
  have I4 := J3.turned (h' := s2.heap.update S (Obj.mapSeq fun _ => #[v', .int (kf 0) t2])) (t' := s2.toks) (it := S) (fun b o hb e => (Heap.get?_update_ne _ _ _ _ hb).trans e) pS.2.1 s1 s3 s4 s5
  refine wpAny_pure ⟨plainId_quiet PySem.F.plain_max_loop _, max_loopI kf hh hS hSI htI fS fI turn (fun i x u H1 s' h1 h2 h3 h4 h5 => hQ i x u H1 s' h1 h2 h3 h4 h5) _ 0 0 H2 _ x v' t2 c2 rfl hne I4 sm2 pS.2.1 pI.2.1 hc2 ⟨oI', (Heap.get?_update_ne _ _ _ _ hSI.symm).trans pI.1, hoc, hod⟩ hx rel (Nat.le_refl _) fun j' hj' => ?_⟩
  have e : j' = 0 := by omega
  subst e
  exact ⟨by omega, fun h => absurd h (Nat.lt_irrefl _)⟩
end
end Cl

set_option maxHeartbeats 0
namespace Cl
open PySem PySem.Spec PyProof.Rows L2
/-- what stands but for the table at P -/
def hp (P : Addr) (H : Hp) : Hp := fun b => if b = P then none else H b
theorem hp_at {P b : Addr} {H : Hp} {o : HO} (h : hp P H b = some o) : b ≠ P ∧ H b = some o := by
  unfold hp at h
  split at h
  · cases h
  · exact ⟨by assumption, h⟩
theorem hp_of {P b : Addr} {H : Hp} {o : HO} (n : b ≠ P) (h : H b = some o) : hp P H b = some o := by
  unfold hp
  rw [if_neg n]
  exact h
theorem SameX.to {P : Addr} {H H' : Hp} (s : SameX P H H') : Same (hp P H) H' := fun b o e => s b o (hp_at e).1 (hp_at e).2
theorem SameX.refl {P : Addr} (H : Hp) : SameX P H H := fun _ _ _ e => .of e
section
variable {K : PySem.W.Frag} {H H' : Hp} {P : Addr} {q : Str}
theorem dnT {a : Addr} {xs : List V} (t : LT H P q) (h : SqT K H a xs) : SqT K (hp P H) a xs := by
  obtain ⟨cs, e, _⟩ := t
  have ne : ∀ u, H a = some u → (∀ φ, u ≠ .ext φ) → a ≠ P := fun u z n y => by
    rw [y, e] at z
    exact n _ (Option.some.inj z).symm
  rcases h with (h | ⟨o, h⟩) | h
  · exact .inl (.inl (hp_of (ne _ h fun φ z => nomatch z) h))
  · exact .inl (.inr ⟨o, hp_of (ne _ h fun φ z => nomatch z) h⟩)
  · exact .inr h
theorem dn2 {v : V} {p : Int × Int} (t : LT H P q) (h : At2 K H v p) : At2 K (hp P H) v p := by
  obtain ⟨a, rfl, h⟩ := h
  exact ⟨a, rfl, dnT t h⟩
theorem dnL {v : V} {l : Ln} (t : LT H P q) (h : AtL K H v l) : AtL K (hp P H) v l := by
  obtain ⟨a, u, w, rfl, h1, h2, h3⟩ := h
  exact ⟨a, u, w, rfl, dnT t h1, dn2 t h2, dn2 t h3⟩
theorem AtL.sameX {v : V} {l : Ln} (h : AtL K H v l) (t : LT H P q) (s : SameX P H H') : AtL K H' v l := (dnL t h).same s.to
theorem seX {a : Addr} {xs : List V} (t : LT H P q) (s : SameX P H H') (h : SqT K H a xs) : SqT K H' a xs := seT s.to (dnT t h)
end
def tLamK (X : Cx) (P : Addr) (params : Arguments) (body : Expr) (scope : Scope) : TE := fun _ H Q => LT H P (X.env.qual ++ "<lambda>") ∧ ∀ f c' H1, SameX P H H1 → LT H1 P (X.env.qual ++ "<lambda>") →
  H1 f = some (LamO X params body scope c' f) → H1 c' = some (LamX.CodeO c' (X.env.qual ++ "<lambda>")) → Q (.ref f) H1
/-- what max by key asks behind its argument v -/
def keyQ (X : Cx) (P : Addr) (t : TE) (σ : L2.St) (Q : VK) (v : V) (H1 : Hp) : Prop := ∃ (tt : Addr) (vs : List V) (kf : Nat → Int), v = .ref tt ∧ SqT X.K H1 tt vs ∧ 0 < vs.length ∧ LT H1 P (X.env.qual ++ "<lambda>") ∧
  (∀ i x H2, vs[i]? = some x → SameX P H1 H2 → LT H2 P (X.env.qual ++ "<lambda>") → t (some x :: σ) H2 (fun y H3 => y = .int (kf i) ∧ Same H2 H3)) ∧
  ∀ i x H2, vs[i]? = some x → (∀ j, j < vs.length → kf i ≥ kf j ∧ (j < i → kf i > kf j)) → SameX P H1 H2 → LT H2 P (X.env.qual ++ "<lambda>") → Q x H2
def keyQs (X : Cx) (P : Addr) (t : TE) (σ : L2.St) (Q : VK) : List V → Hp → Prop
  | [v], H1 => keyQ X P t σ Q v H1
  | _, _ => False
def tMaxKey (X : Cx) (P : Addr) (t te : TE) : TE := fun σ H Q => te σ H (keyQ X P t σ Q)
section
variable {X : Cx}
theorem pe_lamK {c P : Addr} {params : Arguments} {body : Expr} {scope : Scope} {a : Str} {pos : Pos} (TB : GxR.TabB X.base X.mg c P) (hcode : X.env.code = .ref c) (L : LamK X.env.scope scope a) (hdef : defaultsOf params X.env = ([], [])) :
    PE X (.Lambda params body scope pos) (tLamK X P params body scope) :=
  ⟨fun pins s σ H Q I h => lam_make3 I TB hcode h.1 hdef (L.has I.ok) fun f c' H1 s' I1 sx lt hf hc => ⟨.ref f, H1, I1, rfl, h.2 f c' H1 sx lt hf hc⟩⟩
theorem pe_maxKey {k : Nat} {c P : Addr} {e : Expr} {params : Arguments} {body : Expr} {scope : Scope} {a : Str} {p pos lp kp : Pos} {t te : TE} (hr : RG (k + 2) X.A) (hg : Gl X "max") (hm : X.mg "max" = none) (TB : GxR.TabB X.base X.mg c P) (hcode : X.env.code = .ref c)
    (L : LamK X.env.scope scope a) (ha : a ∉ X.N) (hdef : defaultsOf params X.env = ([], []))
    (hbind : ∀ (q : Str) (cl : List (Str × Addr)) (pm cv ctv u : Value), bindArgs (PySem.W.kla_fn "<lambda>" q params body scope cl pm cv ctv) ⟨[u], []⟩ = pure [(a, u)])
    (he : PE X e te) (hbody : ∀ (A : Around) (outer : List Env) (s : Shared) (H : Hp) (f c' : Addr), RG k (A.deeper (LamX.lamEnv X scope s.heap.objs.size f c')) → PE (lamCx1 X a A outer s H scope f c') body t)
    (hs1 : starEach [e] X.env = (false, eval e X.env) :: starEach [] X.env := by rfl) :
    PE X (.Call (.Name "max" p) [e] [⟨some "key", .Lambda params body scope lp, kp⟩] pos) (tMaxKey X P t te) := by
  refine ⟨fun pins s σ H Q I h => ?_⟩
  refine wpAny_Call_Name_kw (ld_blt I hg hm PyProof.Rows.boot_max ?_ (by decide) (by decide))
  have hargs : PA X [e] _ := pa_cons he pa_nil (hs := hs1)
  have hk : PK X [⟨some "key", .Lambda params body scope lp, kp⟩] _ := pk_cons (pe_lamK (P := P) TB hcode L hdef) pk_nil
  refine PyProof.Rows.callWith_kw (thn (hargs.run pos pins s σ H (keyQs X P t σ Q) I h) fun us s1 ⟨vs0, H1, I1, r1, q1⟩ => ?_) (by rw [hs1]; rfl) (by rw [hs1]; rfl) (by rfl) (by rfl)
  obtain ⟨v, rfl⟩ : ∃ v, vs0 = [v] := by
    match vs0, q1 with
    | [v], _ => exact ⟨v, rfl⟩
    | [], q => exact False.elim q
    | _ :: _ :: _, q => exact False.elim q
  obtain ⟨tt, vs, kf, rfl, hS, hne, lt1, ht, hq⟩ := q1
  obtain ⟨u, rfl, ru⟩ := vals1 r1
  cases ru
  refine thn (hk.run pos pins s1 σ H1 (fun ws H2 => ∃ f c', ws = [.ref f] ∧ SameX P H1 H2 ∧ LT H2 P (X.env.qual ++ "<lambda>") ∧ H2 f = some (LamO X params body scope c' f) ∧ H2 c' = some (LamX.CodeO c' (X.env.qual ++ "<lambda>"))) I1 ?_) fun ws s2 ⟨zs, H2, I2, r2, q2⟩ => ?_
  · exact ⟨lt1, fun f c' H2 sx lt hf hc => ⟨f, c', rfl, sx, lt, hf, hc⟩⟩
  obtain ⟨f, c', rfl, sx, lt2, hf, hc⟩ := q2
  obtain ⟨u, rfl, ru⟩ := vals1 r2
  cases ru
  have hS2 := seX lt1 sx hS
  show wpAny _ _ (call (.builtin "max") [.ref tt] [(Str.ofString "key", .ref f)]) _ _ s2
  refine max_keyI kf hr.room.hd I2 hS2 hne (fun i x u pins' H3 s3 hx rel I3 sm => ?_) fun i x u H3 s3 hx rel best I3 sm => ?_
  · refine wpAny_mono (call_key (k := k) I3 L ha (sm _ _ hf) (sm _ _ hc) hbind hr (fun A outer s H hr' => hbody A outer s H f c' hr') rel (ht i x H3 hx (sx.trans sm.x) (sm.lt lt2))) (fun y s4 hy => ?_) fun _ _ z => z
    obtain ⟨yv, H4, I4, ry, e, sm4⟩ := hy
    exact ⟨yv, H4, I4, ry, e, sm.trans sm4⟩
  · exact ⟨x, H3, I3, rel, hq i x H3 hx best (sx.trans sm.x) (sm.lt lt2)⟩
end
end Cl

set_option maxHeartbeats 0
namespace Cl
open PySem PySem.Spec PyProof.Rows L2
/-! ### data with dicts of one key at most -/
mutual
inductive Dq (K : PySem.W.Frag) (H : Hp) : V → PyData → Prop
  | non : Dq K H .non .none
  | bl (b : Bool) : Dq K H (.bl b) (.bool b)
  | int (i : Int) : Dq K H (.int i) (.int i)
  | str (x : Str) : Dq K H (.str x) (.str x)
  | lst {a : Addr} {xs : List V} {ds : List PyData} : a ≠ sysModules → H a = some (.lst xs) → DqAll K H xs ds → Dq K H (.ref a) (.list ds)
  | tup {a : Addr} {xs : List V} {ds : List PyData} : SqT K H a xs → DqAll K H xs ds → Dq K H (.ref a) (.tuple ds)
  | emp {a : Addr} : H a = some (.dK []) → Dq K H (.ref a) (.dict [])
  | one {a : Addr} {i : Int} {v : V} {d : PyData} : H a = some (.dK [(.inl i, v)]) → Dq K H v d → Dq K H (.ref a) (.dict [(.int i, d)])
inductive DqAll (K : PySem.W.Frag) (H : Hp) : List V → List PyData → Prop
  | nil : DqAll K H [] []
  | cons {v : V} {vs : List V} {d : PyData} {ds : List PyData} : Dq K H v d → DqAll K H vs ds → DqAll K H (v :: vs) (d :: ds)
end
section
variable {K : PySem.W.Frag} {H H' : Hp}
mutual
/-- what keeps lists, tuples and dicts keeps data -/
theorem Dq.keep (kl : ∀ a xs, H a = some (.lst xs) → H' a = some (.lst xs)) (kt : ∀ a xs, SqT K H a xs → SqT K H' a xs) (kd : ∀ a kvs, H a = some (.dK kvs) → H' a = some (.dK kvs)) : ∀ (d : PyData) (v : V), Dq K H v d → Dq K H' v d
  | .none, _, h => by cases h; exact .non
  | .bool b, _, h => by cases h; exact .bl b
  | .int i, _, h => by cases h; exact .int i
  | .str x, _, h => by cases h; exact .str x
  | .list ds, _, h => by
    cases h with
    | lst h0 h1 h2 => exact .lst h0 (kl _ _ h1) (DqAll.keep kl kt kd ds _ h2)
  | .tuple ds, _, h => by
    cases h with
    | tup h1 h2 => exact .tup (kt _ _ h1) (DqAll.keep kl kt kd ds _ h2)
  | .dict [], _, h => by
    cases h with
    | emp h1 => exact .emp (kd _ _ h1)
  | .dict [(.int i, d)], _, h => by
    cases h with
    | one h1 h2 => exact .one (kd _ _ h1) (Dq.keep kl kt kd d _ h2)
  | .dict ((.none, d) :: r), _, h => by cases h
  | .dict ((.bool _, d) :: r), _, h => by cases h
  | .dict ((.str _, d) :: r), _, h => by cases h
  | .dict ((.list _, d) :: r), _, h => by cases h
  | .dict ((.tuple _, d) :: r), _, h => by cases h
  | .dict ((.dict _, d) :: r), _, h => by cases h
  | .dict ((.int _, d) :: _ :: _), _, h => by cases h
theorem DqAll.keep (kl : ∀ a xs, H a = some (.lst xs) → H' a = some (.lst xs)) (kt : ∀ a xs, SqT K H a xs → SqT K H' a xs) (kd : ∀ a kvs, H a = some (.dK kvs) → H' a = some (.dK kvs)) : ∀ (ds : List PyData) (vs : List V), DqAll K H vs ds → DqAll K H' vs ds
  | [], _, h => by cases h; exact .nil
  | d :: ds, _, h => by
    cases h with
    | cons h1 h2 => exact .cons (Dq.keep kl kt kd d _ h1) (DqAll.keep kl kt kd ds _ h2)
end
theorem Dq.same {v : V} {d : PyData} (h : Dq K H v d) (s : Same H H') : Dq K H' v d := h.keep (fun a xs e => s _ _ e) (fun a xs e => seT s e) (fun a kvs e => s _ _ e)
theorem DqAll.same {vs : List V} {ds : List PyData} (h : DqAll K H vs ds) (s : Same H H') : DqAll K H' vs ds := DqAll.keep (fun a xs e => s _ _ e) (fun a xs e => seT s e) (fun a kvs e => s _ _ e) _ _ h
theorem Dq.sameX {P : Addr} {q : Str} {v : V} {d : PyData} (h : Dq K H v d) (t : LT H P q) (s : SameX P H H') : Dq K H' v d := by
  have ne : ∀ a u, H a = some u → (∀ φ, u ≠ .ext φ) → a ≠ P := fun a u z n y => by
    obtain ⟨cs, e, _⟩ := t
    rw [y, e] at z
    exact n _ (Option.some.inj z).symm
  exact h.keep (fun a xs e => s _ _ (ne _ _ e fun φ z => nomatch z) e) (fun a xs e => seX t s e) (fun a kvs e => s _ _ (ne _ _ e fun φ z => nomatch z) e)
theorem Dq.step {d0 l : Addr} {v : V} {d : PyData} (h : Dq K H v d) (S : Step d0 l H H') (D : Deck H d0 l) (hl : ∀ a xs, H a = some (.lst xs) → a ≠ d0 ∧ a ≠ l → H' a = some (.lst xs)) : True := trivial
end
section
variable {X : Cx} {pins : List (Addr × Obj)} {σ : L2.St} {H : Hp} {s : Shared}
mutual
theorem Dq.reads (I : Inv X pins σ H s) : ∀ (d : PyData) (v : V) (u : Value), Dq X.K H v d → RelV v u → ∃ as, Reads s.heap u d as ∧ sysModules ∉ as
  | .none, _, _, h, r => by
    cases h
    cases r
    exact ⟨_, Reads.none, by simp⟩
  | .bool b, _, _, h, r => by
    cases h
    cases r
    exact ⟨_, Reads.bool b, by simp⟩
  | .int i, _, _, h, r => by
    cases h
    obtain ⟨t, rfl⟩ := r
    exact ⟨_, Reads.int i t, by simp⟩
  | .str x, _, _, h, r => by
    cases h
    obtain ⟨t, rfl⟩ := r
    exact ⟨_, Reads.str x t, by simp⟩
  | .list ds, _, _, h, r => by
    cases h with
    | lst h0 hs ha =>
      cases r
      obtain ⟨its, rv, ⟨o, n, ho, hc, _, hd⟩, _⟩ := I.list (.inl (.inl hs))
      obtain ⟨as, hr, hn⟩ := Dq.readsAll I ds _ its ha rv
      refine ⟨_, Reads.list ho hc hd hr, fun z => ?_⟩
      rcases List.mem_cons.mp z with z | z
      · exact h0 z.symm
      · exact hn z
  | .tuple ds, _, _, h, r => by
    cases h with
    | tup hs ha =>
      cases r
      obtain ⟨its, rv, ⟨o, ho, hc, n, hd⟩, _⟩ := I.tuple hs
      obtain ⟨as, hr, hn⟩ := Dq.readsAll I ds _ its ha rv
      exact ⟨_, Reads.tuple ho hc hd hr, hn⟩
  | .dict [], _, _, h, r => by
    cases h with
    | emp e =>
      cases r
      obtain ⟨_, hsm, vs, rel, o, es, ep, h1, h2, h3, h4, h5, h6⟩ := dk_of I.hok e
      cases rel
      cases h5' : es.toList with
      | nil =>
        refine ⟨_, Reads.dict (as := []) (bs := []) h1 h2.1 h3 (by rw [h5']; exact .nil) (by rw [h5']; exact .nil), fun z => ?_⟩
        rcases List.mem_cons.mp z with z | z
        · rw [← z] at hsm
          simp at hsm
        · simp at z
      | cons _ _ => rw [h5'] at h5; cases h5
  | .dict [(.int i, d)], _, _, h, r => by
    cases h with
    | one e hd =>
      cases r
      obtain ⟨_, hsm, vs, rel, o, es, ep, h1, h2, h3, h4, h5, h6⟩ := dk_of I.hok e
      cases rel with
      | cons hk rest =>
        cases rest
        rename_i q
        obtain ⟨hk1, hk2⟩ := hk
        cases h5' : es.toList with
        | nil => rw [h5'] at h5; cases h5
        | cons e0 r0 =>
          rw [h5'] at h5
          cases h5 with
          | cons c1 c2 c3 =>
            cases c3
            obtain ⟨as, hr, hn⟩ := Dq.reads I d _ _ hd hk2
            have c1 : keyIs q.1 e0.key = true := c1
            rw [← hk1] at c1
            rcases keyIs_shape c1 with ⟨j, t, z1, z2⟩ | ⟨x, t, z1, z2⟩
            · have z1 : (Sum.inl i : Key) = Sum.inl j := z1
              cases z1
              refine ⟨_, Reads.dict (as := [] ++ []) (bs := as ++ []) h1 h2.1 h3 (by rw [h5']; show ReadsAll _ [e0.key] [.int i] _; rw [z2]; exact .cons (.int _ _) .nil) (by rw [h5']; show ReadsAll _ [e0.val] [d] _; rw [c2]; exact .cons hr .nil), fun z => ?_⟩
              rcases List.mem_cons.mp z with z | z
              · rw [← z] at hsm
                simp at hsm
              · simp at z
                exact hn z
            · cases z1
  | .dict ((.none, d) :: r), _, _, h, _ => by cases h
  | .dict ((.bool _, d) :: r), _, _, h, _ => by cases h
  | .dict ((.str _, d) :: r), _, _, h, _ => by cases h
  | .dict ((.list _, d) :: r), _, _, h, _ => by cases h
  | .dict ((.tuple _, d) :: r), _, _, h, _ => by cases h
  | .dict ((.dict _, d) :: r), _, _, h, _ => by cases h
  | .dict ((.int _, d) :: _ :: _), _, _, h, _ => by cases h
theorem Dq.readsAll (I : Inv X pins σ H s) : ∀ (ds : List PyData) (vs : List V) (us : List Value), DqAll X.K H vs ds → Vals vs us → ∃ as, ReadsAll s.heap us ds as ∧ sysModules ∉ as
  | [], _, _, h, r => by
    cases h
    cases r
    exact ⟨_, ReadsAll.nil, by simp⟩
  | d :: ds, _, _, h, r => by
    cases h with
    | cons h1 h2 =>
      cases r with
      | cons r1 r2 =>
        obtain ⟨as, q1, n1⟩ := Dq.reads I d _ _ h1 r1
        obtain ⟨bs, q2, n2⟩ := Dq.readsAll I ds _ _ h2 r2
        exact ⟨_, ReadsAll.cons q1 q2, fun z => (List.mem_append.mp z).elim n1 n2⟩
end
end
end Cl

set_option maxHeartbeats 0
namespace Cl
open PySem PySem.Spec PyProof.Rows L2
open PySem.SeqAt
theorem sub_str_dict : isSubtype (.type "str") (.type "dict") = pure false := by rw [isSubtype_type]; kernel_rfl
theorem dict_eq_declines_str (l : Addr) (es : Array DictEntry) (n : Nat) (b : Str) (u : Tok) :
    PySem.Meets (Builtin.«dict.__eq__» ⟨[.ref l, .str b u], []⟩) (fun _ R s => s.heap.get? l = some { cls := .type "dict", dict := none, data := .dict es n, slots := #[] } ∧ R (.ok (.ret .notImplemented)) s) :=
  .of_wp fun prog w A R s h => by
    obtain ⟨hp, g, d, tk, os⟩ := s
    obtain ⟨hl, h⟩ := h
    have f1 := sub_str_dict
    wp_walk using wpAny_loadPart' hl, wpAny_load hl
    exact ⟨_, rfl, h⟩
theorem str_eq_declines_dict (b : Str) (u : Tok) (l : Addr) (es : Array DictEntry) (n : Nat) :
    PySem.Meets (Builtin.«str.__eq__» ⟨[.str b u, .ref l], []⟩) (fun _ R s => s.heap.get? l = some { cls := .type "dict", dict := none, data := .dict es n, slots := #[] } ∧ R (.ok (.ret .notImplemented)) s) :=
  .of_wp fun prog w A R s h => by
    obtain ⟨hp, g, d, tk, os⟩ := s
    obtain ⟨hl, h⟩ := h
    wp_walk using wpAny_loadPart' hl, wpAny_load hl
    exact ⟨_, rfl, h⟩
theorem rc_dict_str {A : Around} {s : Shared} {l : Addr} {es : Array DictEntry} {n : Nat} (b : Str) (u : Tok) (ho : s.heap.get? l = some { cls := .type "dict", dict := none, data := .dict es n, slots := #[] }) (hu : A.units < cLine) : SeqAt.RcAt A s (.ref l) (.str b u) false := fun prog w E Q h =>
  SeqAt.rc_eq_decline_or (k := false) ⟨_, ho, rfl⟩ (typeIs_str s b u) (by decide) sub_str_dict F.slot_dict_eq F.slot_str_eq_refl
    (fun _ hq => call_meets F.slot_dict_eq ⟨_, ho, rfl⟩ F.entry_dict_eq (F.args_dict_eq_2 _ _) (dict_eq_declines_str l es n b u) ⟨ho, hq⟩)
    (fun _ hq => call_meets F.slot_str_eq_refl (typeIs_str s b u) F.entry_str_eq (F.args_str_eq_2 _ _) (str_eq_declines_dict b u l es n) ⟨ho, hq⟩)
    (fun _ hq => wpAny_of_eq (rfl : isSame (.ref l) (.str b u) = pure false) hq) (.inr hu) h
theorem eq_dict_str {A : Around} {s : Shared} {l : Addr} {es : Array DictEntry} {n : Nat} (b : Str) (u : Tok) (ho : s.heap.get? l = some { cls := .type "dict", dict := none, data := .dict es n, slots := #[] }) (hu : A.units < cLine) : SeqAt.EqAt A s (.ref l) (.str b u) false := fun prog w E Q h => by
  unfold eqBool
  refine wpAny_holding ?_
  refine wpAny_ite_split (fun hab => absurd (eq_of_beq hab) nofun) (fun _ => ?_)
  exact wpAny_bind (rc_dict_str b u ho hu prog w E _ (wpAny_truthy_bool h))
/-- the first of a datum's parts is the word -/
def firstIs (w : Str) : List PyData → Bool
  | [.str s] => s == w
  | _ => false
section
variable {X : Cx}
/-- what is compared with a text -/
theorem dq_eq_str {pins : List (Addr × Obj)} {σ : L2.St} {H : Hp} {s : Shared} {A : Around} {v : V} {d : PyData} {u : Value} {x : Str} {t : Tok} (I : Inv X pins σ H s) (h : Dq X.K H v d) (r : RelV v u) (hu : A.units < cLine) :
    SeqAt.EqAt A s u (.str x t) (firstIs x [d]) := by
  cases h with
  | non => cases r; exact SeqAt.EqAt.none_str x t
  | bl b => cases r; exact SeqAt.EqAt.bool_str b x t
  | int i => obtain ⟨t', rfl⟩ := r; exact SeqAt.EqAt.int_str i t' x t
  | str y => obtain ⟨t', rfl⟩ := r; exact SeqAt.EqAt.str_str y t' x t
  | lst h0 h1 h2 =>
    cases r
    obtain ⟨its, rv, pl, _⟩ := I.list (.inl (.inl h1))
    exact SeqAt.EqAt.list_str x t pl.isList hu
  | tup h1 h2 =>
    cases r
    obtain ⟨its, rv, tp, _⟩ := I.tuple h1
    exact SeqAt.EqAt.tuple_str x t tp hu
  | emp e =>
    cases r
    obtain ⟨_, _, vs, _, ⟨cls, dd, data, sl⟩, es, ep, h1, ⟨c1, c2, c3⟩, h3, _⟩ := dk_of I.hok e
    simp only at c1 c2 c3 h3
    subst c1 c2 c3 h3
    exact eq_dict_str x t h1 hu
  | one e _ =>
    cases r
    obtain ⟨_, _, vs, _, ⟨cls, dd, data, sl⟩, es, ep, h1, ⟨c1, c2, c3⟩, h3, _⟩ := dk_of I.hok e
    simp only at c1 c2 c3 h3
    subst c1 c2 c3 h3
    exact eq_dict_str x t h1 hu
/-- thing[:1] == (word,) -/
def rEqFirst (K : PySem.W.Frag) : R2 := fun x y H Q => ∃ (a b : Addr) (xs : List V) (ds : List PyData) (w : Str), x = .ref a ∧ y = .ref b ∧ SqT K H a xs ∧ DqAll K H xs ds ∧ xs.length ≤ 1 ∧ SqT K H b [.str w] ∧ Q (.bl (firstIs w ds)) H
theorem op_eqFirst (hu : X.A.units + 64 < cLine) : OpR X (compareOp .Eq) (rEqFirst X.K) := by
  intro pins s σ H x y v u Q I rx ry h
  obtain ⟨a, b, xs, ds, w, rfl, rfl, ha, hd, hl, hb, q⟩ := h
  cases rx
  cases ry
  obtain ⟨its, rv, ta, _⟩ := I.tuple ha
  obtain ⟨itb, rb, tb, _⟩ := I.tuple hb
  cases rb with
  | cons r1 r2 =>
    cases r2
    obtain ⟨t, rfl⟩ := r1
    cases hd with
    | nil =>
      cases rv
      refine SeqAt.eq_tupleAt (e := fun _ => true) ta tb (by omega) (fun j h1 h2 => absurd h1 (by simp)) ⟨.bl _, H, I, rfl, ?_⟩
      exact q
    | @cons v0 vs d0 ds0 hd0 hds =>
      cases hds with
      | cons _ _ => simp at hl
      | nil =>
        cases rv with
        | cons r1 r2 =>
          cases r2
          rename_i u0
          have key := dq_eq_str (A := X.A.in1) (x := w) (t := t) I hd0 r1 (by show X.A.units + 1 < _; omega)
          refine SeqAt.eq_tupleAt (e := fun _ => firstIs w [d0]) ta tb (by omega) (fun j h1 h2 => ?_) ⟨.bl _, H, I, rfl, ?_⟩
          · have hj : j = 0 := by simp at h1; omega
            subst hj
            exact key
          · have e : ((List.range (min #[u0].size #[Value.str w t].size)).all (fun _ => firstIs w [d0]) && #[u0].size == #[Value.str w t].size) = firstIs w [d0] := by
              show ((List.range 1).all (fun _ => firstIs w [d0]) && true) = _
              simp [List.range, List.range.loop]
            rw [e]
            exact q
/-- repr of such data -/
def rReprQ (K : PySem.W.Frag) : List V → Hp → VK → Prop := fun xs H Q => ∃ v d, xs = [v] ∧ Dq K H v d ∧ d.showable = true ∧ d.depth ≤ 60 ∧ d.shown.length ≤ sizeLine ∧ Q (.str d.shown) H
theorem call_reprQ (hg : X.A.guards = some []) (hu : X.A.units + 64 < cLine) : CallR X (.builtin "repr") (rReprQ X.K) := by
  intro pins s σ H xs us Q I r h
  obtain ⟨v, d, rfl, hd, hs, hdp, hl, q⟩ := h
  obtain ⟨u, rfl, ru⟩ := vals1 r
  obtain ⟨as, rd, hn⟩ := Dq.reads I d v u hd ru
  have fin : ∀ {a : Addr}, u = .ref a → wpAny (model X.prog X.w) X.A (call (.builtin "repr") [u]) (EP X pins σ Q) X.xe s := fun {a} e => by
    subst e
    exact repr_of_reads' rd hs (fun _ => hn) hg (by omega) (fun _ _ z => z) (fun h' u tk hk => ⟨.str _, H, I.kept hk, ⟨_, rfl⟩, q⟩) hl
  cases hd with
  | non => cases ru; exact PySem.P.repr_of_none ⟨.str _, H, I.tok _, ⟨_, rfl⟩, q⟩
  | bl b => cases ru; exact PySem.P.repr_of_bool ⟨.str _, H, I.tok _, ⟨_, rfl⟩, q⟩
  | int i => obtain ⟨t, rfl⟩ := ru; exact PySem.P.repr_of_int (by simpa [PyData.showable] using hs) ⟨.str _, H, I.tok _, ⟨_, rfl⟩, q⟩
  | str x => obtain ⟨t, rfl⟩ := ru; exact PySem.P.repr_of_str ⟨.str _, H, I.tok _, ⟨_, rfl⟩, q⟩ (by simpa [PyData.shown] using hl)
  | lst _ _ _ => exact fin ru
  | tup _ _ => exact fin ru
  | emp _ => exact fin ru
  | one _ _ => exact fin ru
/-! ### lists that are no module table -/
def NewM (H : Hp) (o : HO) (Q : VK) : Prop := ∀ p H', p ≠ sysModules → H p = none → Same H H' → H' p = some o → Q (.ref p) H'
def tLstM (t : TA) : TE := fun σ H Q => t σ H fun xs H1 => xs.length ≤ sizeLine ∧ NewM H1 (.lst xs) Q
theorem lstM {es : List Expr} {t : TA} {pos : Pos} (h : PA X es t) : PE X (.List es pos) (tLstM t) := by
  constructor
  intro pins s σ H Q I hq
  refine wpAny_List_spliced ?_
  refine thn (h.run pos pins s σ H _ I hq) fun us s1 ⟨xs, H1, I1, r, z, q⟩ => ⟨by rw [← r.length]; exact z, ?_⟩
  have hn := I1.hok.fresh (Nat.le_refl s1.heap.objs.size)
  refine ⟨.ref s1.heap.objs.size, _, I1.laid (t' := s1.toks) (o := .lst xs) (fun b u e => Heap.get?_push_of_some _ e) (Nat.le_refl _) ?_, rfl,
    q _ _ (Nat.ne_of_gt I1.big) hn (same_new hn) upd_same⟩
  exact ⟨z, us, 0, r, Heap.get?_push_size _ rfl⟩
theorem call_listM : CallR X (.type "list") (fun xs H Q => ∃ p ys, xs = [.ref p] ∧ SqT X.K H p ys ∧ NewM H (.lst ys) Q) := by
  intro pins s σ H xs us Q I r h
  obtain ⟨p, ys, rfl, hq, q⟩ := h
  obtain ⟨u, rfl, rx⟩ := vals1 r
  cases rx
  have hn := I.hok.fresh (Nat.le_refl s.heap.objs.size)
  have fin : ∀ (its : List Value), Vals ys its → ys.length ≤ sizeLine → ∀ (h' : Heap) (c' : Nat), (∀ b o', s.heap.get? b = some o' → h'.get? b = some o') →
      h'.get? s.heap.objs.size = some { cls := .type "list", dict := none, data := .seq its.toArray c', slots := #[] } → EP X pins σ Q (.ref s.heap.objs.size) { s with heap := h' } := fun its r' hz h' c' kp e =>
    ⟨.ref s.heap.objs.size, _, I.laid (t' := s.toks) kp (Nat.le_refl _) (show ObjOk X.prog X.w _ h' _ (.lst ys) from ⟨hz, its, c', r', e⟩), rfl, q _ _ (Nat.ne_of_gt I.big) hn (same_new hn) upd_same⟩
  obtain ⟨its, r', tp, hz⟩ := I.tuple hq
  have hlen := r'.length
  obtain ⟨o, ho, hc, n, hd⟩ := tp
  exact call_list_seq p (.inr rfl) ho hc hd (fun h' c' kp e => fin its r' hz h' c' kp e) (by simp only [List.size_toArray] <;> omega)
/-- xs != [] -/
def rNeLNil (K : PySem.W.Frag) : R2 := fun x y H Q => ∃ a b xs, x = .ref a ∧ y = .ref b ∧ SqL K H a xs ∧ SqL K H b [] ∧ Q (.bl (!xs.isEmpty)) H
theorem op_neLNil (hu : X.A.units + 64 < cLine) : OpR X (compareOp .NotEq) (rNeLNil X.K) := by
  intro pins s σ H x y v u Q I rx ry h
  obtain ⟨a, b, xs, rfl, rfl, ha, hb, q⟩ := h
  cases rx
  cases ry
  obtain ⟨its, rv, p, _⟩ := I.list ha
  obtain ⟨its2, rv2, p2, _⟩ := I.list hb
  cases rv2
  have hl := rv.length
  cases xs with
  | nil =>
    have : its = [] := List.eq_nil_of_length_eq_zero hl.symm
    subst this
    obtain ⟨o, ho, hc, n, hd⟩ := p.isList
    obtain ⟨o2, ho2, hc2, n2, hd2⟩ := p2.isList
    exact SeqAt.compareNe_shaped (Reads.list ho hc hd .nil) (Reads.list ho2 hc2 hd2 .nil) rfl rfl hu ⟨.bl _, H, I, rfl, q⟩
  | cons x xs =>
    cases its with
    | nil => simp at hl
    | cons i its => exact SeqAt.RcNeAt.lists_lengths p.isList p2.isList (by simp) (by omega) X.prog X.w _ _ ⟨.bl _, H, I, rfl, q⟩
end
end Cl

set_option maxHeartbeats 0
namespace Cl
open PySem PySem.Spec PyProof.Rows L2
open GxR (TabB TabG)


def intsD : List PyData → Option (List Int)
  | [] => some []
  | .int i :: r => (intsD r).map (i :: ·)
  | _ :: _ => none
def papOf : PyData → Option (Str × List Int)
  | .tuple (.str wd :: ds) => (intsD ds).map fun ns => (wd, ns)
  | _ => none
theorem intsD_some : ∀ {ds : List PyData} {ns : List Int}, intsD ds = some ns → ds = ns.map PyData.int
  | [], _, h => by cases h; rfl
  | .int i :: r, ns, h => by
    unfold intsD at h
    cases e : intsD r with
    | none => rw [e] at h; cases h
    | some ms =>
      rw [e] at h
      cases h
      rw [intsD_some e]
      rfl
  | .none :: _, _, h => by cases h
  | .bool _ :: _, _, h => by cases h
  | .str _ :: _, _, h => by cases h
  | .list _ :: _, _, h => by cases h
  | .tuple _ :: _, _, h => by cases h
  | .dict _ :: _, _, h => by cases h
theorem intsD_ints (ns : List Int) : intsD (ns.map PyData.int) = some ns := by
  induction ns with
  | nil => rfl
  | cons i r ih =>
    show (intsD (r.map PyData.int)).map (i :: ·) = _
    rw [ih]
    rfl
theorem papOf_some {d : PyData} {wd : Str} {ns : List Int} (h : papOf d = some (wd, ns)) : d = .tuple (.str wd :: ns.map PyData.int) := by
  unfold papOf at h
  split at h
  · rename_i w ds
    cases e : intsD ds with
    | none => rw [e] at h; cases h
    | some ms =>
      rw [e] at h
      cases h
      rw [intsD_some e]
  · cases h
theorem dqs_ints {K : PySem.W.Frag} {H : Hp} : ∀ {ns : List Int} {xs : List V}, DqAll K H xs (ns.map PyData.int) → xs = ns.map V.int
  | [], _, h => by cases h; rfl
  | i :: r, _, h => by
    cases h with
    | cons h1 h2 =>
      cases h1
      rw [dqs_ints h2]
      rfl
theorem papOf_pap {K : PySem.W.Frag} {H : Hp} {v : V} {d : PyData} {wd : Str} {ns : List Int} (h : papOf d = some (wd, ns)) (hd : Dq K H v d) : Pap K H v wd ns := by
  rw [papOf_some h] at hd
  cases hd with
  | tup h1 h2 =>
    cases h2 with
    | cons h3 h4 =>
      cases h3
      rw [dqs_ints h4] at h1
      exact ⟨_, rfl, h1⟩
theorem DqAll.len {K : PySem.W.Frag} {H : Hp} : ∀ {xs : List V} {ds : List PyData}, DqAll K H xs ds → xs.length = ds.length
  | _, _, .nil => rfl
  | _, _, .cons _ h => by rw [List.length_cons, List.length_cons, h.len]
theorem Dq.kd {K : PySem.W.Frag} {H : Hp} {v : V} {d : PyData} (h : Dq K H v d) : ∃ T, Kd K H v T ∧ (T = "tuple" ↔ ∃ ds, d = .tuple ds) ∧ (T = "str" ↔ ∃ s, d = .str s) ∧ (T = "int" ↔ ∃ i, d = .int i) := by
  cases h with
  | non => exact ⟨_, .non, by simp, by simp, by simp⟩
  | bl b => exact ⟨_, .bl b, by simp, by simp, by simp⟩
  | int i => exact ⟨_, .int i, by simp, by simp, by simp⟩
  | str x => exact ⟨_, .str x, by simp, by simp, by simp⟩
  | lst h0 h1 h2 => exact ⟨_, .lst (.inl (.inl h1)), by simp, by simp, by simp⟩
  | tup h1 h2 => exact ⟨_, .tup h1, by simp, by simp, by simp⟩
  | emp e => exact ⟨_, .dct e, by simp, by simp, by simp⟩
  | one e _ => exact ⟨_, .dct e, by simp, by simp, by simp⟩
def isID : PyData → Bool
  | .int _ => true
  | _ => false
theorem Dq.isI {K : PySem.W.Frag} {H : Hp} {v : V} {d : PyData} (h : Dq K H v d) : Cl.isI v = isID d := by
  cases h <;> rfl
theorem dqs_all {K : PySem.W.Frag} {H : Hp} : ∀ {xs : List V} {ds : List PyData}, DqAll K H xs ds → xs.all Cl.isI = (intsD ds).isSome
  | _, _, .nil => rfl
  | _, _, .cons (d := d) h1 h2 => by
    rw [List.all_cons, dqs_all h2, h1.isI]
    cases d <;> simp [intsD, isID]
theorem dqs_take {K : PySem.W.Frag} {H : Hp} : ∀ {xs : List V} {ds : List PyData} (n : Nat), DqAll K H xs ds → DqAll K H (xs.take n) (ds.take n)
  | _, _, 0, _ => .nil
  | _, _, n + 1, .nil => .nil
  | _, _, n + 1, .cons h1 h2 => .cons h1 (dqs_take n h2)
theorem dqs_drop {K : PySem.W.Frag} {H : Hp} : ∀ {xs : List V} {ds : List PyData} (n : Nat), DqAll K H xs ds → DqAll K H (xs.drop n) (ds.drop n)
  | _, _, 0, h => h
  | _, _, n + 1, .nil => .nil
  | _, _, n + 1, .cons h1 h2 => dqs_drop n h2
theorem dqs_kd {K : PySem.W.Frag} {H : Hp} : ∀ {xs : List V} {ds : List PyData}, DqAll K H xs ds → ∀ x ∈ xs, ∃ T, Kd K H x T
  | _, _, .nil, x, hx => nomatch hx
  | _, _, .cons h1 h2, x, hx => by
    rcases List.mem_cons.mp hx with rfl | hx
    · obtain ⟨T, h, _⟩ := h1.kd
      exact ⟨T, h⟩
    · exact dqs_kd h2 x hx
def isPapQ (d : PyData) (w : Str) (m : Int) : Bool := match papOf d with
  | some (wd, ns) => decide (wd = w) && decide ((ns.length : Int) = m)
  | none => false
theorem isPapQ_some {d : PyData} {p : Str × List Int} {w : Str} {m : Int} (h : papOf d = some p) : isPapQ d w m = (decide (p.1 = w) && decide ((p.2.length : Int) = m)) := by unfold isPapQ; rw [h]
theorem isPapQ_none {d : PyData} {w : Str} {m : Int} (h : papOf d = none) : isPapQ d w m = false := by unfold isPapQ; rw [h]
def B190 (ns : List Int) : Prop := ∀ n ∈ ns, n.natAbs < 2 ^ 190
def OkB (d : PyData) : Prop := (∀ wd ns, papOf d = some (wd, ns) → B190 ns ∧ SeqAt.shaped (.tuple [.str wd]) = true) ∧ ∀ ds, d = .tuple ds → ds.length ≤ 900
def spPaperQ (K : PySem.W.Frag) (P : Addr) : Sp := fun vs H Q _ => ∃ v w m d, vs = [v, .str w, .int m] ∧ TabG H P ∧ Dq K H v d ∧ ∀ H', Same H H' → Q (.bl (isPapQ d w m)) H'

def metG (g : Int) (r : Ln) (c : Pt) (d : PyData) : Bool := match papOf d with
  | some (wd, ns) => isMet g r c wd ns
  | none => false
def misG (g : Int) (r : Ln) (c : Pt) (d : PyData) : Bool := match papOf d with
  | some (wd, ns) => isMiss g r c wd ns
  | none => false
theorem metG_some {g : Int} {r : Ln} {c : Pt} {d : PyData} {p : Str × List Int} (h : papOf d = some p) : metG g r c d = isMet g r c p.1 p.2 := by unfold metG; rw [h]
theorem metG_none {g : Int} {r : Ln} {c : Pt} {d : PyData} (h : papOf d = none) : metG g r c d = false := by unfold metG; rw [h]
theorem misG_some {g : Int} {r : Ln} {c : Pt} {d : PyData} {p : Str × List Int} (h : papOf d = some p) : misG g r c d = isMiss g r c p.1 p.2 := by unfold misG; rw [h]
theorem misG_none {g : Int} {r : Ln} {c : Pt} {d : PyData} (h : papOf d = none) : misG g r c d = false := by unfold misG; rw [h]
def spMetG (K : PySem.W.Frag) (P : Addr) : Sp := fun vs H Q _ => ∃ g v u w r c d, vs = [.int g, v, u, w] ∧ TabG H P ∧ AtL K H v r ∧ At2 K H u c ∧ BdW g r c ∧ Dq K H w d ∧ OkB d ∧
  ∀ H', Same H H' → Q (.bl (metG g r c d)) H'
def spMisG (K : PySem.W.Frag) (P P2 : Addr) : Sp := fun vs H Q _ => ∃ g v u w r c d, vs = [.int g, v, u, w] ∧ TabG H P ∧ TabG H P2 ∧ AtL K H v r ∧ At2 K H u c ∧ BdW g r c ∧ Dq K H w d ∧ OkB d ∧
  ∀ H', Same H H' → Q (.bl (misG g r c d)) H'
def spHoldsD (K : PySem.W.Frag) (P P2 : Addr) : Sp := fun vs H Q _ => ∃ g v u w r c d, vs = [.int g, v, u, w] ∧ TabG H P ∧ TabG H P2 ∧ AtL K H v r ∧ At2 K H u c ∧ BdW g r c ∧ Dq K H w d ∧ OkB d ∧
  ∀ H', Same H H' → Q (.bl (metG g r c d || misG g r c d)) H'
def spCPapG (K : PySem.W.Frag) : Sp := fun vs H Q _ => ∃ g v u w r c d, vs = [.int g, v, u, w] ∧ AtL K H v r ∧ At2 K H u c ∧ BdW g r c ∧ Dq K H w d ∧ OkB d ∧
  ∀ H', Same H H' → Q (.bl (metG g r c d || misG g r c d)) H'
/-! ### great numbers -/
def spNearX : Sp := fun vs H Q _ => ∃ n d : Int, vs = [.int n, .int d] ∧ 0 < d ∧ d < 2 ^ 201 ∧ Q (.int (nr n d)) H
def spCornerX (K : PySem.W.Frag) : Sp := fun vs H Q _ => ∃ (g : Int) (v : V) (s : S3), vs = [.int g, v] ∧ At3 K H v s ∧ 0 < g ∧ g < 2 ^ 60 ∧ 0 < s.2.2 ∧ s.2.2 * g < 2 ^ 201 ∧
  ∀ w H', Same H H' → At2 K H' w (nr s.1 (s.2.2 * g), nr s.2.1 (s.2.2 * g)) → Q w H'
section
variable {P : Program} {w : World} {K : PySem.W.Frag} {mg : Str → Option Value} {base : Heap}

theorem okXnearest {f : Addr} {fd : FuncData} (F : Fun K "nearest" "nearest" snearest f fd) (T : Bt mg) :
    FnG P w K mg base CX0 1 f fd ["n", "d"] spNearX := by
  refine okG (k := 0) F scnearest (fun vs H Q E h => ?_) (fun cdv A outer s H vs Q E hr h => ?_)
  · obtain ⟨n, d, rfl, _⟩ := h
    rfl
  · obtain ⟨n, d, rfl, h0, h1, q⟩ := h
    refine ⟨_, (pss_one (ps_ret (pe_op op_fdivX (pe_op op_add (pe_op op_mul pe_int (pv 0)) (pv 1)) (pe_op op_mul pe_int (pv 1))))), ?_⟩
    have h2 : CDivX (2 * n + d) (2 * d) := ⟨by omega, by
      have a3 : (2 * d).natAbs < 2 ^ 202 := by omega
      have := PySem.Flt.log2_lt_of (show 0 < 202 by decide) a3
      omega⟩
    have q : Q (.int (Int.fdiv (2 * n + d) (2 * d))) H := by
      have e : nr n d = Int.fdiv (2 * n + d) (2 * d) := by
        unfold nr
        first | rfl | exact (Int.fdiv_eq_ediv_of_nonneg _ (by omega)).symm
      rw [← e]
      exact q
    exact ⟨_, rfl, _, _, rfl, rfl, .inl (by decide), _, rfl, _, _, rfl, rfl, _, rfl, _, _, rfl, rfl, .inl (by decide), _, _, rfl, rfl, h2, q⟩

theorem okXcorner_at {f : Addr} {fd : FuncData} (F : Fun K "corner_at" "corner_at" scorner_at f fd) (T : Bt mg) (Dnearest : Def P w K mg base 1 "nearest" ["n", "d"] spNearX) :
    FnG P w K mg base CX0 2 f fd ["grain", "spot"] (spCornerX K) := by
  refine okG (k := 1) F sccorner_at (fun vs H Q E h => ?_) (fun cdv A outer s H vs Q E hr h => ?_)
  · obtain ⟨g, v, s, rfl, _⟩ := h
    rfl
  · obtain ⟨g, _, ⟨n, m, d⟩, rfl, ⟨a, rfl, hS⟩, h0, h1, h2, h3, q⟩ := h
    refine ⟨_, (pss_cons (ps_asg (pv 1) (pg_tup (by rfl) (pgs_cons (pg_name (i := 2) sccorner_at.nd rfl (.inl rfl)) (pgs_cons (pg_name (i := 3) sccorner_at.nd rfl (.inl rfl)) (pgs_cons (pg_name (i := 4) sccorner_at.nd rfl (.inl rfl)) pgs_nil)))))
      (pss_one (ps_ret (tupN (pa_cons (callD Dnearest (hr.mono (by decide)) (pa_cons (pv 2) (pa_cons (pe_op op_mul (pv 4) (pv 0)) pa_nil))) (pa_cons (callD Dnearest (hr.mono (by decide)) (pa_cons (pv 3) (pa_cons (pe_op op_mul (pv 4) (pv 0)) pa_nil))) pa_nil)))))), ?_⟩
    have h4 : 0 < d * g := Int.mul_pos h2 h0
    refine ⟨.ref a, rfl, a, _, rfl, hS, rfl, _, _, rfl, _, _, rfl, _, _, rfl, rfl, ?_⟩
    exact ⟨_, rfl, _, rfl, _, rfl, _, _, rfl, rfl, .inr (by omega), n, d * g, rfl, h4, h3, _, rfl, _, rfl, _, rfl, _, _, rfl, rfl, .inr (by omega), m, d * g, rfl, h4, h3, (by show 2 ≤ sizeLine; decide), fun p H1 n1 s1 e1 => q _ _ s1 ⟨p, rfl, .inl (.inl e1)⟩⟩

end
end Cl

set_option maxHeartbeats 0
namespace Cl
open PySem PySem.Spec PyProof.Rows L2
/-! ### truths in sums -/
def b01 (b : Bool) : Int := if b = true then 1 else 0
section
variable {X : Cx}
theorem op_add_bi : OpR X (binaryOp .Add) (fun x y H Q => ∃ b j, x = .bl b ∧ y = .int j ∧ Q (.int (b01 b + j)) H) := by
  intro pins s σ H x y v u Q I rx ry h
  obtain ⟨b, j, rfl, rfl, q⟩ := h
  cases rx
  obtain ⟨t, rfl⟩ := ry
  exact PySem.IntBool.add_bool_int ⟨.int _, H, I.tok _, ⟨_, rfl⟩, q⟩
theorem op_sub_bi : OpR X (binaryOp .Sub) (fun x y H Q => ∃ b j, x = .bl b ∧ y = .int j ∧ Q (.int (b01 b - j)) H) := by
  intro pins s σ H x y v u Q I rx ry h
  obtain ⟨b, j, rfl, rfl, q⟩ := h
  cases rx
  obtain ⟨t, rfl⟩ := ry
  exact PySem.IntBool.sub_bool_int ⟨.int _, H, I.tok _, ⟨_, rfl⟩, q⟩
theorem op_sub_ib : OpR X (binaryOp .Sub) (fun x y H Q => ∃ j b, x = .int j ∧ y = .bl b ∧ Q (.int (j - b01 b)) H) := by
  intro pins s σ H x y v u Q I rx ry h
  obtain ⟨j, b, rfl, rfl, q⟩ := h
  cases ry
  obtain ⟨t, rfl⟩ := rx
  exact PySem.IntBool.sub_int_bool ⟨.int _, H, I.tok _, ⟨_, rfl⟩, q⟩
theorem op_mul_ib : OpR X (binaryOp .Mult) (fun x y H Q => ∃ j b, x = .int j ∧ y = .bl b ∧ Q (.int (j * b01 b)) H) := by
  intro pins s σ H x y v u Q I rx ry h
  obtain ⟨j, b, rfl, rfl, q⟩ := h
  cases ry
  obtain ⟨t, rfl⟩ := rx
  exact PySem.IntBool.mul_int_bool ⟨.int _, H, I.tok _, ⟨_, rfl⟩, q⟩
theorem op_eq_bi : OpR X (compareOp .Eq) (fun x y H Q => ∃ b j, x = .bl b ∧ y = .int j ∧ Q (.bl (b01 b == j)) H) := by
  intro pins s σ H x y v u Q I rx ry h
  obtain ⟨b, j, rfl, rfl, q⟩ := h
  cases rx
  obtain ⟨t, rfl⟩ := ry
  exact SeqAt.RcAt.bool_int b j t X.prog X.w _ _ ⟨.bl _, H, I, rfl, q⟩
theorem call_str_bool : CallR X (.type "str") (fun xs H Q => ∃ b : Bool, xs = [.bl b] ∧ Q (.str (if b then "True" else "False")) H) := by
  intro pins s σ H xs us Q I r h
  obtain ⟨b, rfl, q⟩ := h
  obtain ⟨u, rfl, r1⟩ := vals1 r
  cases r1
  exact PySem.P.str_of_bool ⟨.str _, H, I.tok _, ⟨_, rfl⟩, q⟩
end
/-! ### bounds of data -/
def Lf (p : Nat) : PyData → Prop
  | .none => True
  | .bool _ => True
  | .int i => i.natAbs < 2 ^ (130 + p)
  | .str x => x.cps.size ≤ 15 * 3 ^ p ∧ ∀ c ∈ x.cps.toList, c < 128
  | _ => False
inductive Gd (p : Nat) : Nat → PyData → Prop
  | lf {n : Nat} {d : PyData} : Lf p d → Gd p n d
  | lst {n : Nat} {ds : List PyData} : ds.length ≤ 5 + p → (∀ x ∈ ds, Gd p n x) → Gd p (n + 1) (.list ds)
  | tup {n : Nat} {ds : List PyData} : ds.length ≤ 5 + p → (∀ x ∈ ds, Gd p n x) → Gd p (n + 1) (.tuple ds)
  | emp {n : Nat} : Gd p (n + 1) (.dict [])
  | one {n : Nat} {i : Int} {x : PyData} : i.natAbs < 2 ^ 130 → Gd p n x → Gd p (n + 1) (.dict [(.int i, x)])
theorem Lf.up {p : Nat} {d : PyData} (h : Lf p d) : Lf (p + 1) d := by
  cases d with
  | int i =>
    have h : i.natAbs < 2 ^ (130 + p) := h
    show i.natAbs < 2 ^ (130 + p + 1)
    rw [Nat.pow_succ]
    omega
  | str x =>
    obtain ⟨h1, h2⟩ := h
    refine ⟨?_, h2⟩
    rw [Nat.pow_succ]
    omega
  | _ => exact h
theorem Gd.up {p n : Nat} {d : PyData} (h : Gd p n d) : Gd (p + 1) n d := by
  induction h with
  | lf h => exact .lf h.up
  | lst h _ ih => exact .lst (by omega) ih
  | tup h _ ih => exact .tup (by omega) ih
  | emp => exact .emp
  | one h _ ih => exact .one h ih
theorem Gd.deep {p n : Nat} {d : PyData} (h : Gd p n d) : Gd p (n + 1) d := by
  induction h with
  | lf h => exact .lf h
  | lst h _ ih => exact .lst h ih
  | tup h _ ih => exact .tup h ih
  | emp => exact .emp
  | one h _ ih => exact .one h ih
def bk : Nat → Nat
  | 0 => 135
  | n + 1 => 7 * (bk n + 1)
/-- data of which repr can be asked, and which the checkers can be asked -/
structure RepOk (d : PyData) : Prop where
  lv : d.leavesShort 200 = true
  sh : d.showable = true
  dp : d.depth ≤ 40
  bk : d.bulk ≤ 60000
theorem alls {m n : Nat} : ∀ {ds : List PyData}, (∀ x ∈ ds, x.leavesShort 200 = true ∧ x.showable = true ∧ x.depth ≤ n ∧ x.bulk ≤ m) →
    PyData.leavesShortAll 200 ds = true ∧ PyData.showableAll ds = true ∧ PyData.depthAll ds ≤ n ∧ PyData.bulkAll ds ≤ ds.length * (m + 1)
  | [], _ => ⟨rfl, rfl, Nat.zero_le _, Nat.zero_le _⟩
  | d :: ds, h => by
    obtain ⟨a1, a2, a3, a4⟩ := h d (List.mem_cons_self ..)
    obtain ⟨b1, b2, b3, b4⟩ := alls fun x hx => h x (List.mem_cons_of_mem _ hx)
    refine ⟨?_, ?_, ?_, ?_⟩
    · simp only [PyData.leavesShortAll, a1, b1, Bool.and_self]
    · simp only [PyData.showableAll, a2, b2, Bool.and_self]
    · simp only [PyData.depthAll]
      omega
    · simp only [PyData.bulkAll, List.length_cons]
      rw [Nat.succ_mul]
      omega
theorem bk_ge (n : Nat) : 135 ≤ bk n := by
  induction n with
  | zero => exact Nat.le_refl _
  | succ n ih => show 135 ≤ 7 * (bk n + 1); omega
theorem Gd.fine {p n : Nat} {d : PyData} (hp : p ≤ 2) (h : Gd p n d) : d.leavesShort 200 = true ∧ d.showable = true ∧ d.depth ≤ n ∧ d.bulk ≤ bk n := by
  induction h with
  | @lf n d h =>
    have hb := bk_ge n
    cases d with
    | none => exact ⟨rfl, rfl, Nat.zero_le _, Nat.zero_le _⟩
    | bool _ => exact ⟨rfl, rfl, Nat.zero_le _, Nat.zero_le _⟩
    | int i =>
      have h : i.natAbs < 2 ^ (130 + p) := h
      have h : okI i := Nat.lt_of_lt_of_le h (Nat.pow_le_pow_right (by omega) (by omega))
      have h1 := h.len
      have h2 := h.log
      refine ⟨?_, ?_, Nat.zero_le _, Nat.zero_le _⟩
      · simp only [PyData.leavesShort, decide_eq_true_iff]
        exact h1
      · simp only [PyData.showable, decide_eq_true_iff]
        omega
    | str x =>
      obtain ⟨h1, h2⟩ := h
      refine ⟨?_, rfl, Nat.zero_le _, ?_⟩
      · simp only [PyData.leavesShort, List.all_eq_true, decide_eq_true_iff]
        intro c hc
        exact Nat.lt_trans (h2 c hc) (by decide)
      · show x.cps.size ≤ bk n
        have : p = 0 ∨ p = 1 ∨ p = 2 := by omega
        rcases this with rfl | rfl | rfl <;> simp at h1 <;> omega
    | list _ => exact h.elim
    | tuple _ => exact h.elim
    | dict _ => exact h.elim
  | @lst n ds hl _ ih =>
    obtain ⟨a1, a2, a3, a4⟩ := alls ih
    refine ⟨a1, a2, Nat.succ_le_succ a3, Nat.le_trans a4 ?_⟩
    show _ ≤ 7 * (bk n + 1)
    exact Nat.mul_le_mul_right _ (by omega)
  | @tup n ds hl _ ih =>
    obtain ⟨a1, a2, a3, a4⟩ := alls ih
    refine ⟨a1, a2, Nat.succ_le_succ a3, Nat.le_trans a4 ?_⟩
    show _ ≤ 7 * (bk n + 1)
    exact Nat.mul_le_mul_right _ (by omega)
  | emp => exact ⟨rfl, rfl, by simp [PyData.depth, PyData.depthKv], by simp [PyData.bulk, PyData.bulkKv]⟩
  | @one n i x hi _ ih =>
    obtain ⟨a1, a2, a3, a4⟩ := ih
    have h : okI i := Nat.lt_of_lt_of_le hi (Nat.pow_le_pow_right (by omega) (by omega))
    have h1 := h.len
    have h2 := h.log
    refine ⟨?_, ?_, ?_, ?_⟩
    · simp only [PyData.leavesShort, PyData.leavesShortKv, a1, Bool.and_true, decide_eq_true_iff]
      exact h1
    · simp only [PyData.showable, PyData.showableKv, a2, Bool.and_true, decide_eq_true_iff]
      omega
    · simp only [PyData.depth, PyData.depthKv]
      omega
    · simp only [PyData.bulk, PyData.bulkKv]
      show _ ≤ 7 * (bk n + 1)
      omega
theorem Gd.rep {p n : Nat} {d : PyData} (hp : p ≤ 2) (hn : n ≤ 3) (h : Gd p n d) : RepOk d := by
  obtain ⟨a1, a2, a3, a4⟩ := h.fine hp
  refine ⟨a1, a2, by omega, Nat.le_trans a4 ?_⟩
  have : n = 0 ∨ n = 1 ∨ n = 2 ∨ n = 3 := by omega
  rcases this with rfl | rfl | rfl | rfl <;> decide
theorem asciiU : ∀ c < 128, ∀ x ∈ Unicode.upperOf c, x < 128 := by decide +kernel
theorem upper_lf {p : Nat} {x : Str} (h : Lf p (.str x)) : Lf (p + 1) (.str (Txt.upper x)) := by
  obtain ⟨h1, h2⟩ := h
  refine ⟨?_, ?_⟩
  · show (placed x fun _ c => Unicode.upperOf c).size ≤ _
    have := placed_le3 x (fun _ c => Unicode.upperOf c) (fun i c => StrLaws.upperOf_le3 c)
    have e : x.length = x.cps.size := rfl
    rw [Nat.pow_succ]
    omega
  · intro c hc
    have hc : c ∈ (placed x fun _ c => Unicode.upperOf c) := Array.mem_toList_iff.mp hc
    unfold placed at hc
    rw [Array.mem_flatten] at hc
    obtain ⟨as, h3, h4⟩ := hc
    rw [Array.mem_mapIdx] at h3
    obtain ⟨i, hi, rfl⟩ := h3
    have h4 : c ∈ Unicode.upperOf x.cps[i] := by simpa using h4
    exact asciiU _ (h2 _ (by simp)) _ h4
theorem int_lf {p : Nat} {i : Int} (hp : p ≤ 1) (h : i.natAbs < 2 ^ (130 + p)) : Lf (p + 1) (.str (Str.ofString (toString i))) := by
  refine ⟨?_, ?_⟩
  · have h : i.natAbs < 10 ^ 40 := Nat.lt_of_lt_of_le h (Nat.le_trans (Nat.pow_le_pow_right (n := 2) (by omega) (show 130 + p ≤ 131 by omega)) (by decide))
    have h1 := int_text_length_le10 (by decide) h
    have e : (Str.ofString (toString i)).length = (Str.ofString (toString i)).cps.size := rfl
    have e2 := PySem.ofString_length (toString i)
    have hk : 45 ≤ 15 * 3 ^ (p + 1) := by
      have : p = 0 ∨ p = 1 := by omega
      rcases this with rfl | rfl <;> decide
    show (Str.ofString (toString i)).cps.size ≤ 15 * 3 ^ (p + 1)
    omega
  · intro c hc
    by_cases h3 : c ≠ 45 ∧ (c < 48 ∨ 57 < c)
    · exact absurd hc (int_text_free' c h3 i)
    · omega
end Cl

set_option maxHeartbeats 0
namespace Cl
open PySem PySem.Spec PyProof.Rows L2
open GxR (TabB TabG)

theorem OkB_of {d : PyData} {p n : Nat} (hp : p ≤ 2) (h : Gd p n d) : OkB d := by
  refine ⟨fun wd ns e => ?_, fun ds e => ?_⟩
  · have e := papOf_some e
    subst e
    cases h with
    | lf h => exact h.elim
    | tup hl hx =>
      refine ⟨fun n hn => ?_, ?_⟩
      · have := hx (.int n) (List.mem_cons_of_mem _ (List.mem_map_of_mem hn))
        cases this with
        | lf h =>
          have h : n.natAbs < 2 ^ (130 + p) := h
          exact Nat.lt_of_lt_of_le h (Nat.pow_le_pow_right (by omega) (by omega))
      · have := hx (.str wd) (List.mem_cons_self ..)
        cases this with
        | lf h =>
          have h3 : PyData.strOk wd = true := by
            unfold PyData.strOk
            rw [Array.all_eq_true']
            intro c hc
            exact decide_eq_true (Nat.lt_trans (h.2 c (Array.mem_toList_iff.mpr hc)) (by decide))
          simp [SeqAt.shaped, PyData.canLay0, PyData.canLayAll0, PyData.depth, PyData.depthAll, h3]
  · subst e
    cases h with
    | lf h => exact h.elim
    | tup hl _ => omega

theorem rep_one {d : PyData} (h : RepOk d) : d.showable = true ∧ d.depth ≤ 60 ∧ d.shown.length ≤ sizeLine := by
  obtain ⟨c1, c2, c3, c4⟩ := h
  refine ⟨c2, by omega, ?_⟩
  have h1 := PyData.shown_le_bulk 200 (by decide) d c1
  have e3 : sizeLine = 16777216 := by decide
  omega
def Tb2 (Pa Pt : Addr) (H : Hp) : Prop := TabG H Pa ∧ TabG H Pt
theorem Tb2.same {Pa Pt : Addr} {H H' : Hp} (h : Tb2 Pa Pt H) (s : Same H H') : Tb2 Pa Pt H' := ⟨s.tab h.1, s.tab h.2⟩
def spTold (K : PySem.W.Frag) (Pa Pt : Addr) : Sp := fun vs H Q _ => ∃ g v u w r c d, vs = [.int g, v, u, w] ∧ Tb2 Pa Pt H ∧ AtL K H v r ∧ At2 K H u c ∧ BdW g r c ∧ Dq K H w d ∧ OkB d ∧ RepOk d ∧
  ∀ H', Same H H' → Q (.bl true) H'

section
variable {P : Program} {w : World} {K : PySem.W.Frag} {mg : Str → Option Value} {base : Heap}

theorem ok_law_told {f Pt Pa : Addr} {fd : FuncData} (F : Fun K "_law_told" "_law_told" s_law_told f fd) (T : Bt mg) (Dmeets_holds : Def P w K mg base 6 "meets_holds" ["grain", "line", "corner", "thing"] (spHoldsD K Pa Pt)) (D_law_is_paper : Def P w K mg base 2 "_law_is_paper" ["_law_grain_here", "_law_line_here", "_law_corner", "_law_thing"] (spCPapG K)) :
    FnG P w K mg base CX0 7 f fd ["_law_grain_here", "_law_line_here", "_law_corner", "_law_thing"] (spTold K Pa Pt) := by
  refine okG (k := 6) F sc_law_told (fun vs H Q E h => ?_) (fun cdv A outer s H vs Q E hr h => ?_)
  · obtain ⟨g, v, u, w, r, c, d, rfl, _⟩ := h
    rfl
  · obtain ⟨g, v, u, w, r, c, d, rfl, hT, hL, hc, bd, hd, ob, hrep, q⟩ := h
    refine ⟨_, (pss_cons (ps_set (i := 4) sc_law_told.nd rfl (.inl rfl) (pe_callB (call_reprQ hr.gd hr.room.units) (by rfl) T.repr (by decide +kernel) (pa_cons (pv 3) pa_nil)))
      (pss_cons (ps_set (i := 5) sc_law_told.nd rfl (.inl rfl) (callD Dmeets_holds (hr.mono (by decide)) (pa_cons (pv 0) (pa_cons (pv 1) (pa_cons (pv 2) (pa_cons (pv 3) pa_nil))))))
      (pss_cons (ps_set (i := 6) sc_law_told.nd rfl (.inl rfl) (callD D_law_is_paper (hr.mono (by decide)) (pa_cons (pv 0) (pa_cons (pv 1) (pa_cons (pv 2) (pa_cons (pv 3) pa_nil))))))
      (pss_one (ps_ret (pe_and (pe_callB call_isi (by rfl) T.isinstance (by decide +kernel) (pa_cons (pv 5) (pa_cons (pe_bltn (v := .ty "bool") (by rfl) T.bool (by decide +kernel) rfl) pa_nil))) (pe_and (pe_cmpR op_eq (pv 5) (pv 6) (nomark _)) (pe_one (pe_cmpR op_eq (pe_callB (call_reprQ hr.gd hr.room.units) (by rfl) T.repr (by decide +kernel) (pa_cons (pv 3) pa_nil)) (pv 4) (nomark _)))))))))), ?_⟩
    obtain ⟨rs, rd, rl⟩ := rep_one hrep
    refine ⟨_, rfl, w, d, rfl, hd, rs, rd, rl, ?_⟩
    refine ⟨_, rfl, _, rfl, _, rfl, _, rfl, g, v, u, w, r, c, d, rfl, hT.1, hT.2, hL, hc, bd, hd, ob, fun H2 S2 => ?_⟩
    refine ⟨_, rfl, _, rfl, _, rfl, _, rfl, g, v, u, w, r, c, d, rfl, hL.same S2, hc.same S2, bd, hd.same S2, ob, fun H3 s3 => ?_⟩
    have S3 := S2.trans s3
    have kB : Kd K H3 (.bl (metG g r c d || misG g r c d)) "bool" := .bl _
    refine ⟨_, rfl, _, _, _, _, _, rfl, .ty _, kB.ty, kit_ty kB.bool?, _, rfl, iteT ?_⟩
    refine ⟨_, rfl, _, rfl, rfl, _, rfl, ?_⟩
    rw [decide_eq_true rfl]
    refine iteT ⟨_, rfl, w, d, rfl, hd.same S3, rs, rd, rl, ?_⟩
    refine ⟨_, rfl, rfl, ?_⟩
    rw [decide_eq_true rfl]
    exact q H3 S3

end
end Cl

set_option maxHeartbeats 0
namespace Cl
open PySem PySem.Spec PyProof.Rows L2
open GxR (TabB TabG)

theorem FnG_or {P : Program} {w : World} {K : PySem.W.Frag} {mg : Str → Option Value} {base : Heap} {k : Nat} {f : Addr} {fd : FuncData} {ps : List Str} {A B : Sp} (h1 : FnG P w K mg base CX0 k f fd ps A) (h2 : FnG P w K mg base CX0 k f fd ps B) :
    FnG P w K mg base CX0 k f fd ps (fun vs H Q E => A vs H Q E ∨ B vs H Q E) :=
  ⟨fun a b c d h => h.elim (h1.1 a b c d) (h2.1 a b c d), fun a b c d e f g h i j k l m z => z.elim (h1.2 a b c d e f g h i j k l m) (h2.2 a b c d e f g h i j k l m)⟩
theorem FnG_im {P : Program} {w : World} {K : PySem.W.Frag} {mg : Str → Option Value} {base : Heap} {k : Nat} {f : Addr} {fd : FuncData} {ps : List Str} {A B : Sp} (h1 : FnG P w K mg base CX0 k f fd ps A) (h : ∀ vs H Q E, B vs H Q E → A vs H Q E) :
    FnG P w K mg base CX0 k f fd ps B :=
  ⟨fun a b c d z => h1.1 a b c d (h _ _ _ _ z), fun a b c d e f g h' i j k l m z => h1.2 a b c d e f g h' i j k l m (h _ _ _ _ z)⟩
theorem gInt {p n : Nat} {i : Int} (h : i.natAbs < 2 ^ (130 + p)) : Gd p n (.int i) := .lf h
theorem gStr {p n : Nat} {x : Str} (h : x.cps.size ≤ 15) (h2 : ∀ c ∈ x.cps.toList, c < 128) : Gd p n (.str x) := .lf ⟨by
  have : 1 ≤ 3 ^ p := Nat.one_le_pow _ _ (by decide)
  omega, h2⟩
theorem gInt0 {p n : Nat} {i : Int} (h : i.natAbs < 2 ^ 130) : Gd p n (.int i) := .lf (Nat.lt_of_lt_of_le h (Nat.pow_le_pow_right (by omega) (by omega)))
section
variable {K : PySem.W.Frag} {d l : Addr} {H : Hp} {vs ws : List V} {xs ys : List PyData}
theorem DqAll.app {H : Hp} : ∀ {vs : List V} {xs : List PyData}, DqAll K H vs xs → ∀ {ws : List V} {ys : List PyData}, DqAll K H ws ys → DqAll K H (vs ++ ws) (xs ++ ys)
  | _, _, .nil, _, _, h => h
  | _, _, .cons h1 h2, _, _, h => .cons h1 (DqAll.app h2 h)
theorem DqAll.rev {H : Hp} : ∀ {vs : List V} {xs : List PyData}, DqAll K H vs xs → DqAll K H vs.reverse xs.reverse
  | _, _, .nil => .nil
  | _, _, .cons h1 h2 => by
    rw [List.reverse_cons, List.reverse_cons]
    exact DqAll.app h2.rev (.cons h1 .nil)
end
theorem cutV_take (xs : List V) (k : Nat) : cutV xs none (some (k : Nat)) = xs.take k := by
  unfold cutV
  rw [HT.sIx_none, show HT.sIx xs.length xs.length (some ((k : Nat) : Int)) = min k xs.length from HT.sIx_nat _ _ k, List.drop_zero, Nat.sub_zero]
  by_cases h : k ≤ xs.length
  · rw [Nat.min_eq_left h]
  · rw [Nat.min_eq_right (by omega), List.take_of_length_le (Nat.le_refl _), List.take_of_length_le (by omega)]
theorem cutV_drop (xs : List V) (k : Nat) : cutV xs (some (k : Nat)) none = xs.drop k := by
  unfold cutV
  rw [HT.sIx_none, show HT.sIx xs.length 0 (some ((k : Nat) : Int)) = min k xs.length from HT.sIx_nat _ _ k]
  by_cases h : k ≤ xs.length
  · rw [Nat.min_eq_left h, List.take_of_length_le (by rw [List.length_drop]; exact Nat.le_refl _)]
  · rw [Nat.min_eq_right (by omega), Nat.sub_self, List.take_zero, List.drop_eq_nil_of_le (by omega)]
theorem cutV_mid (xs : List V) (i k : Nat) (h : i ≤ xs.length) : cutV xs (some (i : Nat)) (some ((i + k : Nat) : Int)) = (xs.drop i).take k := by
  unfold cutV
  rw [show HT.sIx xs.length 0 (some ((i : Nat) : Int)) = min i xs.length from HT.sIx_nat _ _ i, show HT.sIx xs.length xs.length (some ((i + k : Nat) : Int)) = min (i + k) xs.length from HT.sIx_nat _ _ (i + k), Nat.min_eq_left h]
  by_cases h2 : i + k ≤ xs.length
  · rw [Nat.min_eq_left h2, Nat.add_sub_cancel_left]
  · rw [Nat.min_eq_right (by omega), List.take_of_length_le (by rw [List.length_drop]; exact Nat.le_refl _), List.take_of_length_le (by rw [List.length_drop]; omega)]

inductive At : PyData → List Nat → PyData → Prop
  | here {x : PyData} : At x [] x
  | sub {ds : List PyData} {k : Nat} {y z : PyData} {q : List Nat} : ds[k]? = some y → At y q z → At (.tuple ds) (k :: q) z
def putD : List Nat → PyData → PyData → PyData
  | [], _, y => y
  | k :: q, .tuple ds, y => .tuple (ds.take k ++ [putD q (ds.getD k .none) y] ++ ds.drop (k + 1))
  | _ :: _, x, _ => x
theorem Gd.deepTo {p m n : Nat} {d : PyData} (h : Gd p m d) (l : m ≤ n) : Gd p n d := by
  induction l with
  | refl => exact h
  | step _ ih => exact ih.deep
theorem At.gd {x z : PyData} {q : List Nat} {p : Nat} (a : At x q z) : ∀ {n : Nat}, Gd p n x → ∃ m, m + q.length = n ∧ Gd p m z := by
  induction a with
  | here => exact fun {n} h => ⟨n, rfl, h⟩
  | sub e _ ih =>
    intro n h
    cases h with
    | lf h => exact h.elim
    | tup hl hx =>
      obtain ⟨m, h1, h2⟩ := ih (hx _ (List.mem_of_getElem? e))
      exact ⟨m, by rw [List.length_cons]; omega, h2⟩
theorem At.put {x z y : PyData} {q : List Nat} {p m : Nat} (a : At x q z) : ∀ {n : Nat}, Gd p n x → Gd (p + 1) m y → m + q.length ≤ n + 1 → Gd (p + 1) (n + 1) (putD q x y) := by
  induction a with
  | here => exact fun {n} _ h l => h.deepTo (by simpa using l)
  | @sub ds k y0 z0 q0 e _ ih =>
    intro n h hy l
    cases h with
    | lf h => exact h.elim
    | @tup n _ hl hx =>
      have hk : k < ds.length := (List.getElem?_eq_some_iff.mp e).1
      have eg : ds.getD k .none = y0 := by rw [List.getD_eq_getElem?_getD, e]; rfl
      show Gd (p + 1) (n + 1 + 1) (.tuple (ds.take k ++ [putD q0 (ds.getD k .none) y] ++ ds.drop (k + 1)))
      rw [eg]
      rw [List.length_cons] at l
      have h1 := ih (hx _ (List.mem_of_getElem? e)) hy (by omega)
      refine .tup ?_ fun w hw => ?_
      · simp only [List.length_append, List.length_take, List.length_drop, List.length_cons, List.length_nil]
        omega
      · rcases List.mem_append.mp hw with hw | hw
        · rcases List.mem_append.mp hw with hw | hw
          · exact (hx _ (List.mem_of_mem_take hw)).up.deep
          · rw [List.mem_singleton.mp hw]
            exact h1
        · exact (hx _ (List.mem_of_mem_drop hw)).up.deep
def ki (k : Nat) : V := .int k
def AtQ (K : PySem.W.Frag) (H : Hp) (u : V) (q : List Nat) : Prop := ∃ a, u = .ref a ∧ SqT K H a (q.map ki)
theorem AtQ.same {K : PySem.W.Frag} {H H' : Hp} {u : V} {q : List Nat} (h : AtQ K H u q) (s : Same H H') : AtQ K H' u q := by
  obtain ⟨a, e, h⟩ := h
  exact ⟨a, e, seT s h⟩
theorem dqs_get {K : PySem.W.Frag} {H : Hp} : ∀ {xs : List V} {ds : List PyData} {k : Nat} {y : PyData}, DqAll K H xs ds → ds[k]? = some y → ∃ v, xs[k]? = some v ∧ Dq K H v y
  | _, _, k, _, .nil, e => by simp at e
  | _, _, 0, _, .cons h1 _, e => by
    cases e
    exact ⟨_, rfl, h1⟩
  | _, _, k + 1, y, .cons (vs := vs) (ds := ds) _ h2, e => by
    have e : ds[k]? = some y := e
    obtain ⟨v, e1, e2⟩ := dqs_get (k := k) h2 e
    exact ⟨v, e1, e2⟩
theorem at_nil {x : PyData} : ∀ q ∈ [([] : List Nat)], ∃ z, At x q z := fun q hq => by
  rw [List.mem_singleton.mp hq]
  exact ⟨x, .here⟩
def spWith (K : PySem.W.Frag) (m : Nat) : Sp := fun vs H Q _ => ∃ v u w x q z y p n, vs = [v, u, w] ∧ Dq K H v x ∧ AtQ K H u q ∧ At x q z ∧ Gd p n x ∧ p ≤ 2 ∧ q.length < m ∧ Dq K H w y ∧
  ∀ w' H', Same H H' → Dq K H' w' (putD q x y) → Q w' H'
def szS : Nat → Nat
  | 0 => 1
  | n + 1 => 1 + 7 * szS n
def spSpots (K : PySem.W.Frag) (m : Nat) : Sp := fun vs H Q _ => ∃ v x p n, vs = [v] ∧ Dq K H v x ∧ Gd p n x ∧ p ≤ 2 ∧ n ≤ 3 ∧ n < m ∧
  ∀ L H' us ps, Same H H' → H' L = some (.lst us) → AllAt (AtQ K H') us ps → ps ≠ [] → ps.length ≤ szS n → (∀ q ∈ ps, ∃ z, At x q z) → Q (.ref L) H'
theorem spots_zero {P : Program} {w : World} {K : PySem.W.Frag} {mg : Str → Option Value} {base : Heap} {k : Nat} {f : Addr} {fd : FuncData} {ps : List Str} : FnG P w K mg base CX0 k f fd ps (spSpots K 0) :=
  FnG_im never fun _ _ _ _ ⟨_, _, _, _, _, _, _, _, _, h, _⟩ => absurd h (Nat.not_lt_zero _)
theorem with_zero {P : Program} {w : World} {K : PySem.W.Frag} {mg : Str → Option Value} {base : Heap} {k : Nat} {f : Addr} {fd : FuncData} {ps : List Str} : FnG P w K mg base CX0 k f fd ps (spWith K 0) :=
  FnG_im never fun _ _ _ _ ⟨_, _, _, _, _, _, _, _, _, _, _, _, _, _, _, h, _⟩ => absurd h (Nat.not_lt_zero _)

section
variable {P : Program} {w : World} {K : PySem.W.Frag} {mg : Str → Option Value} {base : Heap}

theorem ok_law_with {f : Addr} {fd : FuncData} (F : Fun K "_law_with" "_law_with" s_law_with f fd) (T : Bt mg) {m k : Nat} (D_law_with : Def P w K mg base k "_law_with" ["_law_thing", "_law_spot", "_law_part"] (spWith K m)) :
    FnG P w K mg base CX0 (k + 1) f fd ["_law_thing", "_law_spot", "_law_part"] (spWith K (m + 1)) := by
  refine okG (k := k) F sc_law_with (fun vs H Q E h => ?_) (fun cdv A outer s H vs Q E hr h => ?_)
  · obtain ⟨v, u, w, x, q, z, y, p, n, rfl, _⟩ := h
    rfl
  · obtain ⟨v, u, w, x, q, z, y, p, n, rfl, hv, hu, ha, gd, hp, hm, hw, q1⟩ := h
    refine ⟨_, (pss_cons (ps_if (pt_cmpR (op_eqTNil hr.room.units) (pv 1) (tupN pa_nil) (nomark _)) (pss_one (ps_ret (pv 2))) pss_nil)
      (pss_cons (ps_set (i := 3) sc_law_with.nd rfl (.inl rfl) (pe_ix ix_tup (pv 1) pe_int (fun _ _ => rfl)))
      (pss_one (ps_ret (pe_op op_catTB (pe_op op_catTB (pe_slice sl_tupB (pv 0) po_none (po_some (pv 3))) (tupN (pa_cons (callD D_law_with (hr.mono (Nat.le_refl _)) (pa_cons (pe_ix ix_tup (pv 0) (pv 3) (fun _ _ => rfl)) (pa_cons (pe_slice sl_tupB (pv 1) (po_some pe_int) po_none) (pa_cons (pv 2) pa_nil)))) pa_nil))) (pe_slice sl_tupB (pv 0) (po_some (pe_op op_add (pv 3) pe_int)) po_none)))))), ?_⟩
    obtain ⟨b, rfl, hS⟩ := hu
    refine ⟨_, rfl, Nat.zero_le _, fun p1 H1 n1 s1 e1 => ?_⟩
    refine ⟨b, p1, _, rfl, rfl, seT s1 hS, .inl (.inl e1), _, rfl, ?_⟩
    cases ha with
    | here => exact iteT ⟨_, rfl, q1 _ _ s1 (hw.same s1)⟩
    | @sub ds k y0 z0 q0 e a0 =>
      refine iteF ?_
      cases hv with
      | @tup a xs _ hT hall =>
      cases gd with
      | lf h => exact h.elim
      | @tup n _ hl hx =>
      obtain ⟨v0, ev, hv0⟩ := dqs_get hall e
      have lx := hall.len
      have hk : k < xs.length := (List.getElem?_eq_some_iff.mp ev).1
      have eg : ds.getD k .none = y0 := by rw [List.getD_eq_getElem?_getD, e]; rfl
      refine ⟨.ref b, rfl, b, _, 0, _, rfl, rfl, seT s1 hS, atI_nat (j := 0) rfl, ?_⟩
      refine ⟨.ref a, rfl, _, rfl, _, rfl, a, xs, rfl, seT s1 hT, fun p2 H2 s2 e2 => ?_⟩
      rw [cutV_take] at e2
      have S2 := s1.trans s2
      refine ⟨.ref a, rfl, _, rfl, a, xs, _, v0, rfl, rfl, seT S2 hT, atI_nat ev, ?_⟩
      refine ⟨.ref b, rfl, _, rfl, b, _, rfl, seT S2 hS, fun p3 H3 s3 e3 => ?_⟩
      rw [cut_rest] at e3
      have S3 := S2.trans s3
      refine ⟨_, rfl, v0, .ref p3, w, y0, q0, z, y, p, n, rfl, hv0.same S3, ⟨p3, rfl, e3⟩, a0, hx _ (List.mem_of_getElem? e), hp, by simp at hm; omega, hw.same S3, fun w4 H4 s4 hw4 => ?_⟩
      refine ⟨(by show 1 ≤ sizeLine; decide), fun p5 H5 n5 s5 e5 => ?_⟩
      have S5 := s3.trans (s4.trans s5)
      have hL1 : (xs.take k).length + [w4].length ≤ sizeLine := small64' (by rw [List.length_take]; show _ + 1 ≤ _; omega)
      have hL2 : (xs.take k ++ [w4]).length + (xs.drop (k + 1)).length ≤ sizeLine := small64' (by rw [List.length_append, List.length_take, List.length_drop]; show _ + 1 + _ ≤ _; omega)
      refine ⟨p2, p5, _, _, rfl, rfl, seT S5 e2, .inl (.inl e5), hL1, fun p6 H6 s6 e6 => ?_⟩
      refine ⟨.ref a, rfl, _, rfl, _, _, rfl, rfl, _, rfl, a, xs, rfl, seT (S2.trans (S5.trans s6)) hT, fun p7 H7 s7 e7 => ?_⟩
      rw [show ((k : Nat) : Int) + 1 = ((k + 1 : Nat) : Int) from rfl, cutV_drop] at e7
      refine ⟨p6, p7, _, _, rfl, rfl, seT s7 e6, e7, hL2, fun p8 H8 s8 e8 => ?_⟩
      have SS := S2.trans (S5.trans (s6.trans (s7.trans s8)))
      have hall8 := hall.same SS
      refine q1 _ _ SS ?_
      show Dq K H8 (.ref p8) (.tuple (ds.take k ++ [putD q0 (ds.getD k .none) y] ++ ds.drop (k + 1)))
      rw [eg]
      exact .tup e8 (DqAll.app (DqAll.app (dqs_take k hall8) (.cons (hw4.same (s5.trans (s6.trans (s7.trans s8)))) .nil)) (dqs_drop (k + 1) hall8))

end
end Cl

set_option maxHeartbeats 0
namespace Cl
open PySem PySem.Spec PyProof.Rows L2
open GxR (TabB TabG)

section
variable {P : Program} {w : World} {K : PySem.W.Frag} {mg : Str → Option Value} {base : Heap}

theorem ok_law_spots {f : Addr} {fd : FuncData} (F : Fun K "_law_spots" "_law_spots" s_law_spots f fd) (T : Bt mg) {m k : Nat} (D_law_spots : Def P w K mg base k "_law_spots" ["_law_thing"] (spSpots K m)) :
    FnG P w K mg base CX0 (k + 1) f fd ["_law_thing"] (spSpots K (m + 1)) := by
  refine okG (k := k) F sc_law_spots (fun vs H Q E h => ?_) (fun cdv A outer s H vs Q E hr h => ?_)
  · obtain ⟨v, x, p, n, rfl, _⟩ := h
    rfl
  · obtain ⟨v, x, p, n, rfl, hv, gd, hp, hn3, hm, q1⟩ := h
    refine ⟨_, (pss_cons (ps_set (i := 1) sc_law_spots.nd rfl (.inl rfl) (lstN (pa_cons (tupN pa_nil) pa_nil)))
      (pss_cons (ps_if (pt_val (pe_callB call_isi (by rfl) T.isinstance (by decide +kernel) (pa_cons (pv 0) (pa_cons (pe_bltn (v := .ty "tuple") (by rfl) T.tuple (by decide +kernel) rfl) pa_nil)))) (pss_one (ps_for PassesOwn.never rfl (pi_range1 (by rfl) T.range (pa_cons (pe_callB call_len_seq (by rfl) T.len (by decide +kernel) (pa_cons (pv 0) pa_nil)) pa_nil)) (pg_name (i := 2) sc_law_spots.nd rfl (.inr rfl)) (pss_one (ps_expr (pe_bm PySem.F.plainAttrs_list PySem.F.slot_list_extend PySem.F.type_list_extend mt_extend (pv 1) (pa_cons (pe_lc (own := [("_law_spot", 3)]) (g := gName 3) (tt := tYes) (by rfl) sc_law_spots.nd (pi_list (callD D_law_spots (hr.mono (Nat.le_refl _)) (pa_cons (pe_ix ix_tup (pv 0) (pv 2) (fun _ _ => rfl)) pa_nil))) (blkOk_by (own := [("_law_spot", 3)]) (N := ["_law_thing", "_law_found", "_law_k", "_law_spot"]) (sc := defScope s_law_spots) (by decide +kernel)) (fun _ _ _ _ _ => (pg_name (i := 3) sc_law_spots.nd rfl (.inl rfl))) (fun _ _ _ _ _ => pts_nil) (fun _ _ _ _ _ => (pe_op (op_catTBk (K := K) rfl) (tupN (pa_cons (pv 2) pa_nil)) (pv 3)))) pa_nil)))))) pss_nil)
      (pss_one (ps_ret (pv 1))))), ?_⟩
    refine ⟨Nat.zero_le _, fun p1 H1 n1 s1 e1 => ⟨(by show 1 ≤ sizeLine; decide), fun L H2 n2 s2 e2 => ?_⟩⟩
    have S2 := s1.trans s2
    obtain ⟨U, hk, ht, _⟩ := (hv.same S2).kd
    by_cases e0 : U = "tuple"
    · obtain ⟨ds, rfl⟩ := ht.mp e0
      cases hv with
      | @tup a xs _ hT hall =>
      cases gd with
      | lf h => exact h.elim
      | @tup n _ hl hx =>
      have lx := hall.len
      have hT1 := seT s1 hT
      have hall1 := hall.same s1
      refine ⟨_, rfl, _, _, _, _, _, rfl, .ty _, (Kd.tup (seT S2 hT)).ty, kit_ty (Kd.tup (seT S2 hT)).tuple?, _, rfl, iteT ?_⟩
      refine ⟨_, rfl, a, xs, rfl, .inr (seT S2 hT), xs.length, rfl, (by omega), (by omega), for_range (n := xs.length) (fun i σ H' => ∃ y2 y3 us ps, σ = [some (.ref a), some (.ref L), y2, y3] ∧ Same H1 H' ∧ H' L = some (.lst us) ∧ AllAt (AtQ K H') us ps ∧ ps ≠ [] ∧ ps.length ≤ 1 + i * szS n ∧ ∀ q ∈ ps, ∃ z, At (.tuple ds) q z) ?_ ?_ ?_⟩
      · exact ⟨_, _, [.ref p1], [[]], rfl, s2, e2, .cons ⟨p1, rfl, .inl (.inl (s2 _ _ e1))⟩ .nil, by simp, by simp, at_nil⟩
      · rintro i σ H3 hi ⟨y2, y3, us, ps, rfl, s3, eL, all, ne, len, good⟩
        obtain ⟨y0, ey0⟩ : ∃ y0, ds[i]? = some y0 := ⟨_, List.getElem?_eq_getElem (show i < ds.length by omega)⟩
        obtain ⟨v0, ev, hv0⟩ := dqs_get (hall1.same s3) ey0
        have e0i : V.int (0 + (i : Int)) = ki i := by rw [Int.zero_add]; rfl
        refine ⟨.ref L, rfl, .inl ⟨rfl, _, .inl (.inl eL)⟩, ?_⟩
        refine ⟨_, rfl, _, rfl, a, xs, _, v0, rfl, rfl, seT s3 hT1, (by rw [Int.zero_add]; exact atI_nat ev), v0, y0, p, n, rfl, hv0, hx _ (List.mem_of_getElem? ey0), hp, by omega, by omega, fun L2 H4 us2 ps2 s4 eL2 all2 ne2 len2 good2 => ?_⟩
        have sz : szS n ≤ 57 := by
          have : n = 0 ∨ n = 1 ∨ n = 2 := by omega
          rcases this with rfl | rfl | rfl <;> decide
        have si : i * szS n ≤ 7 * 57 := Nat.mul_le_mul (show i ≤ 7 by omega) sz
        have gy := hx _ (List.mem_of_getElem? ey0)
        refine ⟨L2, rfl, ⟨_, .inl (.inl eL2)⟩, fun pD nD => ?_⟩
        refine lcL (K := K) (a := L2) (xs := us2) (fun j H' => Same H4 H' ∧ ∃ ys, H' pD = some (.lst ys) ∧ AllAt (AtQ K H') ys ((ps2.take j).map (i :: ·))) nD (fun H' e1 e2 => ⟨e1, [], e2, .nil⟩) (fun j H' _ z => .inl (.inl (z.1 _ _ eL2))) (fun j x H' hx z => ?_) (fun H6 z => ?_)
        · obtain ⟨z1, ys, z2, z3⟩ := z
          obtain ⟨qq, hqq, hat⟩ := all2.get hx
          obtain ⟨b, rfl, hb⟩ := hat.same z1
          obtain ⟨zz, hzz⟩ := good2 qq (List.mem_of_getElem? hqq)
          obtain ⟨mm, hmm, _⟩ := hzz.gd gy
          have ly := z3.length
          rw [List.length_map, List.length_take] at ly
          refine ⟨rfl, _, rfl, (by show 1 ≤ sizeLine; decide), fun p4 H5 n4 s5 e4 => ⟨_, rfl, p4, b, _, _, rfl, rfl, .inl (.inl e4), seT s5 hb, small64' (by simp; omega), fun p7 H7 s7 e7 => ?_⟩⟩
          obtain ⟨acc, a1, a2, a3, a4⟩ := acc_new (y := V.ref p7) nD (z1.trans (s5.trans s7)) (s7 _ _ (s5 _ _ z2)) (by omega)
          refine ⟨acc, a1, a2, a3, _, a4, ?_⟩
          rw [List.take_add_one, hqq, List.map_append]
          refine AllAt.app (z3.map fun v q h => ?_) (.cons ⟨p7, rfl, ?_⟩ .nil)
          · obtain ⟨b9, rfl, h9⟩ := h.same (s5.trans s7)
            exact ⟨b9, rfl, updT a1 h9⟩
          · have e7 := updT (o := .lst (acc ++ [V.ref p7])) a1 e7
            rw [e0i] at e7
            exact e7
        · obtain ⟨z1, ys, z2, z3⟩ := z
          rw [all2.length, List.take_length] at z3
          have eL6 := (s4.trans z1) _ _ eL
          have l1 := all.length
          have l3 := z3.length
          rw [List.length_map] at l3
          refine ⟨L, pD, us, ys, rfl, rfl, eL6, z2, Nat.le_of_lt (small1000 (n := us.length + ys.length) (by omega)), _, _, us ++ ys, ps ++ ps2.map (i :: ·), rfl, fun b o z => ?_, upd_same, AllAt.app (all.map fun v q h => ?_) (z3.map fun v q h => ?_), by simp [ne], ?_, fun q hq => ?_⟩
          · rw [upd_ne (ne_of_none z n2)]
            exact (s3.trans (s4.trans z1)) _ _ z
          · obtain ⟨b9, rfl, h9⟩ := h.same (s4.trans z1)
            exact ⟨b9, rfl, updT eL6 h9⟩
          · obtain ⟨b9, rfl, h9⟩ := h
            exact ⟨b9, rfl, updT eL6 h9⟩
          · rw [List.length_append, List.length_map, Nat.succ_mul]
            omega
          · rcases List.mem_append.mp hq with hq | hq
            · exact good q hq
            · obtain ⟨q2, hq2, rfl⟩ := List.mem_map.mp hq
              obtain ⟨zz, hzz⟩ := good2 q2 hq2
              exact ⟨zz, .sub ey0 hzz⟩
      · rintro σ H3 ⟨y2, y3, us, ps, rfl, s3, eL, all, ne, len, good⟩
        refine ⟨_, rfl, q1 L H3 us ps (s1.trans s3) eL all ne (Nat.le_trans len ?_) good⟩
        show 1 + xs.length * szS n ≤ 1 + 7 * szS n
        have := Nat.mul_le_mul_right (szS n) (show xs.length ≤ 7 by omega)
        omega
    · refine ⟨_, rfl, _, _, _, _, _, rfl, .ty _, hk.ty, kit_ty hk.tuple?, _, rfl, ?_⟩
      rw [decide_eq_false e0]
      refine iteF ⟨_, rfl, q1 L H2 [.ref p1] [[]] S2 e2 (.cons ⟨p1, rfl, .inl (.inl (s2 _ _ e1))⟩ .nil) (by simp) ?_ at_nil⟩
      show 1 ≤ szS n
      cases n with
      | zero => exact Nat.le_refl _
      | succ n => show 1 ≤ 1 + 7 * szS n; omega

end
end Cl

set_option maxHeartbeats 0
namespace Cl
open PySem PySem.Spec PyProof.Rows L2
open GxR (TabB TabG)


/-- a number, or a truth in its place -/
def numV : V → Option Int
  | .int i => some i
  | .bl b => some (b01 b)
  | _ => none
theorem numV_cases {x : V} {i : Int} (h : numV x = some i) : x = .int i ∨ ∃ b, x = .bl b ∧ i = b01 b := by
  cases x <;> first | (cases h; exact .inl rfl) | (cases h; exact .inr ⟨_, rfl, rfl⟩) | cases h
section
variable {X : Cx}
theorem op_addN : OpR X (binaryOp .Add) (fun x y H Q => ∃ i j, numV x = some i ∧ y = .int j ∧ Q (.int (i + j)) H) := by
  intro pins s σ H x y v u Q I rx ry hh
  obtain ⟨i, j, h, rfl, q⟩ := hh
  rcases numV_cases h with rfl | ⟨b, rfl, rfl⟩
  · exact op_add pins s σ H _ _ v u Q I rx ry ⟨_, _, rfl, rfl, q⟩
  · exact op_add_bi pins s σ H _ _ v u Q I rx ry ⟨_, _, rfl, rfl, q⟩
theorem op_subN : OpR X (binaryOp .Sub) (fun x y H Q => ∃ i j, numV x = some i ∧ y = .int j ∧ Q (.int (i - j)) H) := by
  intro pins s σ H x y v u Q I rx ry hh
  obtain ⟨i, j, h, rfl, q⟩ := hh
  rcases numV_cases h with rfl | ⟨b, rfl, rfl⟩
  · exact op_sub pins s σ H _ _ v u Q I rx ry ⟨_, _, rfl, rfl, q⟩
  · exact op_sub_bi pins s σ H _ _ v u Q I rx ry ⟨_, _, rfl, rfl, q⟩
theorem op_rsubN : OpR X (binaryOp .Sub) (fun x y H Q => ∃ j i, x = .int j ∧ numV y = some i ∧ Q (.int (j - i)) H) := by
  intro pins s σ H x y v u Q I rx ry hh
  obtain ⟨j, i, rfl, h, q⟩ := hh
  rcases numV_cases h with rfl | ⟨b, rfl, rfl⟩
  · exact op_sub pins s σ H _ _ v u Q I rx ry ⟨_, _, rfl, rfl, q⟩
  · exact op_sub_ib pins s σ H _ _ v u Q I rx ry ⟨_, _, rfl, rfl, q⟩
theorem op_mulN : OpR X (binaryOp .Mult) (fun x y H Q => ∃ j i, x = .int j ∧ numV y = some i ∧ (-(2 ^ 60) < j ∧ j < 2 ^ 60) ∧ Q (.int (j * i)) H) := by
  intro pins s σ H x y v u Q I rx ry hh
  obtain ⟨j, i, rfl, h, hj, q⟩ := hh
  rcases numV_cases h with rfl | ⟨b, rfl, rfl⟩
  · exact op_mul pins s σ H _ _ v u Q I rx ry ⟨_, _, rfl, rfl, .inl ⟨by omega, by omega⟩, q⟩
  · exact op_mul_ib pins s σ H _ _ v u Q I rx ry ⟨_, _, rfl, rfl, q⟩
theorem op_eqN : OpR X (compareOp .Eq) (fun x y H Q => ∃ i j, numV x = some i ∧ y = .int j ∧ Q (.bl (decide (i = j))) H) := by
  intro pins s σ H x y v u Q I rx ry hh
  obtain ⟨i, j, h, rfl, q⟩ := hh
  rcases numV_cases h with rfl | ⟨b, rfl, rfl⟩
  · refine op_eq pins s σ H _ _ v u Q I rx ry ⟨rfl, ?_⟩
    rw [show decide (V.int i = V.int j) = decide (i = j) from decide_eq_decide.mpr ⟨V.int.inj, congrArg _⟩]
    exact q
  · refine op_eq_bi pins s σ H _ _ v u Q I rx ry ⟨_, _, rfl, rfl, ?_⟩
    rw [show (b01 b == j) = decide (b01 b = j) from rfl]
    exact q
def strN : V → Str
  | .int i => toString i
  | .bl b => if b then "True" else "False"
  | _ => ""
theorem call_strN : CallR X (.type "str") (fun xs H Q => ∃ x i, xs = [x] ∧ numV x = some i ∧ i.natAbs.log2 < 1920 ∧ Q (.str (strN x)) H) := by
  intro pins s σ H xs us Q I r hh
  obtain ⟨x, i, e, h, hl, q⟩ := hh
  rcases numV_cases h with rfl | ⟨b, rfl, rfl⟩
  · exact call_str_int pins s σ H _ us Q I r ⟨i, e, hl, q⟩
  · exact call_str_bool pins s σ H _ us Q I r ⟨b, e, q⟩
end
theorem dqs_at {K : PySem.W.Frag} {H : Hp} {vs : List V} {xs : List PyData} (h : DqAll K H vs xs) {j : Int} (h0 : 0 ≤ j) (h1 : j < (vs.length : Nat)) : ∃ w y, atI vs j = some w ∧ y ∈ xs ∧ Dq K H w y := by
  obtain ⟨k, rfl⟩ : ∃ k : Nat, j = (k : Nat) := ⟨j.toNat, by omega⟩
  have hk : k < xs.length := by rw [← h.len]; omega
  obtain ⟨v, e, q⟩ := dqs_get h (List.getElem?_eq_getElem hk)
  exact ⟨v, _, atI_nat e, List.getElem_mem hk, q⟩
theorem num_bd {K : PySem.W.Frag} {H : Hp} {u : V} {z : PyData} {i : Int} {p m : Nat} (h : numV u = some i) (hd : Dq K H u z) (g : Gd p m z) : i.natAbs < 2 ^ (130 + p) := by
  rcases numV_cases h with rfl | ⟨b, rfl, rfl⟩
  · cases hd
    cases g with
    | lf h => exact h
  · have : b01 b = 0 ∨ b01 b = 1 := by unfold b01; split <;> omega
    have h4 : 2 ^ 130 ≤ 2 ^ (130 + p) := Nat.pow_le_pow_right (by omega) (by omega)
    have h5 : (2 : Nat) ≤ 2 ^ 130 := by decide
    omega
theorem log1920 {i : Int} {p : Nat} (h : i.natAbs < 2 ^ (130 + p)) (hp : p ≤ 1) : i.natAbs.log2 < 1920 := by
  have h : okI i := Nat.lt_of_lt_of_le h (Nat.pow_le_pow_right (by omega) (by omega))
  have := h.log
  omega
theorem tupGd {p n : Nat} {es : List PyData} (hl : es.length ≤ 6 + p) (h : ∀ e ∈ es, Gd p n e) : Gd (p + 1) (n + 2) (.tuple es) := .tup (by omega) fun e m => (h e m).up.deep
theorem lstGd {p n : Nat} {es : List PyData} (hl : es.length ≤ 6 + p) (h : ∀ e ∈ es, Gd p n e) : Gd (p + 1) (n + 2) (.list es) := .lst (by omega) fun e m => (h e m).up.deep
def spBentC (K : PySem.W.Frag) : Sp := fun vs H Q _ => ∃ v a x p n way place what, vs = [v, .ref a] ∧ SqT K H a [.int way, .int place, .int what] ∧ Dq K H v x ∧ Gd p n x ∧ p ≤ 1 ∧ n ≤ 2 ∧ (0 ≤ way ∧ way < 2 ^ 40) ∧ (0 ≤ place ∧ place < 2 ^ 40) ∧ (0 ≤ what ∧ what < 2 ^ 40) ∧
  ∀ w' H' y, Same H H' → Dq K H' w' y → Gd (p + 1) (n + 1) y → Q w' H'

section
variable {P : Program} {w : World} {K : PySem.W.Frag} {mg : Str → Option Value} {base : Heap}

theorem ok_law_bent {f : Addr} {fd : FuncData} (F : Fun K "_law_bent" "_law_bent" s_law_bent f fd) (T : Bt mg) (D_law_spots : Def P w K mg base 4 "_law_spots" ["_law_thing"] (spSpots K 3)) (D_law_with : Def P w K mg base 4 "_law_with" ["_law_thing", "_law_spot", "_law_part"] (spWith K 3)) :
    FnG P w K mg base CX0 5 f fd ["_law_thing", "_law_spoil"] (spBentC K) := by
  refine okG (k := 4) F sc_law_bent (fun vs H Q E h => ?_) (fun cdv A outer s H vs Q E hr h => ?_)
  · obtain ⟨v, a, x, p, n, way, place, what, rfl, _⟩ := h
    rfl
  · obtain ⟨v, a, x, p, n, way, place, what, rfl, hS, hv, gd, hp, hn, ⟨w0, w1⟩, ⟨l0, l1⟩, ⟨t0, t1⟩, q⟩ := h
    refine ⟨_, (pss_cons (ps_asg (pv 1) (pg_tup (by rfl) (pgs_cons (pg_name (i := 2) sc_law_bent.nd rfl (.inl rfl)) (pgs_cons (pg_name (i := 3) sc_law_bent.nd rfl (.inl rfl)) (pgs_cons (pg_name (i := 4) sc_law_bent.nd rfl (.inl rfl)) pgs_nil)))))
      (pss_cons (ps_set (i := 5) sc_law_bent.nd rfl (.inl rfl) (callD D_law_spots (hr.mono (by decide)) (pa_cons (pv 0) pa_nil)))
      (pss_cons (ps_set (i := 6) sc_law_bent.nd rfl (.inl rfl) (pe_ix ix_list (pv 5) (pe_op op_mod (pv 3) (pe_callB call_len_seq (by rfl) T.len (by decide +kernel) (pa_cons (pv 5) pa_nil))) (fun _ _ => rfl)))
      (pss_cons (ps_set (i := 7) sc_law_bent.nd rfl (.inl rfl) (pv 0))
      (pss_cons (ps_for PassesOwn.never rfl (pi_tup (pv 6)) (pg_name (i := 8) sc_law_bent.nd rfl (.inl rfl)) (pss_one (ps_set (i := 7) sc_law_bent.nd rfl (.inl rfl) (pe_ix ix_tup (pv 7) (pv 8) (fun _ _ => rfl)))))
      (cutS (ps_if (PW.pt (pw_and (pt_cmpR op_lt (pv 2) pe_int (nomark _)) (pw_and1 (pt_val (pe_callB call_isi (by rfl) T.isinstance (by decide +kernel) (pa_cons (pv 7) (pa_cons (pe_bltn (v := .ty "int") (by rfl) T.int (by decide +kernel) rfl) pa_nil))))))) (pss_cons (ps_set (i := 9) sc_law_bent.nd rfl (.inl rfl) (lstN (pa_cons (pe_op op_addN (pv 7) pe_int) (pa_cons (pe_op op_subN (pv 7) pe_int) (pa_cons (pe_op op_rsubN pe_int (pv 7)) (pa_cons (pe_cmpR op_eqN (pv 7) pe_int (nomark _)) (pa_cons (pe_callTy call_strN (by rfl) T.str (by decide +kernel) (pa_cons (pv 7) pa_nil)) (pa_cons (pe_op op_mulN pe_int (pv 7)) (pa_cons (pe_op op_addN (pv 7) (pe_op op_pow pe_int pe_int)) (pa_cons pe_non pa_nil))))))))))
      (pss_one (ps_ret (callD D_law_with (hr.mono (by decide)) (pa_cons (pv 0) (pa_cons (pv 6) (pa_cons (pe_ix ix_list (pv 9) (pe_op op_mod (pv 4) pe_int) (fun _ _ => rfl)) pa_nil))))))) pss_nil)
      (cutS (ps_if (PW.pt (pw_and (pt_cmpR op_lt (pv 2) pe_int (nomark _)) (pw_and1 (pt_val (pe_callB call_isi (by rfl) T.isinstance (by decide +kernel) (pa_cons (pv 7) (pa_cons (pe_bltn (v := .ty "tuple") (by rfl) T.tuple (by decide +kernel) rfl) pa_nil))))))) (pss_cons (ps_set (i := 10) sc_law_bent.nd rfl (.inl rfl) (pe_op op_mod (pv 4) (pe_op op_add (pe_callB call_len_seq (by rfl) T.len (by decide +kernel) (pa_cons (pv 7) pa_nil)) pe_int)))
      (pss_cons (ps_set (i := 9) sc_law_bent.nd rfl (.inl rfl) (lstN (pa_cons (pe_op op_catTB (pe_slice sl_tupB (pv 7) po_none (po_some (pv 10))) (pe_slice sl_tupB (pv 7) (po_some (pe_op op_add (pv 10) pe_int)) po_none)) (pa_cons (pe_op op_catTB (pe_op op_catTB (pe_slice sl_tupB (pv 7) po_none (po_some (pv 10))) (pe_slice sl_tupB (pv 7) (po_some (pv 10)) (po_some (pe_op op_add (pv 10) pe_int)))) (pe_slice sl_tupB (pv 7) (po_some (pv 10)) po_none)) (pa_cons (pe_revT (pv 7)) (pa_cons (pe_callTy call_listM (by rfl) T.list (by decide +kernel) (pa_cons (pv 7) pa_nil)) pa_nil))))))
      (pss_cons (ps_expr (pe_bm PySem.F.plainAttrs_list PySem.F.slot_list_append PySem.F.type_list_append mt_append (pv 9) (pa_cons (pe_op op_catTB (pe_op op_catTB (pe_slice sl_tupB (pv 7) po_none (po_some (pv 10))) (pe_revT (pe_slice sl_tupB (pv 7) (po_some (pv 10)) (po_some (pe_op op_add (pv 10) pe_int))))) (pe_slice sl_tupB (pv 7) (po_some (pe_op op_add (pv 10) pe_int)) po_none)) pa_nil)))
      (pss_one (ps_ret (callD D_law_with (hr.mono (by decide)) (pa_cons (pv 0) (pa_cons (pv 6) (pa_cons (pe_ix ix_list (pv 9) (pe_op op_mod (pe_op op_fdiv (pv 4) pe_int) pe_int) (fun _ _ => rfl)) pa_nil))))))))) pss_nil)
      (pss_cons (ps_set (i := 11) sc_law_bent.nd rfl (.inl rfl) (lstN (pa_cons pe_non (pa_cons pe_bl (pa_cons pe_bl (pa_cons pe_int (pa_cons pe_int (pa_cons (pe_un un_neg pe_int) (pa_cons pe_str (pa_cons pe_str (pa_cons pe_str (pa_cons (tupN pa_nil) (pa_cons (lstM pa_nil) (pa_cons pe_dnewK (pa_cons (lstM (pa_cons (pv 7) pa_nil)) (pa_cons (tupN (pa_cons (pv 7) pa_nil)) (pa_cons (pe_op op_pow pe_int pe_int) (pa_cons (tupN (pa_cons pe_int (pa_cons pe_int pa_nil))) pa_nil))))))))))))))))))
      (pss_one (ps_ret (callD D_law_with (hr.mono (by decide)) (pa_cons (pv 0) (pa_cons (pv 6) (pa_cons (pe_ix ix_list (pv 11) (pe_op op_mod (pv 4) pe_int) (fun _ _ => rfl)) pa_nil)))))))))))))), ?_⟩
    refine ⟨.ref a, rfl, a, _, rfl, hS, rfl, _, _, rfl, _, _, rfl, _, _, rfl, rfl, ?_⟩
    refine ⟨_, rfl, v, x, p, n, rfl, hv, gd, by omega, by omega, by omega, fun L H1 us ps s1 eL all ne len good => ?_⟩
    have lu := all.length
    have lp : 0 < us.length := by rw [lu]; exact List.length_pos_iff.mpr ne
    obtain ⟨j, ej, hj⟩ : ∃ j : Nat, place % ((us.length : Nat) : Int) = ((j : Nat) : Int) ∧ j < us.length := by
      have h0 := Int.emod_nonneg place (show ((us.length : Nat) : Int) ≠ 0 by omega)
      have h1 := Int.emod_lt_of_pos place (show (0 : Int) < ((us.length : Nat) : Int) by omega)
      exact ⟨(place % ((us.length : Nat) : Int)).toNat, by omega, by omega⟩
    have eu : us[j]? = some us[j] := List.getElem?_eq_getElem hj
    obtain ⟨qq, hqq, b, eb, hb⟩ := all.get eu
    obtain ⟨z, hz⟩ := good qq (List.mem_of_getElem? hqq)
    obtain ⟨mz, emz, gz⟩ := hz.gd gd
    refine ⟨_, rfl, _, rfl, _, rfl, L, us, rfl, .inl (.inl (.inl eL)), _, _, rfl, rfl, (by show (0 : Int) < ((us.length : Nat) : Int); omega), L, us, _, .ref b, rfl, rfl, .inl (.inl eL), (by rw [ej, ← eb]; exact atI_nat eu), ?_⟩
    have hv1 := hv.same s1
    refine ⟨_, rfl, _, rfl, b, rfl, ⟨_, hb⟩, for_tup (K := K) (a := b) (xs := qq.map ki) (fun i σ' H' => ∃ u y8 y9 y10 y11, σ' = [some v, some (.ref a), some (.int way), some (.int place), some (.int what), some (.ref L), some (.ref b), some u, y8, y9, y10, y11] ∧ H1 = H' ∧ ∃ py, Dq K H1 u py ∧ At py (qq.drop i) z) ⟨_, _, _, _, _, rfl, rfl, x, hv1, hz⟩ (fun i σ' H' _ z => by obtain ⟨_, _, _, _, _, _, rfl, _⟩ := z; exact hb) (fun i k σ' H' hk z => ?_) (fun σ' H' z => ?_)⟩
    · obtain ⟨u, y8, y9, y10, y11, rfl, rfl, py, hpy, hat⟩ := z
      rw [List.getElem?_map] at hk
      cases e : qq[i]? with
      | none => rw [e] at hk; cases hk
      | some kk =>
        rw [e] at hk
        cases hk
        have ed : qq.drop i = kk :: qq.drop (i + 1) := by
          obtain ⟨h1, h2⟩ := List.getElem?_eq_some_iff.mp e
          rw [← h2]
          exact (List.drop_eq_getElem_cons h1)
        rw [ed] at hat
        cases hat with
        | @sub ds k y0 _ _ e0 hat0 =>
          cases hpy with
          | @tup a2 xs _ hT2 hall2 =>
            obtain ⟨w0, ew, hw⟩ := dqs_get hall2 e0
            exact ⟨_, rfl, _, rfl, a2, xs, _, w0, rfl, rfl, hT2, atI_nat ew, _, _, _, _, _, rfl, rfl, y0, hw, hat0⟩
    · obtain ⟨u, y8, y9, y10, y11, rfl, rfl, py, hpy, hat⟩ := z
      rw [List.length_map, List.drop_length] at hat
      cases hat
      refine ⟨fun σ' H' => ∃ y8 y9 y10 y11, σ' = [some v, some (.ref a), some (.int way), some (.int place), some (.int what), some (.ref L), some (.ref b), some u, y8, y9, y10, y11] ∧ H1 = H', ?_, ?_⟩
      · refine ⟨_, rfl, _, _, rfl, rfl, _, rfl, ite2 (fun e => ?_) (fun e => ⟨_, _, _, _, rfl, rfl⟩)⟩
        obtain ⟨U, hk, _, _, _⟩ := hpy.kd
        refine ⟨_, rfl, _, _, _, _, _, rfl, .ty _, hk.ty, kit_ty hk.int?, _, rfl, ?_⟩
        cases hN : numV u with
        | none =>
          have hb : (isI u || isB u) = false := by cases u <;> first | rfl | cases hN
          rw [hb]
          exact iteF ⟨_, _, _, _, rfl, rfl⟩
        | some i =>
          have hb2 : (isI u || isB u) = true := by rcases numV_cases hN with rfl | ⟨b, rfl, _⟩ <;> rfl
          rw [hb2]
          have hi : i.natAbs < 2 ^ (130 + p) := num_bd hN hpy gz
          refine iteT ?_
          refine ⟨_, rfl, i, _, hN, rfl, _, rfl, i, _, hN, rfl, _, rfl, _, i, rfl, hN, _, rfl, i, _, hN, rfl, _, rfl, u, i, rfl, hN, log1920 hi hp, _, rfl, _, i, rfl, hN, ⟨by decide, by decide⟩, ?_⟩
          refine ⟨_, rfl, _, _, rfl, rfl, ⟨by decide, by decide, by decide⟩, i, _, hN, rfl, ?_⟩
          refine ⟨(by show 8 ≤ sizeLine; decide), fun M H2 n2 S9 e2 => ?_⟩
          have all : DqAll K H2 [V.int (i + 1), .int (i - 1), .int (0 - i), .bl (decide (i = 1)), .str (strN u), .int (2 * i), .int (i + 10 ^ (30 : Int).toNat), .non]
              [PyData.int (i + 1), .int (i - 1), .int (0 - i), .bool (decide (i = 1)), .str (strN u), .int (2 * i), .int (i + 10 ^ (30 : Int).toNat), .none] :=
            .cons (.int _) (.cons (.int _) (.cons (.int _) (.cons (.bl _) (.cons (.str _) (.cons (.int _) (.cons (.int _) (.cons .non .nil)))))))
          have good : ∀ y ∈ [PyData.int (i + 1), .int (i - 1), .int (0 - i), .bool (decide (i = 1)), .str (strN u), .int (2 * i), .int (i + 10 ^ (30 : Int).toNat), .none], Gd (p + 1) (mz + 1) y := by
            intro y hy
            have h3 : 2 ^ (130 + (p + 1)) = 2 * 2 ^ (130 + p) := by rw [← Nat.add_assoc, Nat.pow_succ]; omega
            have h4 : 2 ^ 130 ≤ 2 ^ (130 + p) := Nat.pow_le_pow_right (by omega) (by omega)
            have h5 : (10 : Int) ^ (30 : Int).toNat = 1000000000000000000000000000000 := by decide
            simp only [List.mem_cons, List.not_mem_nil, or_false] at hy
            rcases hy with rfl | rfl | rfl | rfl | rfl | rfl | rfl | rfl
            · exact gInt (by omega)
            · exact gInt (by omega)
            · exact gInt (by omega)
            · exact .lf trivial
            · rcases numV_cases hN with rfl | ⟨b, rfl, _⟩
              · exact .lf (int_lf hp hi)
              · cases b <;> exact gStr (by decide) (by decide)
            · exact gInt (by omega)
            · exact gInt (by rw [h5]; omega)
            · exact .lf trivial
          have i0 := Int.emod_nonneg (what) (show (8 : Int) ≠ 0 by decide)
          have i1 := Int.emod_lt_of_pos (what) (show (0 : Int) < 8 by decide)
          obtain ⟨w9, y9, hw, hy, qy⟩ := dqs_at all i0 (by simp; omega)
          refine ⟨_, rfl, _, rfl, _, rfl, _, rfl, _, _, rfl, rfl, (by show (0 : Int) < 8; decide), M, _, _, w9, rfl, rfl, .inl (.inl e2), hw, v, .ref b, w9, x, qq, _, y9, p, n, rfl, hv1.same S9, ⟨b, rfl, seT S9 hb⟩, hz, gd, by omega, by omega, qy, fun w8 H8 s8 d8 => q w8 H8 _ ((s1.trans S9).trans s8) d8 (hz.put gd (good _ hy) (by omega))⟩
      · rintro σ9 H9 ⟨y8, y9, y10, y11, rfl, rfl⟩
        refine ⟨fun σ' H' => ∃ y8 y9 y10 y11, σ' = [some v, some (.ref a), some (.int way), some (.int place), some (.int what), some (.ref L), some (.ref b), some u, y8, y9, y10, y11] ∧ H1 = H', ?_, ?_⟩
        · refine ⟨_, rfl, _, _, rfl, rfl, _, rfl, ite2 (fun e => ?_) (fun e => ⟨_, _, _, _, rfl, rfl⟩)⟩
          obtain ⟨U, hk, ht, _, _⟩ := hpy.kd
          by_cases e0 : U = "tuple"
          · obtain ⟨ds, rfl⟩ := ht.mp e0
            cases hpy with
            | @tup a2 xs _ hT2 hall =>
            cases gz with
            | lf h => exact h.elim
            | @tup m9 _ hl hx =>
            have lx := hall.len
            refine ⟨_, rfl, _, _, _, _, _, rfl, .ty _, (Kd.tup hT2).ty, kit_ty (Kd.tup hT2).tuple?, _, rfl, iteT ?_⟩
            obtain ⟨j, ej, hj⟩ : ∃ j : Nat, what % (((xs.length : Nat) : Int) + 1) = ((j : Nat) : Int) ∧ j ≤ xs.length := by
              have h0 := Int.emod_nonneg what (show ((xs.length : Nat) : Int) + 1 ≠ 0 by omega)
              have h1 := Int.emod_lt_of_pos what (show (0 : Int) < ((xs.length : Nat) : Int) + 1 by omega)
              exact ⟨(what % (((xs.length : Nat) : Int) + 1)).toNat, by omega, by omega⟩
            refine ⟨_, rfl, _, rfl, a2, xs, rfl, .inr hT2, _, _, rfl, rfl, _, _, rfl, rfl, (by show (0 : Int) < ((xs.length : Nat) : Int) + 1; omega), ?_⟩
            have h64 : xs.length ≤ 7 := by omega
            generalize hG : ((fun i j => V.int (i % j)) what (((xs.length : Nat) : Int) + 1) : V) = gv
            have hG : gv = V.int ((j : Nat) : Int) := by
              rw [← hG]
              exact congrArg V.int ej
            subst hG
            have v0 := Same.refl H1
            refine ⟨_, rfl, _, rfl, _, rfl, a2, xs, rfl, seT v0 hT2, fun p1 A1 t1 g1 => ?_⟩
            rw [cutV_take] at g1
            have v1 := v0.trans t1
            refine ⟨_, rfl, _, rfl, _, _, rfl, rfl, _, rfl, a2, xs, rfl, seT v1 hT2, fun p2 A2 t2 g2 => ?_⟩
            rw [show ((j : Nat) : Int) + 1 = ((j + 1 : Nat) : Int) from rfl, cutV_drop] at g2
            have v2 := v1.trans t2
            refine ⟨p1, p2, _, _, rfl, rfl, seT t2 g1, g2, small64' (by simp; omega), fun p3 A3 t3 g3 => ?_⟩
            have v3 := v2.trans t3
            refine ⟨_, rfl, _, rfl, _, rfl, a2, xs, rfl, seT v3 hT2, fun p4 A4 t4 g4 => ?_⟩
            rw [cutV_take] at g4
            have v4 := v3.trans t4
            refine ⟨_, rfl, _, rfl, _, rfl, _, rfl, _, _, rfl, rfl, _, rfl, a2, xs, rfl, seT v4 hT2, fun p5 A5 t5 g5 => ?_⟩
            rw [show ((j : Nat) : Int) + 1 = ((j + 1 : Nat) : Int) from rfl, cutV_mid _ _ _ hj] at g5
            have v5 := v4.trans t5
            refine ⟨p4, p5, _, _, rfl, rfl, seT t5 g4, g5, small64' (by simp; omega), fun p6 A6 t6 g6 => ?_⟩
            have v6 := v5.trans t6
            refine ⟨_, rfl, _, rfl, _, rfl, a2, xs, rfl, seT v6 hT2, fun p7 A7 t7 g7 => ?_⟩
            rw [cutV_drop] at g7
            have v7 := v6.trans t7
            refine ⟨p6, p7, _, _, rfl, rfl, seT t7 g6, g7, small64' (by simp; omega), fun p8 A8 t8 g8 => ?_⟩
            have v8 := v7.trans t8
            refine ⟨_, rfl, a2, xs, rfl, seT v8 hT2, fun p9 A9 n9 t9 g9 => ?_⟩
            have v9 := v8.trans t9
            refine ⟨_, rfl, a2, xs, rfl, seT v9 hT2, fun p10 A10 m10 n10 t10 g10 => ?_⟩
            have v10 := v9.trans t10
            refine ⟨(by show 4 ≤ sizeLine; decide), fun M A11 n11 t11 g11 => ?_⟩
            have v11 := v10.trans t11
            refine ⟨_, rfl, .inl ⟨rfl, _, .inl (.inl g11)⟩, ?_⟩
            refine ⟨_, rfl, _, rfl, _, rfl, a2, xs, rfl, seT v11 hT2, fun p12 A12 t12 g12 => ?_⟩
            rw [cutV_take] at g12
            have v12 := v11.trans t12
            refine ⟨_, rfl, _, rfl, _, rfl, _, rfl, _, _, rfl, rfl, _, rfl, a2, xs, rfl, seT v12 hT2, fun p13 A13 t13 g13 => ?_⟩
            rw [show ((j : Nat) : Int) + 2 = ((j + 2 : Nat) : Int) from rfl, cutV_mid _ _ _ hj] at g13
            have v13 := v12.trans t13
            refine ⟨p13, _, rfl, g13, fun p14 A14 n14 t14 g14 => ?_⟩
            have v14 := v13.trans t14
            refine ⟨p12, p14, _, _, rfl, rfl, seT (t13.trans t14) g12, .inl (.inl g14), small64' (by simp; omega), fun p15 A15 t15 g15 => ?_⟩
            have v15 := v14.trans t15
            refine ⟨_, rfl, _, rfl, _, _, rfl, rfl, _, rfl, a2, xs, rfl, seT v15 hT2, fun p16 A16 t16 g16 => ?_⟩
            rw [show ((j : Nat) : Int) + 2 = ((j + 2 : Nat) : Int) from rfl, cutV_drop] at g16
            have v16 := v15.trans t16
            refine ⟨p15, p16, _, _, rfl, rfl, seT t16 g15, g16, small64' (by simp; omega), fun p17 A17 t17 g17 => ?_⟩
            have v17 := v16.trans t17
            have x17 := t17
            have x16 := t16.trans x17
            have x15 := t15.trans x16
            have x14 := t14.trans x15
            have x13 := t13.trans x14
            have x12 := t12.trans x13
            have x11 := t11.trans x12
            have x10 := t10.trans x11
            have x9 := t9.trans x10
            have x8 := t8.trans x9
            have x7 := t7.trans x8
            have x6 := t6.trans x7
            have x5 := t5.trans x6
            have x4 := t4.trans x5
            have x3 := t3.trans x4
            have x2 := t2.trans x3
            have eM : A17 M = some (.lst [V.ref p3, .ref p8, .ref p9, .ref p10]) := x12 _ _ g11
            refine ⟨M, _, .ref p17, rfl, rfl, eM, small1000 (by show 4 ≤ 1000; decide), ?_⟩
            have U18 : Same A10 (upd A17 M (.lst ([V.ref p3, .ref p8, .ref p9, .ref p10] ++ [.ref p17]))) := fun b o z => by
              rw [upd_ne (ne_of_none z n11)]
              exact x11 _ _ z
            have S9 := v10.trans U18
            have h1 := updT (o := .lst ([V.ref p3, .ref p8, .ref p9, .ref p10] ++ [.ref p17])) eM (seT x4 g3)
            have h2 := updT (o := .lst ([V.ref p3, .ref p8, .ref p9, .ref p10] ++ [.ref p17])) eM (seT x9 g8)
            have h3 := U18 _ _ (t10 _ _ g9)
            have h4 := U18 _ _ g10
            have h5 := updT (o := .lst ([V.ref p3, .ref p8, .ref p9, .ref p10] ++ [.ref p17])) eM g17
            have e18 : (upd A17 M (.lst ([V.ref p3, .ref p8, .ref p9, .ref p10] ++ [.ref p17]))) M = some (.lst ([V.ref p3, .ref p8, .ref p9, .ref p10] ++ [.ref p17])) := upd_same
            generalize (upd A17 M (.lst ([V.ref p3, .ref p8, .ref p9, .ref p10] ++ [.ref p17]))) = A18 at S9 h1 h2 h3 h4 h5 e18 ⊢
            have hall9 := hall.same S9
            have all : DqAll K A18 ([V.ref p3, .ref p8, .ref p9, .ref p10] ++ [.ref p17]) ([PyData.tuple (ds.take j ++ ds.drop (j + 1)), .tuple (ds.take j ++ (ds.drop j).take 1 ++ ds.drop j), .tuple ds.reverse, .list ds] ++ [.tuple (ds.take j ++ ((ds.drop j).take 2).reverse ++ ds.drop (j + 2))]) := by
              have tk := fun i => dqs_take i hall9
              have dp := fun i => dqs_drop i hall9
              exact .cons (.tup h1 (DqAll.app (tk j) (dp (j + 1)))) (.cons (.tup h2 (DqAll.app (DqAll.app (tk j) (dqs_take 1 (dp j))) (dp j))) (.cons (.tup (.inl (.inl h3)) (DqAll.rev hall9)) (.cons (.lst m10 h4 hall9) (.cons (.tup h5 (DqAll.app (DqAll.app (tk j) (DqAll.rev (dqs_take 2 (dp j)))) (dp (j + 2)))) .nil))))
            have good : ∀ y ∈ ([PyData.tuple (ds.take j ++ ds.drop (j + 1)), .tuple (ds.take j ++ (ds.drop j).take 1 ++ ds.drop j), .tuple ds.reverse, .list ds] ++ [.tuple (ds.take j ++ ((ds.drop j).take 2).reverse ++ ds.drop (j + 2))]), Gd (p + 1) (m9 + 1 + 1) y := by
              intro y hy
              have tk : ∀ {i : Nat} {e : PyData}, e ∈ ds.take i → Gd p m9 e := fun h => hx _ (List.mem_of_mem_take h)
              have dp : ∀ {i : Nat} {e : PyData}, e ∈ ds.drop i → Gd p m9 e := fun h => hx _ (List.mem_of_mem_drop h)
              simp only [List.cons_append, List.nil_append, List.mem_cons, List.not_mem_nil, or_false] at hy
              rcases hy with rfl | rfl | rfl | rfl | rfl
              · refine tupGd (by simp; omega) fun e he => ?_
                rcases List.mem_append.mp he with he | he
                · exact tk he
                · exact dp he
              · refine tupGd (by simp; omega) fun e he => ?_
                rcases List.mem_append.mp he with he | he
                · rcases List.mem_append.mp he with he | he
                  · exact tk he
                  · exact dp (List.mem_of_mem_take he)
                · exact dp he
              · exact tupGd (by simp; omega) fun e he => hx _ (List.mem_reverse.mp he)
              · exact lstGd (by omega) hx
              · refine tupGd (by simp; omega) fun e he => ?_
                rcases List.mem_append.mp he with he | he
                · rcases List.mem_append.mp he with he | he
                  · exact tk he
                  · exact dp (List.mem_of_mem_take (List.mem_reverse.mp he))
                · exact dp he
            have i0 := Int.emod_nonneg (what / 100) (show (5 : Int) ≠ 0 by decide)
            have i1 := Int.emod_lt_of_pos (what / 100) (show (0 : Int) < 5 by decide)
            obtain ⟨w9, y9, hw, hy, qy⟩ := dqs_at all i0 (by simp; omega)
            refine ⟨_, rfl, _, rfl, _, rfl, _, rfl, _, _, rfl, rfl, ⟨by decide, by decide⟩, _, _, rfl, rfl, (by show (0 : Int) < 5; decide), M, _, _, w9, rfl, rfl, .inl (.inl e18), hw, v, .ref b, w9, x, qq, _, y9, p, n, rfl, hv1.same S9, ⟨b, rfl, seT S9 hb⟩, hz, gd, by omega, by omega, qy, fun w8 H8 s8 d8 => q w8 H8 _ ((s1.trans S9).trans s8) d8 (hz.put gd (good _ hy) (by omega))⟩
          · refine ⟨_, rfl, _, _, _, _, _, rfl, .ty _, hk.ty, kit_ty hk.tuple?, _, rfl, ?_⟩
            rw [decide_eq_false e0]
            exact iteF ⟨_, _, _, _, rfl, rfl⟩
        · rintro σ9 H9 ⟨y8, y9, y10, y11, rfl, rfl⟩
          refine ⟨_, rfl, Nat.zero_le _, fun p1 A1 n1 t1 g1 => ⟨Nat.zero_le _, fun p2 A2 m2 n2 t2 g2 => ?_⟩⟩
          intro p3 n3
          have t3 : Same A2 (upd A2 p3 (.dK [])) := same_new n3
          have g3 : (upd A2 p3 (.dK [])) p3 = some (.dK []) := upd_same
          generalize (upd A2 p3 (.dK [])) = A3 at t3 g3 ⊢
          refine ⟨_, rfl, (by show 1 ≤ sizeLine; decide), fun p4 A4 m4 n4 t4 g4 => ⟨_, rfl, (by show 1 ≤ sizeLine; decide), fun p5 A5 n5 t5 g5 => ?_⟩⟩
          refine ⟨_, _, rfl, rfl, ⟨by decide, by decide, by decide⟩, (by show 2 ≤ sizeLine; decide), fun p6 A6 n6 t6 g6 => ⟨(by show 16 ≤ sizeLine; decide), fun M A7 n7 t7 g7 => ?_⟩⟩
          have x7 := t7
          have x6 := t6.trans x7
          have x5 := t5.trans x6
          have x4 := t4.trans x5
          have x3 := t3.trans x4
          have x2 := t2.trans x3
          have x1 := t1.trans x2
          have S9 := x1
          have hp7 := hpy.same S9
          have all : DqAll K A7 [V.non, .bl true, .bl false, .int 0, .int 1, .int (-1), .str "", .str "meets", .str "misses", .ref p1, .ref p2, .ref p3, .ref p4, .ref p5, .int (10 ^ (39 : Int).toNat), .ref p6]
              [PyData.none, .bool true, .bool false, .int 0, .int 1, .int (-1), .str "", .str "meets", .str "misses", .tuple [], .list [], .dict [], .list [z], .tuple [z], .int (10 ^ (39 : Int).toNat), .tuple [.int 0, .int 1]] :=
            .cons .non (.cons (.bl _) (.cons (.bl _) (.cons (.int _) (.cons (.int _) (.cons (.int _) (.cons (.str _) (.cons (.str _) (.cons (.str _) (.cons (.tup (.inl (.inl (x2 _ _ g1))) .nil) (.cons (.lst m2 (x3 _ _ g2) .nil) (.cons (.emp (x4 _ _ g3)) (.cons (.lst m4 (x5 _ _ g4) (.cons hp7 .nil)) (.cons (.tup (.inl (.inl (x6 _ _ g5))) (.cons hp7 .nil)) (.cons (.int _) (.cons (.tup (.inl (.inl (x7 _ _ g6))) (.cons (.int _) (.cons (.int _) .nil))) .nil)))))))))))))))
          have good : ∀ y ∈ [PyData.none, .bool true, .bool false, .int 0, .int 1, .int (-1), .str "", .str "meets", .str "misses", .tuple [], .list [], .dict [], .list [z], .tuple [z], .int (10 ^ (39 : Int).toNat), .tuple [.int 0, .int 1]], Gd (p + 1) (mz + 1) y := by
            intro y hy
            have one : ∀ e ∈ [z], Gd (p + 1) mz e := fun e he => by rw [List.mem_singleton.mp he]; exact gz.up
            simp only [List.mem_cons, List.not_mem_nil, or_false] at hy
            rcases hy with rfl | rfl | rfl | rfl | rfl | rfl | rfl | rfl | rfl | rfl | rfl | rfl | rfl | rfl | rfl | rfl
            · exact .lf trivial
            · exact .lf trivial
            · exact .lf trivial
            · exact gInt0 (by decide)
            · exact gInt0 (by decide)
            · exact gInt0 (by decide)
            · exact gStr (by decide) (by decide)
            · exact gStr (by decide) (by decide)
            · exact gStr (by decide) (by decide)
            · exact .tup (Nat.zero_le _) (fun _ h => nomatch h)
            · exact .lst (Nat.zero_le _) (fun _ h => nomatch h)
            · exact .emp
            · exact .lst (by simp; omega) one
            · exact .tup (by simp; omega) one
            · exact gInt0 (by show ((10 : Int) ^ 39).natAbs < 2 ^ 130; decide)
            · refine .tup (by simp; omega) fun e he => ?_
              simp only [List.mem_cons, List.not_mem_nil, or_false] at he
              rcases he with rfl | rfl <;> exact gInt0 (by decide)
          have i0 := Int.emod_nonneg (what) (show (16 : Int) ≠ 0 by decide)
          have i1 := Int.emod_lt_of_pos (what) (show (0 : Int) < 16 by decide)
          obtain ⟨w9, y9, hw, hy, qy⟩ := dqs_at all i0 (by simp; omega)
          refine ⟨_, rfl, _, rfl, _, rfl, _, rfl, _, _, rfl, rfl, (by show (0 : Int) < 16; decide), M, _, _, w9, rfl, rfl, .inl (.inl g7), hw, v, .ref b, w9, x, qq, _, y9, p, n, rfl, hv1.same S9, ⟨b, rfl, seT S9 hb⟩, hz, gd, by omega, by omega, qy, fun w8 H8 s8 d8 => q w8 H8 _ ((s1.trans S9).trans s8) d8 (hz.put gd (good _ hy) (by omega))⟩

end
end Cl

set_option maxHeartbeats 0
namespace Cl
open PySem PySem.Spec PyProof.Rows L2
open GxR (TabB TabG)

def spLawT (K : PySem.W.Frag) (Pa Pt : Addr) : Sp := fun vs H Q _ => ∃ (a : Addr) (ns : List Int), vs = [.ref a] ∧ SqL K H a (ns.map V.int) ∧ ns.length ≤ 63 ∧ Tb2 Pa Pt H ∧ ∀ H', Q (.bl true) H'
theorem stepTab {d l : Addr} {H H' : Hp} {Pt : Addr} (D : Deck H d l) (S : Step d l H H') (h : TabG H Pt) : TabG H' Pt := by
  obtain ⟨ns, s, c, h1, h2, _⟩ := D.ex
  obtain ⟨ps, e, t⟩ := h
  exact (S.at (ne_of e h1 (by intro z; cases z)) (ne_of e h2 (by intro z; cases z)) e) t |>.elim fun ps' q => ⟨ps', q.1, q.2⟩
theorem Tb2.step {d l Pa Pt : Addr} {H H' : Hp} (h : Tb2 Pa Pt H) (D : Deck H d l) (S : Step d l H H') : Tb2 Pa Pt H' := ⟨stepTab D S h.1, stepTab D S h.2⟩
theorem pap_step {K : PySem.W.Frag} {w : V} {wd : Str} {ns : List Int} {d l : Addr} {H H' : Hp} (h : Pap K H w wd ns) (S : Step d l H H') (D : Deck H d l) : Pap K H' w wd ns := by
  obtain ⟨a, e, h⟩ := h
  exact ⟨a, e, stT S D h⟩

def Spoil (K : PySem.W.Frag) (H : Hp) (u : V) : Prop := ∃ (a : Addr) (way place what more : Int), u = .ref a ∧ SqT K H a [.int way, .int place, .int what, .int more] ∧ (0 ≤ way ∧ way < 8) ∧ (0 ≤ place ∧ place < 100003) ∧ (0 ≤ what ∧ what < 99991)
theorem Spoil.step {K : PySem.W.Frag} {H H' : Hp} {u : V} {d l : Addr} (h : Spoil K H u) (S : Step d l H H') (D : Deck H d l) : Spoil K H' u := by
  obtain ⟨a, w, p, t, m, rfl, hS, b⟩ := h
  exact ⟨a, w, p, t, m, rfl, stT S D hS, b⟩
theorem Spoil.upd {K : PySem.W.Frag} {H : Hp} {u : V} {M : Addr} {xs : List V} {o : HO} (h : Spoil K H u) (e : H M = some (.lst xs)) : Spoil K (L2.upd H M o) u := by
  obtain ⟨a, w, p, t, m, rfl, hS, b⟩ := h
  exact ⟨a, w, p, t, m, rfl, updT e hS, b⟩
theorem DqAll.mem {K : PySem.W.Frag} {H : Hp} : ∀ {vs : List V} {ds : List PyData}, DqAll K H vs ds → ∀ z ∈ vs, ∃ x ∈ ds, Dq K H z x
  | _, _, .nil, z, h => nomatch h
  | _, _, .cons h1 h2, z, h => by
    rcases List.mem_cons.mp h with rfl | h
    · exact ⟨_, List.mem_cons_self .., h1⟩
    · obtain ⟨x, m, q⟩ := DqAll.mem h2 z h
      exact ⟨x, List.mem_cons_of_mem _ m, q⟩
def spSpoils (K : PySem.W.Frag) : Sp := fun vs H Q _ => ∃ d l, vs = [.ref d, .int 16] ∧ Deck H d l ∧
  ∀ L H' us, Step d l H H' → (L ≠ d ∧ L ≠ l) → H' L = some (.lst us) → us.length = 16 → (∀ u ∈ us, Spoil K H' u) → Q (.ref L) H'
theorem paper_gd {wd : Str} {ns : List Int} (hw : wd = "misses" ∨ wd = "meets") (hl : ns.length ≤ 4) (hb : ∀ n ∈ ns, n.natAbs < 2 ^ 130) : Gd 0 1 (.tuple (.str wd :: ns.map PyData.int)) := by
  refine .tup (by simp; omega) fun e he => ?_
  rcases List.mem_cons.mp he with rfl | he
  · rcases hw with rfl | rfl <;> exact gStr (by decide) (by decide)
  · obtain ⟨n, hn, rfl⟩ := List.mem_map.mp he
    exact gInt (hb n hn)
theorem ints_dq {K : PySem.W.Frag} {H : Hp} : ∀ ns : List Int, DqAll K H (ns.map V.int) (ns.map PyData.int)
  | [] => .nil
  | n :: r => .cons (.int n) (ints_dq r)
theorem bdw_of {g : Int} {r : Ln} {c : Pt} (h0 : 0 < g) (h1 : g ≤ 1000) (bR : BdR 1100000 r) (bN : BdN 1000000 c) : BdW g r c := by
  obtain ⟨⟨⟨x1, x2⟩, x3, x4⟩, ⟨x5, x6⟩, x7, x8⟩ := bR
  obtain ⟨⟨y1, y2⟩, y3, y4⟩ := bN
  exact ⟨h0, h1, ⟨⟨by omega, by omega⟩, by omega, by omega⟩, ⟨⟨by omega, by omega⟩, by omega, by omega⟩, ⟨by omega, by omega⟩, by omega, by omega⟩
theorem wy_bd {g : Int} {r : Ln} {c : Pt} (bd : BdW g r c) : (wyF g r c).1.natAbs ≤ 6000000 ∧ (wyF g r c).2.natAbs ≤ 6000000 := by
  obtain ⟨_, _, ⟨⟨x1, x2⟩, x3, x4⟩, ⟨⟨x5, x6⟩, x7, x8⟩, _⟩ := bd
  unfold wyF
  cases e : (waysR r).filter (byd g r c) with
  | nil => exact ⟨by decide, by decide⟩
  | cons z zs =>
    have hz : z ∈ (waysR r).filter (byd g r c) := by rw [e]; exact List.mem_cons_self ..
    have hz := (List.mem_filter.mp hz).1
    show z.1.natAbs ≤ 6000000 ∧ z.2.natAbs ≤ 6000000
    simp only [waysR, List.mem_cons, List.not_mem_nil, or_false] at hz
    rcases hz with rfl | rfl | rfl | rfl | rfl | rfl <;> exact ⟨by omega, by omega⟩
theorem mul_bd {p x : Int} {B C : Nat} (h1 : p.natAbs ≤ B) (h2 : x.natAbs ≤ C) : (p * x).natAbs ≤ B * C := by
  rw [Int.natAbs_mul]
  exact Nat.mul_le_mul h1 h2
theorem miss_bd {g : Int} {r : Ln} {c : Pt} (bd : BdW g r c) : ∀ n ∈ missN g r c, n.natAbs < 2 ^ 130 := by
  obtain ⟨a1, a2⟩ := wy_bd bd
  obtain ⟨_, _, ⟨⟨x1, x2⟩, x3, x4⟩, ⟨⟨x5, x6⟩, x7, x8⟩, _⟩ := bd
  have big : (2 : Nat) ^ 50 ≤ 2 ^ 130 := Nat.pow_le_pow_right (by decide) (by decide)
  intro n hn
  refine Nat.lt_of_lt_of_le ?_ big
  unfold missN at hn
  simp only [List.mem_cons, List.not_mem_nil, or_false] at hn
  rcases hn with rfl | rfl | rfl
  · omega
  · omega
  · have m1 := mul_bd a1 (show r.1.1.natAbs ≤ 3000000 by omega)
    have m2 := mul_bd a2 (show r.1.2.natAbs ≤ 3000000 by omega)
    have m3 := mul_bd a1 (show r.2.1.natAbs ≤ 3000000 by omega)
    have m4 := mul_bd a2 (show r.2.2.natAbs ≤ 3000000 by omega)
    unfold lst
    split <;> omega
theorem pap_130 {g : Int} {r : Ln} {c : Pt} (bd : BdW g r c) (good : GoodP g r c (papW g r c) (papN g r c)) : (papW g r c = "misses" ∨ papW g r c = "meets") ∧ (papN g r c).length ≤ 3 ∧ ∀ n ∈ papN g r c, n.natAbs < 2 ^ 130 := by
  by_cases hm : Meets g r c
  · have e1 : papW g r c = "meets" := if_pos hm
    have e2 : papN g r c = [(mw g r c).1, (mw g r c).2] := if_pos hm
    refine ⟨.inr e1, by rw [e2]; exact Nat.le_succ 2, fun n hn => ?_⟩
    have := good.b50 e1 n hn
    have big : (2 : Nat) ^ 50 ≤ 2 ^ 130 := Nat.pow_le_pow_right (by decide) (by decide)
    omega
  · have e1 : papW g r c = "misses" := if_neg hm
    have e2 : papN g r c = missN g r c := if_neg hm
    rw [e1, e2]
    exact ⟨.inl rfl, Nat.le_refl _, miss_bd bd⟩

section
variable {P : Program} {w : World} {K : PySem.W.Frag} {mg : Str → Option Value} {base : Heap}

theorem ok_law_spoils {f : Addr} {fd : FuncData} (F : Fun K "_law_spoils" "_law_spoils" s_law_spoils f fd) (T : Bt mg) (D_law_draw : Def P w K mg base 1 "_law_draw" ["_law_deck_here", "_law_most"] spDraw) :
    FnG P w K mg base CX0 2 f fd ["_law_deck_here", "_law_many"] (spSpoils K) := by
  refine okG (k := 1) F sc_law_spoils (fun vs H Q E h => ?_) (fun cdv A outer s H vs Q E hr h => ?_)
  · obtain ⟨d, l, rfl, _⟩ := h
    rfl
  · obtain ⟨d, l, rfl, D, q⟩ := h
    refine ⟨_, (pss_cons (ps_set (i := 2) sc_law_spoils.nd rfl (.inl rfl) (lstN pa_nil))
      (pss_cons (ps_for PassesOwn.never rfl (pi_range1 (by rfl) T.range (pa_cons (pv 1) pa_nil)) (pg_name (i := 3) sc_law_spoils.nd rfl (.inl rfl)) (pss_one (ps_expr (pe_bm PySem.F.plainAttrs_list PySem.F.slot_list_append PySem.F.type_list_append mt_append (pv 2) (pa_cons (tupN (pa_cons (callD D_law_draw (hr.mono (by decide)) (pa_cons (pv 0) (pa_cons pe_int pa_nil))) (pa_cons (callD D_law_draw (hr.mono (by decide)) (pa_cons (pv 0) (pa_cons pe_int pa_nil))) (pa_cons (callD D_law_draw (hr.mono (by decide)) (pa_cons (pv 0) (pa_cons pe_int pa_nil))) (pa_cons (callD D_law_draw (hr.mono (by decide)) (pa_cons (pv 0) (pa_cons pe_int pa_nil))) pa_nil))))) pa_nil)))))
      (pss_one (ps_ret (pv 2))))), ?_⟩
    refine ⟨Nat.zero_le _, fun L H1 n1 s1 e1 => ?_⟩
    have nd := D.nd n1
    refine ⟨_, rfl, 16, rfl, by decide, by decide, for_range (n := 16) (fun i σ H' => ∃ y3 us, σ = [some (.ref d), some (.int 16), some (.ref L), y3] ∧ Step d l H H' ∧ H' L = some (.lst us) ∧ us.length = i ∧ ∀ u ∈ us, Spoil K H' u) ?_ ?_ ?_⟩
    · exact ⟨_, [], rfl, .of D s1, e1, rfl, fun _ h => nomatch h⟩
    · rintro i σ H2 hi ⟨y3, us, rfl, S, eL, hl, hs⟩
      refine ⟨.ref L, rfl, .inl ⟨rfl, _, .inl (.inl eL)⟩, ?_⟩
      refine ⟨.ref d, rfl, d, l, 8, rfl, by decide, by decide, S.deck, fun way G1 a0 a1 S1 => ⟨.ref d, rfl, d, l, 100003, rfl, by decide, by decide, S1.deck, fun place G2 b0 b1 S2 => ⟨.ref d, rfl, d, l, 99991, rfl, by decide, by decide, S2.deck, fun what G3 c0 c1 S3 => ⟨.ref d, rfl, d, l, 3, rfl, by decide, by decide, S3.deck, fun more G4 d0 d1 S4 => ?_⟩⟩⟩⟩
      refine ⟨(by show 4 ≤ sizeLine; decide), fun p G5 n5 s5 e5 => ?_⟩
      have SS := S1.trans (S2.trans (S3.trans (S4.trans (Step.of S4.deck s5))))
      have eL5 := SS.at nd.1 nd.2 eL
      refine ⟨L, _, .ref p, rfl, rfl, eL5, small1000 (by omega), _, us ++ [.ref p], rfl, (S.trans SS).updN nd.1 nd.2 n1, upd_same, by rw [List.length_append, hl]; rfl, fun u hu => ?_⟩
      rcases List.mem_append.mp hu with hu | hu
      · exact ((hs u hu).step SS S.deck).upd eL5
      · rw [List.mem_singleton.mp hu]
        exact ⟨p, way, place, what, more, rfl, updT eL5 (.inl (.inl e5)), ⟨a0, a1⟩, ⟨b0, b1⟩, c0, c1⟩
    · rintro σ H2 ⟨y3, us, rfl, S, eL, hl, hs⟩
      exact ⟨_, rfl, q L H2 us S nd eL hl hs⟩

end
end Cl

set_option maxHeartbeats 0
namespace Cl
open PySem PySem.Spec PyProof.Rows L2
open GxR (TabB TabG)


def spNearestX (K : PySem.W.Frag) : Sp := fun vs H Q _ => ∃ (g : Int) (v : V) (s : S3), vs = [.int g, v] ∧ At3 K H v s ∧ 0 < g ∧ g ≤ 1000 ∧ 0 < s.2.2 ∧ s.2.2 ≤ 16 ∧
  ∀ u H' c, Same H H' → At2 K H' u c → (∀ B, 0 ≤ B → (-(B * s.2.2) ≤ s.1 ∧ s.1 ≤ B * s.2.2) → (-(B * s.2.2) ≤ s.2.1 ∧ s.2.1 ≤ B * s.2.2) → BdN (B + 1) c) → Q u H'
theorem nr_bd {n d g B : Int} (h0 : 0 < g) (hd : 0 < d) (hB : 0 ≤ B) (h1 : -(B * d) ≤ n) (h2 : n ≤ B * d) : -(B + 1) ≤ (2 * n + g * d) / (2 * g * d) ∧ (2 * n + g * d) / (2 * g * d) ≤ B + 1 := by
  have hp : 0 < g * d := Int.mul_pos h0 hd
  have e : 2 * g * d = 2 * (g * d) := Int.mul_assoc 2 g d
  have hk : B * d ≤ B * (g * d) := by
    have : d ≤ g * d := by
      have := Int.mul_le_mul_of_nonneg_right (show 1 ≤ g by omega) (Int.le_of_lt hd)
      omega
    exact Int.mul_le_mul_of_nonneg_left this hB
  have e1 : (B + 1) * (2 * (g * d)) = 2 * (B * (g * d)) + 2 * (g * d) := by
    rw [Int.add_mul, Int.mul_left_comm]
    omega
  rw [e]
  constructor
  · refine Int.le_ediv_of_mul_le (by omega) ?_
    rw [Int.neg_mul, e1]
    omega
  · refine Int.le_of_lt_add_one (Int.ediv_lt_of_lt_mul (by omega) ?_)
    rw [Int.add_mul, e1]
    omega

section
variable {P : Program} {w : World} {K : PySem.W.Frag} {mg : Str → Option Value} {base : Heap}

theorem ok_law_grain {f : Addr} {fd : FuncData} (F : Fun K "_law_grain" "_law_grain" s_law_grain f fd) (T : Bt mg) (D_law_draw : Def P w K mg base 1 "_law_draw" ["_law_deck_here", "_law_most"] spDraw) :
    FnG P w K mg base CX0 2 f fd ["_law_deck_here"] spGrainW := by
  refine okG (k := 1) F sc_law_grain (fun vs H Q E h => ?_) (fun cdv A outer s H vs Q E hr h => ?_)
  · obtain ⟨d, l, rfl, _⟩ := h
    rfl
  · obtain ⟨d, l, rfl, D, q⟩ := h
    refine ⟨_, (pss_one (ps_ret (pe_ix ix_list (lstN (pa_cons pe_int (pa_cons pe_int (pa_cons pe_int (pa_cons pe_int (pa_cons pe_int (pa_cons pe_int (pa_cons pe_int (pa_cons pe_int pa_nil))))))))) (callD D_law_draw (hr.mono (by decide)) (pa_cons (pv 0) (pa_cons pe_int pa_nil))) (fun _ _ => rfl)))), ?_⟩
    refine ⟨(by show 8 ≤ sizeLine; decide), fun p1 H1 n1 s1 g1 => ⟨.ref d, rfl, d, l, 8, rfl, by decide, by decide, (Step.of D s1).deck, fun i H2 i0 i1 S2 => ?_⟩⟩
    have np := D.nd n1
    have e2 := S2.at np.1 np.2 g1
    have S := (Step.of D s1).trans S2
    obtain rfl | rfl | rfl | rfl | rfl | rfl | rfl | rfl : i = 0 ∨ i = 1 ∨ i = 2 ∨ i = 3 ∨ i = 4 ∨ i = 5 ∨ i = 6 ∨ i = 7 := by omega
    all_goals exact ⟨p1, _, _, _, rfl, rfl, .inl (.inl e2), rfl, q _ _ (by decide) (by decide) S⟩

theorem ok_law_point {f : Addr} {fd : FuncData} (F : Fun K "_law_point" "_law_point" s_law_point f fd) (T : Bt mg) (D_law_draw : Def P w K mg base 1 "_law_draw" ["_law_deck_here", "_law_most"] spDraw) :
    FnG P w K mg base CX0 2 f fd ["_law_deck_here", "_law_grain_here", "_law_way"] (spPointW K) := by
  refine okG (k := 1) F sc_law_point (fun vs H Q E h => ?_) (fun cdv A outer s H vs Q E hr h => ?_)
  · obtain ⟨d, l, g, way, rfl, _⟩ := h
    rfl
  · obtain ⟨d, l, g, way, rfl, h0, h1, D, q⟩ := h
    refine ⟨_, (pss_cons (ps_par (i := 3) (j := 4) (by rfl) sc_law_point.nd rfl rfl (by decide) rfl rfl (pa_cons (callD D_law_draw (hr.mono (by decide)) (pa_cons (pv 0) (pa_cons (pe_op op_add (pe_op op_mul pe_int (pv 1)) pe_int) pa_nil))) (pa_cons (callD D_law_draw (hr.mono (by decide)) (pa_cons (pv 0) (pa_cons (pe_op op_add (pe_op op_mul pe_int (pv 1)) pe_int) pa_nil))) pa_nil)) (by rfl))
      (pss_cons (ps_if (pt_cmpR op_eq (pv 2) pe_int (nomark _)) (pss_one (ps_ret (tupN (pa_cons (pe_op op_fdiv (pe_op op_add (pe_op op_mul (pe_op op_fdivW (pe_op op_mul pe_int (pv 3)) (pv 1)) (pv 1)) pe_int) pe_int) (pa_cons (pe_op op_fdiv (pe_op op_add (pe_op op_mul (pe_op op_fdivW (pe_op op_mul pe_int (pv 4)) (pv 1)) (pv 1)) pe_int) pe_int) pa_nil))))) pss_nil)
      (pss_cons (ps_if (pt_cmpR op_eq (pv 2) pe_int (nomark _)) (pss_one (ps_ret (tupN (pa_cons (pe_op op_mul (pe_op op_fdivW (pv 3) (pv 1)) (pv 1)) (pa_cons (pe_op op_mul (pe_op op_fdivW (pv 4) (pv 1)) (pv 1)) pa_nil))))) pss_nil)
      (pss_cons (ps_if (pt_cmpR op_eq (pv 2) pe_int (nomark _)) (pss_one (ps_ret (tupN (pa_cons (pe_op op_add (pe_op op_mul (pe_op op_fdivW (pv 3) (pv 1)) (pv 1)) (pe_op op_fdiv (pv 1) pe_int)) (pa_cons (pv 4) pa_nil))))) pss_nil)
      (pss_one (ps_ret (tupN (pa_cons (pv 3) (pa_cons (pv 4) pa_nil))))))))), ?_⟩
    refine ⟨.ref d, rfl, _, rfl, _, _, rfl, rfl, .inl (by decide), _, _, rfl, rfl, d, l, _, rfl, by omega, by omega, D, fun x H2 x0 x1 S2 => ⟨.ref d, rfl, _, rfl, _, _, rfl, rfl, .inl (by decide), _, _, rfl, rfl, d, l, _, rfl, by omega, by omega, S2.deck, fun y H3 y0 y1 S3 => ⟨_, _, rfl, ?_⟩⟩⟩
    have S := S2.trans S3
    have dv : ∀ n : Int, CDivW n g := fun n => wide_div (b := 64) h0 (by omega) (by decide) (by decide)
    have mg : ∀ n : Int, CMul n g := fun n => .inr (by omega)
    have fin : ∀ {p : Pt} {pp : Addr} {H4 : Hp}, Same H3 H4 → H4 pp = some (.tup [.int p.1, .int p.2]) → BdN 5000 p → Q (.ref pp) H4 := fun {p pp H4} s e b => q _ _ p (S.trans (Step.of S3.deck s)) ⟨pp, rfl, .inl (.inl e)⟩ b
    have fl : ∀ n : Int, 0 ≤ n → 0 ≤ n / g * g ∧ n / g * g ≤ n := fun n hn => ⟨Int.mul_nonneg (Int.ediv_nonneg hn (by omega)) (by omega), Int.ediv_mul_le n (by omega)⟩
    refine ⟨_, rfl, rfl, _, rfl, ite2 (fun e => ?_) (fun e => ?_)⟩
    · refine ⟨_, rfl, _, _, rfl, rfl, .inl (by decide), _, rfl, _, _, rfl, rfl, dv _, _, rfl, _, _, rfl, rfl, mg _, _, _, rfl, rfl, _, _, rfl, rfl, ⟨by decide, by decide⟩,
        _, rfl, _, _, rfl, rfl, .inl (by decide), _, rfl, _, _, rfl, rfl, dv _, _, rfl, _, _, rfl, rfl, mg _, _, _, rfl, rfl, _, _, rfl, rfl, ⟨by decide, by decide⟩, (by show 2 ≤ sizeLine; decide), fun p6 H6 n6 s6 g6 => ?_⟩
      have a1 := fl (2 * x) (by omega)
      have a2 := fl (2 * y) (by omega)
      exact fin (p := ((2 * x / g * g + 1) / 2, (2 * y / g * g + 1) / 2)) s6 g6 (by unfold BdN; simp only; omega)
    refine ⟨_, rfl, rfl, _, rfl, ite2 (fun e => ?_) (fun e => ?_)⟩
    · refine ⟨_, rfl, _, rfl, _, _, rfl, rfl, dv _, _, rfl, _, _, rfl, rfl, mg _, _, rfl, _, rfl, _, _, rfl, rfl, dv _, _, rfl, _, _, rfl, rfl, mg _, (by show 2 ≤ sizeLine; decide), fun p6 H6 n6 s6 g6 => ?_⟩
      have a1 := fl x (by omega)
      have a2 := fl y (by omega)
      exact fin (p := (x / g * g, y / g * g)) s6 g6 (by unfold BdN; simp only; omega)
    refine ⟨_, rfl, rfl, _, rfl, ite2 (fun e => ?_) (fun e => ?_)⟩
    · refine ⟨_, rfl, _, rfl, _, _, rfl, rfl, dv _, _, rfl, _, _, rfl, rfl, mg _, _, rfl, _, _, rfl, rfl, ⟨by decide, by decide⟩, _, _, rfl, rfl, _, rfl, (by show 2 ≤ sizeLine; decide), fun p6 H6 n6 s6 g6 => ?_⟩
      have a1 := fl x (by omega)
      exact fin (p := (x / g * g + g / 2, y)) s6 g6 (by unfold BdN; simp only; omega)
    · exact ⟨_, rfl, _, rfl, (by show 2 ≤ sizeLine; decide), fun p6 H6 n6 s6 g6 => fin (p := (x, y)) s6 g6 (by unfold BdN; simp only; omega)⟩

theorem ok_law_unlike {f : Addr} {fd : FuncData} (F : Fun K "_law_unlike" "_law_unlike" s_law_unlike f fd) (T : Bt mg) :
    FnG P w K mg base CX0 1 f fd ["_law_one", "_law_other"] (spUnlike K) := by
  refine okG (k := 0) F sc_law_unlike (fun vs H Q E h => ?_) (fun cdv A outer s H vs Q E hr h => ?_)
  · obtain ⟨u, v, p, q, rfl, _⟩ := h
    rfl
  · obtain ⟨u, v, p, p2, rfl, hp, hq, q⟩ := h
    refine ⟨_, (pss_one (ps_ret (tupN (pa_cons (pv 0) (pa_cons (pe_ix ix_list (lstN (pa_cons (pv 1) (pa_cons (tupN (pa_cons (pe_op op_add (pe_ix ix_tup (pv 0) pe_int (fun _ _ => rfl)) pe_int) (pa_cons (pe_ix ix_tup (pv 0) pe_int (fun _ _ => rfl)) pa_nil))) pa_nil))) (pe_callTy call_int1 (by rfl) T.int (by decide +kernel) (pa_cons (pe_cmpR (op_eqD hr.room.units) (pv 0) (pv 1) (nomark _)) pa_nil)) (fun _ _ => rfl)) pa_nil))))), ?_⟩
    obtain ⟨a, rfl, ha⟩ := id hp
    refine ⟨_, rfl, _, rfl, _, rfl, a, _, 0, _, rfl, rfl, ha, rfl, _, _, rfl, rfl, _, rfl, a, _, 1, _, rfl, rfl, ha, rfl, (by show 2 ≤ sizeLine; decide), fun p6 H6 n6 s6 g6 => ⟨(by show 2 ≤ sizeLine; decide), fun p7 H7 n7 s7 g7 => ?_⟩⟩
    have s67 := s6.trans s7
    refine ⟨_, rfl, _, rfl, _, _, (hp.same s67).dp, (hq.same s67).dp, rfl, rfl, .inr ⟨_, rfl, ?_⟩⟩
    by_cases e : p = p2
    · subst e
      rw [SeqAt.eqv_refl _ rfl]
      refine ⟨p7, _, 1, _, rfl, rfl, .inl (.inl g7), rfl, (by show 2 ≤ sizeLine; decide), fun p8 H8 n8 s8 g8 => ?_⟩
      exact q _ _ (p, (p.1 + 1, p.2)) (s67.trans s8) ⟨p8, _, _, rfl, .inl (.inl g8), hp.same (s67.trans s8), ⟨p6, rfl, .inl (.inl ((s7.trans s8) _ _ g6))⟩⟩ rfl (fun z => by have := congrArg Prod.fst z; simp only at this; omega) (.inr rfl)
    · have hne : PyData.eqv (pd p) (pd p2) = false := by
        cases hz : PyData.eqv (pd p) (pd p2) with
        | false => rfl
        | true =>
          exfalso
          apply e
          simp [pd, PyData.eqv, PyData.eqvAll] at hz
          exact Prod.ext hz.1 hz.2
      rw [hne]
      refine ⟨p7, _, 0, _, rfl, rfl, .inl (.inl g7), rfl, (by show 2 ≤ sizeLine; decide), fun p8 H8 n8 s8 g8 => ?_⟩
      exact q _ _ (p, p2) (s67.trans s8) ⟨p8, _, _, rfl, .inl (.inl g8), hp.same (s67.trans s8), hq.same (s67.trans s8)⟩ rfl e (.inl rfl)

theorem ok_law_moved {f : Addr} {fd : FuncData} (F : Fun K "_law_moved" "_law_moved" s_law_moved f fd) (T : Bt mg) :
    FnG P w K mg base CX0 1 f fd ["_law_lines_here", "_law_dx", "_law_dy"] (spMovedW K) := by
  refine okG (k := 0) F sc_law_moved (fun vs H Q E h => ?_) (fun cdv A outer s H vs Q E hr h => ?_)
  · obtain ⟨v, ls, dx, dy, rfl, _⟩ := h
    rfl
  · obtain ⟨v, ls, dx, dy, rfl, ⟨L, ws, rfl, eL, hall⟩, hlen, q⟩ := h
    refine ⟨_, (pss_one (ps_ret (pe_callTy call_tuple_ofN (by rfl) T.tuple (by decide +kernel) (pa_cons (pe_lc (own := [("_law_x", 3), ("_law_y", 4), ("_law_u", 5), ("_law_v", 6)]) (g := gTup K 2 (gCons (gTup K 2 (gCons (gName 3) (gCons (gName 4) gNil))) (gCons (gTup K 2 (gCons (gName 5) (gCons (gName 6) gNil))) gNil))) (tt := tYes) (by rfl) sc_law_moved.nd (pi_tup (pv 0)) (blkOk_by (own := [("_law_x", 3), ("_law_y", 4), ("_law_u", 5), ("_law_v", 6)]) (N := ["_law_lines_here", "_law_dx", "_law_dy", "_law_x", "_law_y", "_law_u", "_law_v"]) (sc := defScope s_law_moved) (by decide +kernel)) (fun _ _ _ _ _ => (pg_tup (by rfl) (pgs_cons (pg_tup (by rfl) (pgs_cons (pg_name (i := 3) sc_law_moved.nd rfl (.inl rfl)) (pgs_cons (pg_name (i := 4) sc_law_moved.nd rfl (.inl rfl)) pgs_nil))) (pgs_cons (pg_tup (by rfl) (pgs_cons (pg_name (i := 5) sc_law_moved.nd rfl (.inl rfl)) (pgs_cons (pg_name (i := 6) sc_law_moved.nd rfl (.inl rfl)) pgs_nil))) pgs_nil)))) (fun _ _ _ _ _ => pts_nil) (fun _ _ _ _ _ => (tupN (pa_cons (tupN (pa_cons (pe_op op_add (pv 3) (pv 1)) (pa_cons (pe_op op_add (pv 4) (pv 2)) pa_nil))) (pa_cons (tupN (pa_cons (pe_op op_add (pv 5) (pv 1)) (pa_cons (pe_op op_add (pv 6) (pv 2)) pa_nil))) pa_nil))))) pa_nil)))), ?_⟩
    refine ⟨_, rfl, L, rfl, ⟨_, eL⟩, fun pD nD => ?_⟩
    refine lcT (K := K) (a := L) (xs := ws) (fun i H' => Same H H' ∧ ∃ vs, H' pD = some (.lst vs) ∧ AllAt (AtL K H') vs ((ls.take i).map (mvL dx dy))) nD (fun H' e1 e2 => ⟨e1, [], e2, .nil⟩) (fun i H' _ z => seT z.1 eL) (fun i z H' hz w => ?_) (fun H6 z => ?_)
    · obtain ⟨t1, vs, t2, t3⟩ := w
      obtain ⟨r, hr_, a, _, _, rfl, hS, ⟨b, rfl, hb⟩, ⟨c, rfl, hc⟩⟩ := hall.get hz
      refine ⟨a, _, rfl, seT t1 hS, rfl, _, _, rfl, b, _, rfl, seT t1 hb, rfl, _, _, rfl, _, _, rfl, rfl, _, _, rfl, c, _, rfl, seT t1 hc, rfl, _, _, rfl, _, _, rfl, rfl, rfl, ?_⟩
      refine ⟨rfl, _, rfl, _, rfl, _, _, rfl, rfl, _, rfl, _, rfl, _, _, rfl, rfl, (by show 2 ≤ sizeLine; decide), fun p7 H7 n7 s7 g7 => ?_⟩
      refine ⟨_, rfl, _, rfl, _, _, rfl, rfl, _, rfl, _, rfl, _, _, rfl, rfl, (by show 2 ≤ sizeLine; decide), fun p8 H8 n8 s8 g8 => ⟨(by show 2 ≤ sizeLine; decide), fun p9 H9 n9 s9 g9 => ?_⟩⟩
      have s79 := (s7.trans s8).trans s9
      have k9 := s79 _ _ t2
      refine ⟨vs, k9, by rw [t3.length, List.length_map, List.length_take]; exact small1000 (by omega), fun b o z => ?_, vs ++ [.ref p9], upd_same, ?_⟩
      · rw [upd_ne (ne_of_none z nD)]; exact (t1.trans s79) _ _ z
      · rw [List.take_add_one, hr_, List.map_append]
        exact AllAt.app (t3.map fun _ _ z => AtL.upd (z.same s79) k9) (.cons (AtL.upd ⟨p9, _, _, rfl, .inl (.inl g9), ⟨p7, rfl, .inl (.inl ((s8.trans s9) _ _ g7))⟩, ⟨p8, rfl, .inl (.inl (s9 _ _ g8))⟩⟩ k9) .nil)
    · obtain ⟨t1, vs, t2, t3⟩ := z
      rw [hall.length, List.take_length] at t3
      exact ⟨pD, vs, rfl, .inl (.inl t2), fun p8 H8 n8 s8 g8 => q _ _ (t1.trans s8) ⟨p8, vs, rfl, .inl (.inl g8), t3.map fun _ _ z => z.same s8⟩⟩

theorem ok_law_nearest {f : Addr} {fd : FuncData} (F : Fun K "_law_nearest" "_law_nearest" s_law_nearest f fd) (T : Bt mg) :
    FnG P w K mg base CX0 1 f fd ["_law_grain_here", "_law_spot"] (spNearestX K) := by
  refine okG (k := 0) F sc_law_nearest (fun vs H Q E h => ?_) (fun cdv A outer s H vs Q E hr h => ?_)
  · obtain ⟨g, v, s, rfl, _⟩ := h
    rfl
  · obtain ⟨g, _, ⟨n, m, dd⟩, rfl, ⟨a, rfl, hS⟩, h0, h1, h2, h3, q⟩ := h
    refine ⟨_, (pss_cons (ps_asg (pv 1) (pg_tup (by rfl) (pgs_cons (pg_name (i := 2) sc_law_nearest.nd rfl (.inl rfl)) (pgs_cons (pg_name (i := 3) sc_law_nearest.nd rfl (.inl rfl)) (pgs_cons (pg_name (i := 4) sc_law_nearest.nd rfl (.inl rfl)) pgs_nil)))))
      (pss_one (ps_ret (tupN (pa_cons (pe_op op_fdivW (pe_op op_add (pe_op op_mul pe_int (pv 2)) (pe_op op_mul (pv 0) (pv 4))) (pe_op op_mul (pe_op op_mul pe_int (pv 0)) (pv 4))) (pa_cons (pe_op op_fdivW (pe_op op_add (pe_op op_mul pe_int (pv 3)) (pe_op op_mul (pv 0) (pv 4))) (pe_op op_mul (pe_op op_mul pe_int (pv 0)) (pv 4))) pa_nil)))))), ?_⟩
    have h2 : 0 < dd := h2
    have h3 : dd ≤ 16 := h3
    have gd : 0 < g * dd ∧ g * dd ≤ 16000 := ⟨Int.mul_pos h0 h2, by
      have := Int.mul_le_mul h1 h3 (Int.le_of_lt h2) (by omega)
      omega⟩
    have e2 : 2 * g * dd = 2 * (g * dd) := Int.mul_assoc 2 g dd
    have dv : ∀ n : Int, CDivW n (2 * g * dd) := fun n => wide_div (b := 64) (by omega) (by omega) (by decide) (by decide)
    refine ⟨.ref a, rfl, a, _, rfl, hS, rfl, _, _, rfl, _, _, rfl, _, _, rfl, rfl, ?_⟩
    refine ⟨_, rfl, _, _, rfl, rfl, .inl (by decide), _, rfl, _, rfl, _, _, rfl, rfl, .inl (by omega), _, _, rfl, rfl, _, rfl, _, _, rfl, rfl, .inl (by decide), _, rfl, _, _, rfl, rfl, .inl (by omega), _, _, rfl, rfl, dv _, ?_⟩
    exact ⟨_, rfl, _, _, rfl, rfl, .inl (by decide), _, rfl, _, rfl, _, _, rfl, rfl, .inl (by omega), _, _, rfl, rfl, _, rfl, _, _, rfl, rfl, .inl (by decide), _, rfl, _, _, rfl, rfl, .inl (by omega), _, _, rfl, rfl, dv _, (by show 2 ≤ sizeLine; decide), fun p6 H6 n6 s6 g6 => q _ _ (_, _) s6 ⟨p6, rfl, .inl (.inl g6)⟩ fun B hB k1 k2 => ⟨nr_bd h0 h2 hB k1.1 k1.2, nr_bd h0 h2 hB k2.1 k2.2⟩⟩

theorem ok_law_far {f : Addr} {fd : FuncData} (F : Fun K "_law_far" "_law_far" s_law_far f fd) (T : Bt mg) (D_law_draw : Def P w K mg base 1 "_law_draw" ["_law_deck_here", "_law_most"] spDraw) :
    FnG P w K mg base CX0 2 f fd ["_law_deck_here"] spFarW := by
  refine okG (k := 1) F sc_law_far (fun vs H Q E h => ?_) (fun cdv A outer s H vs Q E hr h => ?_)
  · obtain ⟨d, l, rfl, _⟩ := h
    rfl
  · obtain ⟨d, l, rfl, D, q⟩ := h
    refine ⟨_, (pss_cons (ps_set (i := 1) sc_law_far.nd rfl (.inl rfl) (pe_op op_sub (callD D_law_draw (hr.mono (by decide)) (pa_cons (pv 0) (pa_cons (pe_op op_add (pe_op op_mul pe_int (pe_op op_pow pe_int pe_int)) pe_int) pa_nil))) (pe_op op_pow pe_int pe_int)))
      (pss_one (ps_ret (pe_ix ix_list (lstN (pa_cons (pe_op op_pow pe_int pe_int) (pa_cons (pe_un un_neg (pe_op op_pow pe_int pe_int)) (pa_cons (pv 1) (pa_cons (pv 1) pa_nil))))) (callD D_law_draw (hr.mono (by decide)) (pa_cons (pv 0) (pa_cons pe_int pa_nil))) (fun _ _ => rfl))))), ?_⟩
    have e6 : (10 : Int) ^ (6 : Int).toNat = 1000000 := by decide
    refine ⟨.ref d, rfl, _, _, rfl, rfl, ⟨by decide, by decide, by decide⟩, _, _, rfl, rfl, .inl (by decide), _, _, rfl, rfl, d, l, _, rfl, by decide, by decide, D, fun x H1 x0 x1 S1 => ⟨_, _, rfl, rfl, ⟨by decide, by decide, by decide⟩, _, _, rfl, rfl, ?_⟩⟩
    rw [e6] at x1
    refine ⟨_, _, rfl, rfl, ⟨by decide, by decide, by decide⟩, _, _, rfl, rfl, ⟨by decide, by decide, by decide⟩, _, rfl, _, rfl, _, rfl, (by show 4 ≤ sizeLine; decide), fun p3 H3 n3 s3 g3 => ⟨.ref d, rfl, d, l, 4, rfl, by decide, by decide, (Step.of S1.deck s3).deck, fun i H4 i0 i1 S4 => ?_⟩⟩
    have np := S1.deck.nd n3
    have e4 := S4.at np.1 np.2 g3
    have S := (S1.trans (Step.of S1.deck s3)).trans S4
    obtain rfl | rfl | rfl | rfl : i = 0 ∨ i = 1 ∨ i = 2 ∨ i = 3 := by omega
    · exact ⟨p3, _, 0, _, rfl, rfl, .inl (.inl e4), rfl, q _ _ (by decide) (by decide) S⟩
    · exact ⟨p3, _, 1, _, rfl, rfl, .inl (.inl e4), rfl, q _ _ (by decide) (by decide) S⟩
    · exact ⟨p3, _, 2, _, rfl, rfl, .inl (.inl e4), rfl, q _ _ (by rw [e6]; omega) (by rw [e6]; omega) S⟩
    · exact ⟨p3, _, 3, _, rfl, rfl, .inl (.inl e4), rfl, q _ _ (by rw [e6]; omega) (by rw [e6]; omega) S⟩

end
end Cl

set_option maxHeartbeats 0
namespace Cl
open PySem PySem.Spec PyProof.Rows L2
open GxR (TabB TabG)

section
variable {P : Program} {w : World} {K : PySem.W.Frag} {mg : Str → Option Value} {base : Heap}

theorem ok_law_some_line {f : Addr} {fd : FuncData} (F : Fun K "_law_some_line" "_law_some_line" s_law_some_line f fd) (T : Bt mg) (D_law_draw : Def P w K mg base 1 "_law_draw" ["_law_deck_here", "_law_most"] spDraw) (D_law_lines : Def P w K mg base 4 "_law_lines" ["_law_deck_here", "_law_grain_here", "_law_many"] (spLinesW K)) (D_law_far : Def P w K mg base 2 "_law_far" ["_law_deck_here"] spFarW) (D_law_moved : Def P w K mg base 1 "_law_moved" ["_law_lines_here", "_law_dx", "_law_dy"] (spMovedW K)) :
    FnG P w K mg base CX0 5 f fd ["_law_deck_here", "_law_grain_here"] (spSomeW K) := by
  refine okG (k := 4) F sc_law_some_line (fun vs H Q E h => ?_) (fun cdv A outer s H vs Q E hr h => ?_)
  · obtain ⟨d, l, g, rfl, _⟩ := h
    rfl
  · obtain ⟨d, l, g, rfl, h0, h1, D, q⟩ := h
    refine ⟨_, (pss_cons (ps_set (i := 2) sc_law_some_line.nd rfl (.inl rfl) (pe_cmpR op_eq (callD D_law_draw (hr.mono (by decide)) (pa_cons (pv 0) (pa_cons pe_int pa_nil))) pe_int (nomark _)))
      (pss_cons (ps_setLc (i := 3) (own := [("_law_k", 4)]) (g := gName 4) (tt := tYes) (by rfl) sc_law_some_line.nd rfl rfl (sw_true rfl rfl rfl (by decide +kernel)) (pi_range1 (by rfl) T.range (pa_cons pe_int pa_nil)) (blkOk_by (own := [("_law_k", 4)]) (N := ["_law_deck_here", "_law_grain_here", "_law_far_here", "_law_by", "_law_k", "_law_lines_here", "_law_one", "_law_other"]) (sc := defScope s_law_some_line) (by decide +kernel)) (fun _ _ _ _ _ => (pg_name (i := 4) sc_law_some_line.nd rfl (.inl rfl))) (fun _ _ _ _ _ => pts_nil) (fun _ _ _ _ _ => (pe_op op_sub (callD D_law_draw (hr.mono (by decide)) (pa_cons (pv 0) (pa_cons pe_int pa_nil))) pe_int)))
      (pss_cons (ps_set (i := 5) sc_law_some_line.nd rfl (.inl rfl) (callD D_law_lines (hr.mono (by decide)) (pa_cons (pv 0) (pa_cons (pv 1) (pa_cons (pe_op op_add pe_int (callD D_law_draw (hr.mono (by decide)) (pa_cons (pv 0) (pa_cons pe_int pa_nil)))) pa_nil)))))
      (pss_cons (ps_if (pt_val (pv 2)) (pss_cons (ps_asg (pe_lc (own := [("_law_k", 4)]) (g := gName 4) (tt := tYes) (by rfl) sc_law_some_line.nd (pi_range1 (by rfl) T.range (pa_cons pe_int pa_nil)) (blkOk_by (own := [("_law_k", 4)]) (N := ["_law_deck_here", "_law_grain_here", "_law_far_here", "_law_by", "_law_k", "_law_lines_here", "_law_one", "_law_other"]) (sc := defScope s_law_some_line) (by decide +kernel)) (fun _ _ _ _ _ => (pg_name (i := 4) sc_law_some_line.nd rfl (.inl rfl))) (fun _ _ _ _ _ => pts_nil) (fun _ _ _ _ _ => (tupN (pa_cons (callD D_law_far (hr.mono (by decide)) (pa_cons (pv 0) pa_nil)) (pa_cons (callD D_law_far (hr.mono (by decide)) (pa_cons (pv 0) pa_nil)) pa_nil))))) (pg_lst (by rfl) (pgs_cons (pg_name (i := 6) sc_law_some_line.nd rfl (.inl rfl)) (pgs_cons (pg_name (i := 7) sc_law_some_line.nd rfl (.inl rfl)) pgs_nil))))
      (pss_one (ps_ret (tupN (pa_cons (pv 6) (pa_cons (pe_ix ix_list (lstN (pa_cons (pv 7) (pa_cons (tupN (pa_cons (pe_op op_add (pe_ix ix_tup (pv 6) pe_int (fun _ _ => rfl)) (pe_ix ix_list (lstN (pa_cons (pe_un un_neg pe_int) (pa_cons pe_int pa_nil))) (pe_callTy call_int1 (by rfl) T.int (by decide +kernel) (pa_cons (pe_cmpR op_lt (pe_ix ix_tup (pv 6) pe_int (fun _ _ => rfl)) pe_int (nomark _)) pa_nil)) (fun _ _ => rfl))) (pa_cons (pe_ix ix_tup (pv 6) pe_int (fun _ _ => rfl)) pa_nil))) pa_nil))) (pe_callTy call_int1 (by rfl) T.int (by decide +kernel) (pa_cons (pe_cmpR (op_eqD hr.room.units) (pv 6) (pv 7) (nomark _)) pa_nil)) (fun _ _ => rfl)) pa_nil)))))) pss_nil)
      (pss_one (ps_ret (pe_ix ix_tup (callD D_law_moved (hr.mono (by decide)) (pa_cons (pe_slice sl_tupB (pv 5) (po_some (pe_un un_neg pe_int)) po_none) (pa_cons (pe_ix ix_list (pv 3) pe_int (fun _ _ => rfl)) (pa_cons (pe_ix ix_list (pv 3) pe_int (fun _ _ => rfl)) pa_nil)))) pe_int (fun _ _ => rfl)))))))), ?_⟩
    refine ⟨.ref d, rfl, d, l, 8, rfl, by decide, by decide, D, fun aw H1 a0 a1 S1 => ⟨rfl, ?_⟩⟩
    generalize decide (V.int aw = V.int 5) = away
    refine ⟨2, rfl, by decide, by decide, fun pD nD => ?_⟩
    refine lcR (lo := 0) (n := 2) (Acc d l pD H1 · (fun z => -4 ≤ z ∧ z ≤ 4) ·) nD (fun H' e1 e2 => .start S1.deck e1 e2) (fun i H' hi z => ⟨rfl, .ref d, rfl, d, l, 9, rfl, by decide, by decide, z.choose_spec.1.deck, fun v Hv v0 v1 Sv => ⟨_, _, rfl, rfl, z.turn Sv S1.deck nD (by omega) ⟨by omega, by omega⟩⟩⟩) (fun H2 z => ?_)
    obtain ⟨xs, S2, eD, l1, a1⟩ := z
    obtain ⟨bi, bj, rfl⟩ := two l1
    have kb := a1 bi (by simp)
    have kj := a1 bj (by simp)
    clear a1 l1
    have nd2 := S1.deck.nd nD
    refine ⟨.ref d, rfl, _, rfl, .ref d, rfl, d, l, 3, rfl, by decide, by decide, S2.deck, fun m Hm m0 m1 Sm => ⟨_, _, rfl, rfl, d, l, g, (1 + m).toNat, ?_, h0, h1, by omega, by omega, Sm.deck, fun w H4 ls S4 e4 l4 b4 => ?_⟩⟩
    · rw [show (((1 + m).toNat : Nat) : Int) = 1 + m by omega]
      rfl
    have S14 := (S1.trans S2).trans (Sm.trans S4)
    have eD4 := (Sm.trans S4).at nd2.1 nd2.2 eD
    refine ⟨_, rfl, _, rfl, ite2 (fun e => ?_) (fun e => ?_)⟩
    · refine ⟨2, rfl, by decide, by decide, fun pE nE => ?_⟩
      refine lcR (lo := 0) (n := 2) (fun i H' => Step d l H4 H' ∧ ∃ ws ps, H' pE = some (.lst ws) ∧ AllAt (At2 K H') ws ps ∧ ps.length = i ∧ ∀ p ∈ ps, BdN 1000000 p) nE (fun H' e1 e2 => ⟨Step.of S4.deck e1, [], [], e2, .nil, rfl, fun p hp => nomatch hp⟩) (fun i H' hi z => ?_) (fun H5 z => ?_)
      · obtain ⟨t1, ws, ps, t2, t3, t4, t5⟩ := z
        refine ⟨rfl, .ref d, rfl, d, l, rfl, t1.deck, fun x Hx x0 x1 Sx => ⟨.ref d, rfl, d, l, rfl, Sx.deck, fun y Hy y0 y1 Sy => ⟨(by show 2 ≤ sizeLine; decide), fun p7 H7 n7 s7 g7 => ?_⟩⟩⟩
        have nE2 := S4.deck.nd nE
        have St := (Sx.trans Sy).trans (Step.of Sy.deck s7)
        have k7 := St.at nE2.1 nE2.2 t2
        refine ⟨ws, k7, by rw [t3.length, t4]; exact small1000 (by omega), (t1.trans St).updN nE2.1 nE2.2 nE, ws ++ [.ref p7], ps ++ [(x, y)], upd_same, AllAt.app (t3.map fun _ _ z => At2.upd (z.step St t1.deck) k7) (.cons (At2.upd ⟨p7, rfl, .inl (.inl g7)⟩ k7) .nil), by rw [List.length_append, t4]; rfl, fun p hp => ?_⟩
        rcases List.mem_append.mp hp with z | z
        · exact t5 p z
        · rw [List.mem_singleton.mp z]; exact ⟨⟨x0, x1⟩, y0, y1⟩
      · obtain ⟨t1, ws, ps, t2, t3, t4, t5⟩ := z
        match ps, t4 with
        | [o1, o2], _ =>
        obtain ⟨u, w2, rfl, hu, hw⟩ := AllAt.twoLn t3
        have c1 := t5 o1 (by simp)
        have c2 := t5 o2 (by simp)
        unfold BdN at c1 c2
        refine ⟨pE, _, rfl, .inl (.inl t2), rfl, _, _, rfl, _, _, rfl, rfl, ?_⟩
        obtain ⟨ua, rfl, hua⟩ := id hu
        refine ⟨_, rfl, _, rfl, _, rfl, ua, _, 0, _, rfl, rfl, hua, rfl, _, rfl, (by show 2 ≤ sizeLine; decide), fun q1 G1 m1_ s1 k1 => ⟨_, rfl, ua, _, 0, _, rfl, rfl, seT s1 hua, rfl, _, _, rfl, rfl, .inr ⟨_, rfl, ?_⟩⟩⟩
        obtain ⟨sg, hsg, sg0, sg1⟩ : ∃ sg : Int, atI [V.int (-1), .int 1] (if decide (o1.1 < 0) = true then 1 else 0) = some (.int sg) ∧ -1 ≤ sg ∧ sg ≤ 1 := by
          cases decide (o1.1 < 0)
          · exact ⟨-1, rfl, by decide, by decide⟩
          · exact ⟨1, rfl, by decide, by decide⟩
        refine ⟨q1, _, _, _, rfl, rfl, .inl (.inl k1), hsg, _, _, rfl, rfl, _, rfl, ua, _, 1, _, rfl, rfl, seT s1 hua, rfl, (by show 2 ≤ sizeLine; decide), fun q2 G2 m2_ s2 k2 => ⟨(by show 2 ≤ sizeLine; decide), fun q3 G3 m3_ s3 k3 => ?_⟩⟩
        have s13 := (s1.trans s2).trans s3
        refine ⟨_, rfl, _, rfl, _, _, (hu.same s13).dp, (hw.same s13).dp, rfl, rfl, .inr ⟨_, rfl, ?_⟩⟩
        generalize PyData.eqv (pd o1) (pd o2) = ee
        have S4f := S14.trans t1
        cases ee
        · refine ⟨q3, _, 0, _, rfl, rfl, .inl (.inl k3), rfl, (by show 2 ≤ sizeLine; decide), fun q4 G4 m4_ s4 k4 => ?_⟩
          exact q _ _ (o1, o2) (S4f.trans (Step.of t1.deck (s13.trans s4))) ⟨q4, _, _, rfl, .inl (.inl k4), hu.same (s13.trans s4), hw.same (s13.trans s4)⟩ ⟨by unfold BdN; simp only; omega, by unfold BdN; simp only; omega⟩
        · refine ⟨q3, _, 1, _, rfl, rfl, .inl (.inl k3), rfl, (by show 2 ≤ sizeLine; decide), fun q4 G4 m4_ s4 k4 => ?_⟩
          exact q _ _ (o1, (o1.1 + sg, o1.2)) (S4f.trans (Step.of t1.deck (s13.trans s4))) ⟨q4, _, _, rfl, .inl (.inl k4), hu.same (s13.trans s4), ⟨q2, rfl, .inl (.inl ((s3.trans s4) _ _ k2))⟩⟩ ⟨by unfold BdN; simp only; omega, by unfold BdN; simp only; omega⟩
    · obtain ⟨aw4, ws, rfl, hS4, hall⟩ := e4
      have lw := hall.length
      obtain ⟨ws', wl, rfl⟩ : ∃ ws' wl, ws = ws' ++ [wl] := ⟨ws.dropLast, ws.getLast (by intro z; rw [z] at lw; simp at lw; omega), (List.dropLast_concat_getLast _).symm⟩
      obtain ⟨ls', r, rfl⟩ : ∃ ls' r, ls = ls' ++ [r] := ⟨ls.dropLast, ls.getLast (by intro z; rw [z] at l4; simp at l4; omega), (List.dropLast_concat_getLast _).symm⟩
      have hl : AtL K H4 wl r := by
        rw [List.length_append, List.length_append] at lw
        have hlast := hall.get (i := ws'.length) (v := wl) (by simp)
        obtain ⟨x, hx, hr⟩ := hlast
        have e : ws'.length = ls'.length := by simpa using lw
        rw [e] at hx
        have : x = r := by simpa using hx.symm
        exact this ▸ hr
      have br := b4 r (by simp)
      have cutx : cutV (ws' ++ [wl]) (some (-1)) none = [wl] := by
        rw [cut_last]
        simp
      have fin : ∀ {p5 : Addr} {H5 : Hp}, Same H4 H5 → SqT K H5 p5 [wl] → ∀ (hb : H5 pD = some (.lst [.int bi, .int bj])), spMovedW K [.ref p5, .int bi, .int bj] H5 (fun w H6 => ∃ a xs i v, w = .ref a ∧ V.int 0 = .int i ∧ SqT K H6 a xs ∧ atI xs i = some v ∧ Q v H6) E0 := fun {p5 H5} s5 g5 hb => by
        refine ⟨.ref p5, [r], bi, bj, rfl, ⟨p5, _, rfl, g5, .cons (hl.same s5) .nil⟩, by simp, fun w6 H6 s6 e6 => ?_⟩
        obtain ⟨a6, vs6, rfl, h6, all6⟩ := e6
        obtain ⟨v6, rfl, hv⟩ := AllAt.one (x := mvL bi bj r) all6
        · refine ⟨a6, _, 0, v6, rfl, rfl, h6, rfl, q _ _ _ (S14.trans (Step.of S4.deck (s5.trans s6))) hv ?_⟩
          obtain ⟨r1, r2⟩ := br
          unfold BdN at r1 r2
          exact ⟨by unfold BdN mvL; simp only; omega, by unfold BdN mvL; simp only; omega⟩
      refine ⟨_, rfl, _, rfl, _, rfl, aw4, _, rfl, hS4, fun p5 H5 s5 g5 => ?_⟩
      rw [cutx] at g5
      have eD5 := s5 _ _ eD4
      exact ⟨_, rfl, pD, _, 0, _, rfl, rfl, .inl (.inl eD5), rfl, _, rfl, pD, _, 1, _, rfl, rfl, .inl (.inl eD5), rfl, fin s5 g5 eD5⟩

theorem ok_law_near {f : Addr} {fd : FuncData} (F : Fun K "_law_near" "_law_near" s_law_near f fd) (T : Bt mg) (D_law_draw : Def P w K mg base 1 "_law_draw" ["_law_deck_here", "_law_most"] spDraw) (D_law_nearest : Def P w K mg base 1 "_law_nearest" ["_law_grain_here", "_law_spot"] (spNearestX K)) :
    FnG P w K mg base CX0 2 f fd ["_law_deck_here", "_law_grain_here", "_law_line_here"] (spNearW K) := by
  refine okG (k := 1) F sc_law_near (fun vs H Q E h => ?_) (fun cdv A outer s H vs Q E hr h => ?_)
  · obtain ⟨d, l, g, v, r, rfl, _⟩ := h
    rfl
  · obtain ⟨d, l, g, _, r, rfl, h0, h1, D, ⟨a, _, _, rfl, hS, ⟨b, rfl, hb⟩, ⟨b2, rfl, hb2⟩⟩, q⟩ := h
    refine ⟨_, (pss_cons (ps_asg (pv 2) (pg_tup (by rfl) (pgs_cons (pg_tup (by rfl) (pgs_cons (pg_name (i := 3) sc_law_near.nd rfl (.inl rfl)) (pgs_cons (pg_name (i := 4) sc_law_near.nd rfl (.inl rfl)) pgs_nil))) (pgs_cons (pg_tup (by rfl) (pgs_cons (pg_name (i := 5) sc_law_near.nd rfl (.inl rfl)) (pgs_cons (pg_name (i := 6) sc_law_near.nd rfl (.inl rfl)) pgs_nil))) pgs_nil))))
      (pss_cons (ps_set (i := 7) sc_law_near.nd rfl (.inl rfl) (callD D_law_draw (hr.mono (by decide)) (pa_cons (pv 0) (pa_cons pe_int pa_nil))))
      (pss_cons (ps_asg (callD D_law_nearest (hr.mono (by decide)) (pa_cons (pv 1) (pa_cons (tupN (pa_cons (pe_op op_add (pe_op op_mul (pv 3) (pe_op op_sub pe_int (pv 7))) (pe_op op_mul (pv 5) (pv 7))) (pa_cons (pe_op op_add (pe_op op_mul (pv 4) (pe_op op_sub pe_int (pv 7))) (pe_op op_mul (pv 6) (pv 7))) (pa_cons pe_int pa_nil)))) pa_nil))) (pg_tup (by rfl) (pgs_cons (pg_name (i := 8) sc_law_near.nd rfl (.inl rfl)) (pgs_cons (pg_name (i := 9) sc_law_near.nd rfl (.inl rfl)) pgs_nil))))
      (pss_cons (ps_par (i := 8) (j := 9) (by rfl) sc_law_near.nd rfl rfl (by decide) rfl rfl (pa_cons (pe_op op_sub (pe_op op_add (pv 8) (callD D_law_draw (hr.mono (by decide)) (pa_cons (pv 0) (pa_cons pe_int pa_nil)))) pe_int) (pa_cons (pe_op op_sub (pe_op op_add (pv 9) (callD D_law_draw (hr.mono (by decide)) (pa_cons (pv 0) (pa_cons pe_int pa_nil)))) pe_int) pa_nil)) (by rfl))
      (pss_one (ps_ret (tupN (pa_cons (pe_callB (call_max2 rfl) (by rfl) T.max (by decide +kernel) (pa_cons (pe_un un_neg (pe_op op_pow pe_int pe_int)) (pa_cons (pe_callB (call_min2 rfl) (by rfl) T.min (by decide +kernel) (pa_cons (pe_op op_pow pe_int pe_int) (pa_cons (pv 8) pa_nil))) pa_nil))) (pa_cons (pe_callB (call_max2 rfl) (by rfl) T.max (by decide +kernel) (pa_cons (pe_un un_neg (pe_op op_pow pe_int pe_int)) (pa_cons (pe_callB (call_min2 rfl) (by rfl) T.min (by decide +kernel) (pa_cons (pe_op op_pow pe_int pe_int) (pa_cons (pv 9) pa_nil))) pa_nil))) pa_nil))))))))), ?_⟩
    have e6 : (10 : Int) ^ (6 : Int).toNat = 1000000 := by decide
    refine ⟨_, rfl, a, _, rfl, hS, rfl, _, _, rfl, b, _, rfl, hb, rfl, _, _, rfl, _, _, rfl, rfl, _, _, rfl, b2, _, rfl, hb2, rfl, _, _, rfl, _, _, rfl, rfl, rfl, ?_⟩
    refine ⟨.ref d, rfl, d, l, 17, rfl, by decide, by decide, D, fun k H1 k0 k1 S1 => ?_⟩
    refine ⟨_, rfl, _, rfl, _, rfl, _, _, rfl, rfl, _, _, rfl, rfl, .inr (by omega), _, rfl, _, rfl, _, _, rfl, rfl, .inr (by omega), _, _, rfl, rfl, ?_⟩
    refine ⟨_, rfl, _, rfl, _, _, rfl, rfl, _, _, rfl, rfl, .inr (by omega), _, rfl, _, rfl, _, _, rfl, rfl, .inr (by omega), _, _, rfl, rfl, (by show 3 ≤ sizeLine; decide), fun p5 H5 n5 s5 g5 => ?_⟩
    refine ⟨g, .ref p5, (_, _, 16), rfl, ⟨p5, rfl, .inl (.inl g5)⟩, h0, h1, by show (0 : Int) < 16; decide, by show (16 : Int) ≤ 16; decide, fun w H6 p s6 ew _ => ?_⟩
    obtain ⟨a6, rfl, h6⟩ := ew
    have S6 := S1.trans (Step.of S1.deck (s5.trans s6))
    refine ⟨a6, _, rfl, h6, rfl, _, _, rfl, _, _, rfl, rfl, ?_⟩
    refine ⟨_, rfl, .ref d, rfl, d, l, 3, rfl, by decide, by decide, S6.deck, fun x Hx x0 x1 Sx => ⟨_, _, rfl, rfl, _, _, rfl, rfl, _, rfl, .ref d, rfl, d, l, 3, rfl, by decide, by decide, Sx.deck, fun y Hy y0 y1 Sy => ⟨_, _, rfl, rfl, _, _, rfl, rfl, _, _, rfl, ?_⟩⟩⟩
    refine ⟨_, _, rfl, rfl, ⟨by decide, by decide, by decide⟩, _, rfl, _, _, rfl, rfl, ⟨by decide, by decide, by decide⟩, _, rfl, _, _, rfl, _, _, rfl, ?_⟩
    refine ⟨_, _, rfl, rfl, ⟨by decide, by decide, by decide⟩, _, rfl, _, _, rfl, rfl, ⟨by decide, by decide, by decide⟩, _, rfl, _, _, rfl, _, _, rfl, (by show 2 ≤ sizeLine; decide), fun p7 H7 n7 s7 g7 => ?_⟩
    rw [e6] at g7
    refine q _ _ (_, _) ((S6.trans (Sx.trans Sy)).trans (Step.of Sy.deck s7)) ⟨p7, rfl, .inl (.inl g7)⟩ ?_
    have cl : ∀ z : Int, -1000000 ≤ (if (if z < 1000000 then z else 1000000) > -1000000 then (if z < 1000000 then z else 1000000) else -1000000) ∧ (if (if z < 1000000 then z else 1000000) > -1000000 then (if z < 1000000 then z else 1000000) else -1000000) ≤ 1000000 := fun z => by
      split <;> split <;> omega
    exact ⟨cl _, cl _⟩

end
end Cl

set_option maxHeartbeats 0
namespace Cl
open PySem PySem.Spec PyProof.Rows L2
open GxR (TabB TabG)

section
variable {P : Program} {w : World} {K : PySem.W.Frag} {mg : Str → Option Value} {base : Heap}

theorem oklaw {f Pt Pa : Addr} {fd : FuncData} (F : Fun K "law" "law" slaw f fd) (T : Bt mg) (D_law_deck : Def P w K mg base 1 "_law_deck" ["_law_script"] (spDeck K)) (D_law_draw : Def P w K mg base 1 "_law_draw" ["_law_deck_here", "_law_most"] spDraw) (D_law_spoils : Def P w K mg base 2 "_law_spoils" ["_law_deck_here", "_law_many"] (spSpoils K)) (D_law_grain : Def P w K mg base 2 "_law_grain" ["_law_deck_here"] spGrainW) (D_law_some_line : Def P w K mg base 5 "_law_some_line" ["_law_deck_here", "_law_grain_here"] (spSomeW K)) (D_law_near : Def P w K mg base 2 "_law_near" ["_law_deck_here", "_law_grain_here", "_law_line_here"] (spNearW K)) (Dmeets_paper : Def P w K mg base 6 "meets_paper" ["grain", "line", "corner"] (spMP K)) (D_law_bent : Def P w K mg base 5 "_law_bent" ["_law_thing", "_law_spoil"] (spBentC K)) (D_law_told : Def P w K mg base 7 "_law_told" ["_law_grain_here", "_law_line_here", "_law_corner", "_law_thing"] (spTold K Pa Pt)) :
    FnG P w K mg base CX0 8 f fd ["_law_script"] (spLawT K Pa Pt) := by
  refine okG (k := 7) F sclaw (fun vs H Q E h => ?_) (fun cdv A outer s H vs Q E hr h => ?_)
  · obtain ⟨a, ns, rfl, _⟩ := h
    rfl
  · obtain ⟨a, ns, rfl, hS, hlen, hT, q⟩ := h
    refine ⟨_, (pss_cons (ps_set (i := 1) sclaw.nd rfl (.inl rfl) (callD D_law_deck (hr.mono (by decide)) (pa_cons (pv 0) pa_nil)))
      (pss_cons (ps_for PassesOwn.never rfl (pi_range1 (by rfl) T.range (pa_cons pe_int pa_nil)) (pg_name (i := 2) sclaw.nd rfl (.inl rfl)) (pss_cons (ps_set (i := 3) sclaw.nd rfl (.inl rfl) (callD D_law_spoils (hr.mono (by decide)) (pa_cons (pv 1) (pa_cons pe_int pa_nil))))
      (pss_cons (ps_set (i := 4) sclaw.nd rfl (.inl rfl) (callD D_law_grain (hr.mono (by decide)) (pa_cons (pv 1) pa_nil)))
      (pss_cons (ps_set (i := 5) sclaw.nd rfl (.inl rfl) (callD D_law_some_line (hr.mono (by decide)) (pa_cons (pv 1) (pa_cons (pv 4) pa_nil))))
      (pss_cons (ps_set (i := 6) sclaw.nd rfl (.inl rfl) (tupN (pa_cons (pe_op op_sub (pe_ix ix_tup (pe_ix ix_tup (pv 5) pe_int (fun _ _ => rfl)) pe_int (fun _ _ => rfl)) (pe_ix ix_tup (pe_ix ix_tup (pv 5) pe_int (fun _ _ => rfl)) pe_int (fun _ _ => rfl))) (pa_cons (pe_op op_sub (pe_ix ix_tup (pe_ix ix_tup (pv 5) pe_int (fun _ _ => rfl)) pe_int (fun _ _ => rfl)) (pe_ix ix_tup (pe_ix ix_tup (pv 5) pe_int (fun _ _ => rfl)) pe_int (fun _ _ => rfl))) pa_nil))))
      (pss_cons (ps_set (i := 7) sclaw.nd rfl (.inl rfl) (pe_op op_add (pe_op op_mul (pe_op op_mul pe_int (pe_ix ix_tup (pv 6) pe_int (fun _ _ => rfl))) (pe_ix ix_tup (pe_ix ix_tup (pv 5) pe_int (fun _ _ => rfl)) pe_int (fun _ _ => rfl))) (pe_op op_mul (pe_op op_mul pe_int (pe_ix ix_tup (pv 6) pe_int (fun _ _ => rfl))) (pe_ix ix_tup (pe_ix ix_tup (pv 5) pe_int (fun _ _ => rfl)) pe_int (fun _ _ => rfl)))))
      (pss_one (ps_for PassesOwn.never rfl (pi_range1 (by rfl) T.range (pa_cons pe_int pa_nil)) (pg_name (i := 8) sclaw.nd rfl (.inl rfl)) (pss_cons (ps_set (i := 9) sclaw.nd rfl (.inl rfl) (callD D_law_near (hr.mono (by decide)) (pa_cons (pv 1) (pa_cons (pv 4) (pa_cons (pv 5) pa_nil)))))
      (pss_cons (ps_set (i := 10) sclaw.nd rfl (.inl rfl) (pe_ix ix_list (lstN (pa_cons (callD Dmeets_paper (hr.mono (by decide)) (pa_cons (pv 4) (pa_cons (pv 5) (pa_cons (pv 9) pa_nil)))) (pa_cons (pe_op op_catTN (pe_op op_catTN (tupN (pa_cons pe_str pa_nil)) (pv 6)) (tupN (pa_cons (pv 7) pa_nil))) pa_nil))) (pe_callTy call_int1 (by rfl) T.int (by decide +kernel) (pa_cons (pe_cmpR op_eq (callD D_law_draw (hr.mono (by decide)) (pa_cons (pv 1) (pa_cons pe_int pa_nil))) pe_int (nomark _)) pa_nil)) (fun _ _ => rfl)))
      (pss_cons (ps_if (pt_not (pt_val (callD D_law_told (hr.mono (by decide)) (pa_cons (pv 4) (pa_cons (pv 5) (pa_cons (pv 9) (pa_cons (pv 10) pa_nil))))))) (pss_one (ps_ret pe_bl)) pss_nil)
      (pss_cons (ps_for PassesOwn.never rfl (pi_list (pe_slice sl_listN (pv 3) (po_some (pe_op op_mul pe_int (pv 8))) (po_some (pe_op op_add (pe_op op_mul pe_int (pv 8)) pe_int)))) (pg_tup (by rfl) (pgs_cons (pg_name (i := 11) sclaw.nd rfl (.inl rfl)) (pgs_cons (pg_name (i := 12) sclaw.nd rfl (.inl rfl)) (pgs_cons (pg_name (i := 13) sclaw.nd rfl (.inl rfl)) (pgs_cons (pg_name (i := 14) sclaw.nd rfl (.inl rfl)) pgs_nil))))) (pss_cons (ps_set (i := 15) sclaw.nd rfl (.inl rfl) (callD D_law_bent (hr.mono (by decide)) (pa_cons (pv 10) (pa_cons (tupN (pa_cons (pv 11) (pa_cons (pv 12) (pa_cons (pv 13) pa_nil)))) pa_nil))))
      (pss_cons (ps_if (pt_cmpR op_eq (pv 14) pe_int (nomark _)) (pss_one (ps_set (i := 15) sclaw.nd rfl (.inl rfl) (callD D_law_bent (hr.mono (by decide)) (pa_cons (pv 15) (pa_cons (tupN (pa_cons (pe_op op_mod (pv 13) pe_int) (pa_cons (pe_op op_fdiv (pv 13) pe_int) (pa_cons (pv 12) pa_nil)))) pa_nil))))) pss_nil)
      (pss_one (ps_if (pt_not (pt_val (callD D_law_told (hr.mono (by decide)) (pa_cons (pv 4) (pa_cons (pv 5) (pa_cons (pv 9) (pa_cons (pv 15) pa_nil))))))) (pss_one (ps_ret pe_bl)) pss_nil)))))
      (pss_cons (ps_set (i := 16) sclaw.nd rfl (.inl rfl) (lstN (pa_cons pe_non (pa_cons pe_int (pa_cons pe_bl (pa_cons pe_str (pa_cons (tupN pa_nil) (pa_cons (lstM pa_nil) (pa_cons pe_dnewK (pa_cons (tupN (pa_cons pe_str pa_nil)) (pa_cons (tupN (pa_cons pe_str (pa_cons pe_int (pa_cons pe_int (pa_cons pe_int pa_nil))))) (pa_cons (tupN (pa_cons pe_str (pa_cons pe_int (pa_cons pe_int pa_nil)))) pa_nil))))))))))))
      (pss_one (ps_for PassesOwn.never rfl (pi_list (pe_op op_catLN (pv 16) (lstN (pa_cons (tupN (pa_cons pe_str (pa_cons pe_int (pa_cons pe_int pa_nil)))) (pa_cons (pe_callTy call_listM (by rfl) T.list (by decide +kernel) (pa_cons (pv 10) pa_nil)) (pa_cons (tupN (pa_cons (pv 10) pa_nil)) (pa_cons (pe_op op_catTB (pv 10) (tupN (pa_cons pe_int pa_nil))) (pa_cons (pv 10) pa_nil)))))))) (pg_name (i := 15) sclaw.nd rfl (.inl rfl)) (pss_one (ps_if (pt_not (pt_val (callD D_law_told (hr.mono (by decide)) (pa_cons (pv 4) (pa_cons (pv 5) (pa_cons (pv 9) (pa_cons (pv 15) pa_nil))))))) (pss_one (ps_ret pe_bl)) pss_nil)))))))))))))))))
      (pss_one (ps_ret pe_bl)))), ?_⟩
    refine ⟨.ref a, rfl, a, ns, rfl, hS, hlen, fun d l H1 s1 D1 => ?_⟩
    have hT1 := hT.same s1
    refine ⟨3, rfl, by decide, by decide, for_range (n := 3) (fun i σ H' => ∃ y2 y3 y4 y5 y6 y7 y8 y9 y10 y11 y12 y13 y14 y15 y16, σ = [some (.ref a), some (.ref d), y2, y3, y4, y5, y6, y7, y8, y9, y10, y11, y12, y13, y14, y15, y16] ∧ Deck H' d l ∧ Tb2 Pa Pt H') ?_ ?_ ?_⟩
    · exact ⟨_, _, _, _, _, _, _, _, _, _, _, _, _, _, _, rfl, D1, hT1⟩
    · rintro i σ H2 hi ⟨y2, y3, y4, y5, y6, y7, y8, y9, y10, y11, y12, y13, y14, y15, y16, rfl, D2, hT2⟩
      refine ⟨.ref d, rfl, d, l, rfl, D2, fun L H3 us S3 ndL eL lu hus => ?_⟩
      refine ⟨.ref d, rfl, d, l, rfl, S3.deck, fun g H4 h0 h1 S4 => ?_⟩
      refine ⟨.ref d, rfl, _, rfl, d, l, g, rfl, h0, h1, S4.deck, fun wl H5 r S5 e5 b5 => ?_⟩
      have S35 := S4.trans S5
      have eL5 := S35.at ndL.1 ndL.2 eL
      have hus5 : ∀ u ∈ us, Spoil K H5 u := fun u hu => (hus u hu).step S35 S3.deck
      have hT5 := hT2.step D2 (S3.trans S35)
      have D5 := S5.deck
      obtain ⟨al, u1, u2, rfl, hl0, ⟨b1, rfl, hb1⟩, ⟨b2, rfl, hb2⟩⟩ := id e5
      have X0 : ∀ (p k : Addr) (e : H5 p = none), True := fun _ _ _ => trivial
      refine ⟨_, rfl, al, _, 0, _, rfl, rfl, hl0, rfl, b1, _, 1, _, rfl, rfl, hb1, rfl, _, rfl, al, _, 1, _, rfl, rfl, hl0, rfl, b2, _, 1, _, rfl, rfl, hb2, rfl, _, _, rfl, rfl, ?_⟩
      refine ⟨_, rfl, al, _, 1, _, rfl, rfl, hl0, rfl, b2, _, 0, _, rfl, rfl, hb2, rfl, _, rfl, al, _, 0, _, rfl, rfl, hl0, rfl, b1, _, 0, _, rfl, rfl, hb1, rfl, _, _, rfl, rfl, (by show 2 ≤ sizeLine; decide), fun pA H6 n6 s6 e6 => ?_⟩
      obtain ⟨p0, ep0⟩ : ∃ p0, p0 = r.1.2 - r.2.2 := ⟨_, rfl⟩
      obtain ⟨p1, ep1⟩ : ∃ p1, p1 = r.2.1 - r.1.1 := ⟨_, rfl⟩
      have e6 : H6 pA = some (.tup [.int p0, .int p1]) := by rw [ep0, ep1]; exact e6
      obtain ⟨bp0, bp1⟩ : p0.natAbs ≤ 2200000 ∧ p1.natAbs ≤ 2200000 := by
        obtain ⟨⟨⟨x1, x2⟩, x3, x4⟩, ⟨x5, x6⟩, x7, x8⟩ := b5
        exact ⟨by omega, by omega⟩
      obtain ⟨bx, by_⟩ : r.1.1.natAbs ≤ 1100000 ∧ r.1.2.natAbs ≤ 1100000 := by
        obtain ⟨⟨⟨x1, x2⟩, x3, x4⟩, _⟩ := b5
        exact ⟨by omega, by omega⟩
      clear ep0 ep1
      have hl06 := seT s6 hl0
      have hb16 := seT s6 hb1
      refine ⟨_, rfl, pA, _, 0, _, rfl, rfl, .inl (.inl e6), rfl, _, _, rfl, rfl, .inl (by decide), _, rfl, al, _, 0, _, rfl, rfl, hl06, rfl, b1, _, 0, _, rfl, rfl, hb16, rfl, _, _, rfl, rfl, .inr (by omega), ?_⟩
      refine ⟨_, rfl, pA, _, 1, _, rfl, rfl, .inl (.inl e6), rfl, _, _, rfl, rfl, .inl (by decide), _, rfl, al, _, 0, _, rfl, rfl, hl06, rfl, b1, _, 1, _, rfl, rfl, hb16, rfl, _, _, rfl, rfl, .inr (by omega), _, _, rfl, rfl, ?_⟩
      generalize hG : ((fun i j => V.int (i + j)) (2 * p0 * r.1.1) (2 * p1 * r.1.2) : V) = gv
      obtain ⟨r0, hr0, br0⟩ : ∃ r0, gv = V.int r0 ∧ r0.natAbs < 2 ^ 130 := by
        have m1 := mul_bd bp0 bx
        have m2 := mul_bd bp1 by_
        have big : (2 : Nat) ^ 50 ≤ 2 ^ 130 := Nat.pow_le_pow_right (by decide) (by decide)
        refine ⟨_, hG.symm, Nat.lt_of_lt_of_le ?_ big⟩
        rw [Int.mul_assoc, Int.mul_assoc]
        omega
      subst hr0
      clear hG
      have hl6 := e5.same s6
      have eL6 := s6 _ _ eL5
      have hT6 := hT5.same s6
      have D6 := (Step.of D5 s6).deck
      have hus6 : ∀ u ∈ us, Spoil K H6 u := fun u hu => (hus5 u hu).step (Step.of D5 s6) D5
      clear e5 eL5 hT5 hus5 hus eL S35 hl0 hb1 hb2 n6 s6 hl06 hb16 D5 S5 S4 S3 D2 hT2
      refine ⟨2, rfl, by decide, by decide, for_range (n := 2) (fun j σ H' => ∃ y8 y9 y10 y11 y12 y13 y14 y15 y16, σ = [some (.ref a), some (.ref d), some (.int (0 + (i : Int))), some (.ref L), some (.int g), some (.ref al), some (.ref pA), some (.int r0), y8, y9, y10, y11, y12, y13, y14, y15, y16] ∧ Step d l H6 H') ⟨_, _, _, _, _, _, _, _, _, rfl, .of D6 (.refl _)⟩ ?_ ?_⟩
      · rintro j σ H7 hj ⟨y8, y9, y10, y11, y12, y13, y14, y15, y16, rfl, S7⟩
        refine ⟨.ref d, rfl, _, rfl, _, rfl, d, l, g, .ref al, r, rfl, h0, h1, S7.deck, hl6.step S7 D6, fun vc H8 c S8 hc bc => ?_⟩
        have S68 := S7.trans S8
        have hl8 := hl6.step S68 D6
        have bd := bdw_of h0 h1 b5 bc
        refine ⟨_, rfl, _, rfl, _, rfl, g, .ref al, vc, r, c, rfl, hl8, hc, bd, fun w H9 s9 hp good => ?_⟩
        have hA9 : SqT K H9 pA [.int p0, .int p1] := seT s9 (stT S68 D6 (.inl (.inl e6)))
        refine ⟨(by show 1 ≤ sizeLine; decide), fun q1 H10 n10 s10 e10 => ?_⟩
        refine ⟨_, rfl, q1, pA, _, _, rfl, rfl, .inl (.inl e10), seT s10 hA9, by simp, by simp, small64' (by simp), fun q2 H11 n11 s11 e11 => ?_⟩
        refine ⟨_, rfl, (by show 1 ≤ sizeLine; decide), fun q3 H12 n12 s12 e12 => ?_⟩
        refine ⟨q2, q3, _, _, rfl, rfl, .inl (.inl (s12 _ _ e11)), .inl (.inl e12), by simp, by simp, small64' (by simp), fun q4 H13 n13 s13 e13 => ?_⟩
        refine ⟨(by show 2 ≤ sizeLine; decide), fun LL H14 n14 s14 e14 => ?_⟩
        have v14 := s9.trans (s10.trans (s11.trans (s12.trans (s13.trans s14))))
        have D14 := (Step.of S8.deck v14).deck
        refine ⟨.ref d, rfl, d, l, 4, rfl, by decide, by decide, D14, fun dv H15 d0 d1 S15 => ?_⟩
        obtain ⟨aw, rfl, hw⟩ := hp
        have S615 := S68.trans ((Step.of S8.deck v14).trans S15)
        obtain ⟨pp, wd, ns', hat, hP, hwd, hnl, hb130⟩ : ∃ (pp : Addr) (wd : Str) (ns' : List Int), atI [V.ref aw, V.ref q4] (if decide (V.int dv = V.int 1) = true then 1 else 0) = some (V.ref pp) ∧ SqT K H15 pp (.str wd :: ns'.map V.int) ∧ (wd = "misses" ∨ wd = "meets") ∧ ns'.length ≤ 3 ∧ ∀ n ∈ ns', n.natAbs < 2 ^ 130 := by
          obtain ⟨g1, g2, g3⟩ := pap_130 bd good
          cases decide (V.int dv = V.int 1) with
          | false => exact ⟨aw, _, _, rfl, stT S15 D14 (seT (s10.trans (s11.trans (s12.trans (s13.trans s14)))) hw), g1, g2, g3⟩
          | true =>
            refine ⟨q4, "misses", [p0, p1, r0], rfl, stT S15 D14 (seT s14 (.inl (.inl e13))), .inl rfl, Nat.le_refl _, fun n hn => ?_⟩
            have big : (2 : Nat) ^ 50 ≤ 2 ^ 130 := Nat.pow_le_pow_right (by decide) (by decide)
            simp only [List.mem_cons, List.not_mem_nil, or_false] at hn
            rcases hn with rfl | rfl | rfl
            · omega
            · omega
            · exact br0
        have nLL := (Step.of S8.deck (s9.trans (s10.trans (s11.trans (s12.trans s13))))).deck.nd n14
        refine ⟨rfl, .inr ⟨_, rfl, LL, _, _, .ref pp, rfl, rfl, .inl (.inl (S15.at nLL.1 nLL.2 e14)), hat, ?_⟩⟩
        obtain ⟨x0, hx0⟩ : ∃ x0 : PyData, x0 = .tuple (.str wd :: ns'.map PyData.int) := ⟨_, rfl⟩
        have gx0 : Gd 0 1 x0 := by rw [hx0]; exact paper_gd hwd (by omega) hb130
        have dq0 : Dq K H15 (.ref pp) x0 := by rw [hx0]; exact .tup hP (.cons (.str _) (ints_dq _))
        have hl15 := hl6.step S615 D6
        have hc15 := hc.step ((Step.of S8.deck v14).trans S15) S8.deck
        have hT15 := hT6.step D6 S615
        have eL15 := S615.at ndL.1 ndL.2 eL6
        have hus15 : ∀ u ∈ us, Spoil K H15 u := fun u hu => (hus6 u hu).step S615 D6
        have ob0 := OkB_of (by decide) gx0
        have rp0 := gx0.rep (by decide) (by decide)
        clear hat hc hl8 e14 n14 e13 n13 e12 n12 e11 n11 e10 n10 s9 s10 s11 s12 s13 s14 v14 nLL good hw hA9 D14 S8 S15 S68 S7 d0 d1
        refine ⟨_, rfl, _, rfl, _, rfl, _, rfl, g, .ref al, vc, .ref pp, r, c, x0, rfl, hT15, hl15, hc15, bd, dq0, ob0, rp0, fun H16 s16 => ⟨_, rfl, iteF ?_⟩⟩
        have e8 : (0 : Int) ≤ (j : Nat) := Int.natCast_nonneg j
        refine ⟨_, rfl, _, rfl, _, _, rfl, rfl, .inl (by decide), _, rfl, _, rfl, _, _, rfl, rfl, .inl (by decide), _, _, rfl, rfl, _, rfl, ?_⟩
        refine ⟨L, us, rfl, .inl (.inl (s16 _ _ eL15)), fun LS H17 n17 s17 e17 => ?_⟩
        generalize hcut : cutV us _ _ = vs at e17
        have hvs : ∀ u ∈ vs, u ∈ us := fun u hu => by
          rw [← hcut] at hu
          exact List.mem_of_mem_drop (List.mem_of_mem_take hu)
        clear hcut
        have s0 := s16.trans s17
        have hus17 : ∀ u ∈ vs, ∃ (b : Addr) (way place what more : Int), u = .ref b ∧ SqT K H17 b [.int way, .int place, .int what, .int more] ∧ (0 ≤ way ∧ way < 8) ∧ (0 ≤ place ∧ place < 100003) ∧ (0 ≤ what ∧ what < 99991) := fun u hu => by
          obtain ⟨b, way, place, what, more, rfl, h1, h2⟩ := hus15 u (hvs u hu)
          exact ⟨b, way, place, what, more, rfl, seT s0 h1, h2⟩
        refine ⟨LS, rfl, ⟨_, .inl (.inl e17)⟩, for_list (K := K) (a := LS) (xs := vs) (fun k σ' H' => ∃ y11 y12 y13 y14 y15 y16, σ' = [some (.ref a), some (.ref d), some (.int (0 + (i : Int))), some (.ref L), some (.int g), some (.ref al), some (.ref pA), some (.int r0), some (.int (0 + (j : Int))), some vc, some (.ref pp), y11, y12, y13, y14, y15, y16] ∧ Same H17 H') ⟨_, _, _, _, _, _, rfl, .refl _⟩ (fun k σ' H' _ z => by obtain ⟨_, _, _, _, _, _, _, z⟩ := z; exact .inl (.inl (z _ _ e17))) (fun k u σ' H18 hu z => ?_) (fun σ' H18 z => ?_)⟩
        · obtain ⟨y11, y12, y13, y14, y15, y16, rfl, s18⟩ := z
          obtain ⟨sa, way, place, what, more, rfl, hS4, ⟨w0, w1⟩, ⟨l0, l1⟩, t0, t1⟩ := hus17 u (List.mem_of_getElem? hu)
          refine ⟨sa, _, rfl, seT s18 hS4, rfl, _, _, rfl, _, _, rfl, _, _, rfl, _, _, rfl, rfl, ?_⟩
          refine ⟨_, rfl, _, rfl, _, rfl, _, rfl, (by show 3 ≤ sizeLine; decide), fun b1 Ha na sa1 ea => ?_⟩
          have sA := s0.trans (s18.trans sa1)
          refine ⟨.ref pp, b1, x0, 0, 1, way, place, what, rfl, .inl (.inl ea), dq0.same sA, gx0, by omega, by omega, ⟨w0, by omega⟩, ⟨l0, by omega⟩, ⟨t0, by omega⟩, fun w1 Hb y1 sb1 dq1 gy1 => ?_⟩
          have sB := sA.trans sb1
          refine ⟨_, rfl, rfl, _, rfl, ite2 (fun e => ?_) (fun e => ?_)⟩
          · have m0 := Int.emod_nonneg what (show (8 : Int) ≠ 0 by decide)
            have m1 := Int.emod_lt_of_pos what (show (0 : Int) < 8 by decide)
            have m2 : 0 ≤ what / 8 := Int.ediv_nonneg t0 (by decide)
            have m3 : what / 8 ≤ what := Int.ediv_le_self 8 t0
            refine ⟨_, rfl, _, rfl, _, _, rfl, rfl, (by show (0 : Int) < 8; decide), _, rfl, _, _, rfl, rfl, ⟨by decide, by decide⟩, _, rfl, (by show 3 ≤ sizeLine; decide), fun b2 Hc nc sc1 ec => ?_⟩
            refine ⟨w1, b2, y1, 1, 2, what % 8, what / 8, place, rfl, .inl (.inl ec), dq1.same sc1, gy1, by omega, by omega, ⟨m0, by omega⟩, ⟨m2, by omega⟩, ⟨l0, by omega⟩, fun w2 Hd y2 sd1 dq2 gy2 => ?_⟩
            have sD := sB.trans (sc1.trans sd1)
            refine ⟨_, rfl, _, rfl, _, rfl, _, rfl, g, .ref al, vc, w2, r, c, y2, rfl, hT15.same sD, hl15.same sD, hc15.same sD, bd, dq2, OkB_of (by decide) gy2, gy2.rep (by decide) (by decide), fun HZ sz => ⟨_, rfl, iteF ?_⟩⟩
            exact ⟨_, _, _, _, _, _, rfl, s18.trans (sa1.trans (sb1.trans (sc1.trans (sd1.trans sz))))⟩
          · refine ⟨_, rfl, _, rfl, _, rfl, _, rfl, g, .ref al, vc, w1, r, c, y1, rfl, hT15.same sB, hl15.same sB, hc15.same sB, bd, dq1, OkB_of (by decide) gy1, gy1.rep (by decide) (by decide), fun HZ sz => ⟨_, rfl, iteF ?_⟩⟩
            exact ⟨_, _, _, _, _, _, rfl, s18.trans (sa1.trans (sb1.trans sz))⟩
        · obtain ⟨y11, y12, y13, y14, y15, y16, rfl, s18⟩ := z
          have s0' := s0.trans s18
          refine ⟨Nat.zero_le _, fun o1 A1 n1 t1 g1 => ⟨Nat.zero_le _, fun o2 A2 m2 n2 t2 g2 => ?_⟩⟩
          intro o3 n3
          have t3 : Same A2 (upd A2 o3 (.dK [])) := same_new n3
          have g3 : (upd A2 o3 (.dK [])) o3 = some (.dK []) := upd_same
          generalize (upd A2 o3 (.dK [])) = A3 at t3 g3 ⊢
          refine ⟨(by show 1 ≤ sizeLine; decide), fun o4 A4 n4 t4 g4 => ⟨(by show 4 ≤ sizeLine; decide), fun o5 A5 n5 t5 g5 => ⟨(by show 3 ≤ sizeLine; decide), fun o6 A6 n6 t6 g6 => ⟨(by show 10 ≤ sizeLine; decide), fun OL A7 n7 t7 g7 => ?_⟩⟩⟩⟩
          refine ⟨_, rfl, (by show 3 ≤ sizeLine; decide), fun o7 A8 n8 t8 g8 => ?_⟩
          have v8 := s0'.trans (t1.trans (t2.trans (t3.trans (t4.trans (t5.trans (t6.trans (t7.trans t8)))))))
          refine ⟨_, rfl, pp, _, rfl, seT v8 hP, fun o8 A9 m9 n9 t9 g9 => ?_⟩
          refine ⟨_, rfl, (by show 1 ≤ sizeLine; decide), fun o9 A10 n10 t10 g10 => ?_⟩
          have v10 := v8.trans (t9.trans t10)
          refine ⟨_, rfl, (by show 1 ≤ sizeLine; decide), fun o10 A11 n11 t11 g11 => ?_⟩
          refine ⟨pp, o10, _, _, rfl, rfl, seT (v10.trans t11) hP, .inl (.inl g11), small64' (by simp; omega), fun o11 A12 t12 g12 => ?_⟩
          refine ⟨_, rfl, (by show 5 ≤ sizeLine; decide), fun O2 A13 n13 t13 g13 => ?_⟩
          have x13 := t13
          have x12 := t12.trans x13
          have x11 := t11.trans x12
          have x10 := t10.trans x11
          have x9 := t9.trans x10
          have x8 := t8.trans x9
          have x7 := t7.trans x8
          have x6 := t6.trans x7
          have x5 := t5.trans x6
          have x4 := t4.trans x5
          have x3 := t3.trans x4
          have x2 := t2.trans x3
          have x1 := t1.trans x2
          refine ⟨OL, O2, _, _, rfl, rfl, x8 _ _ g7, g13, small64' (by simp), fun OC A14 n14 t14 g14 => ?_⟩
          have vE := s0'.trans (x1.trans t14)
          have dq14 := dq0.same vE
          have dqP : DqAll K A14 (.str wd :: ns'.map V.int) (.str wd :: ns'.map PyData.int) := .cons (.str _) (ints_dq _)
          have all : DqAll K A14 ([V.non, .int 0, .bl true, .str "meets", .ref o1, .ref o2, .ref o3, .ref o4, .ref o5, .ref o6] ++ [V.ref o7, .ref o8, .ref o9, .ref o11, .ref pp]) ([PyData.none, .int 0, .bool true, .str "meets", .tuple [], .list [], .dict [], .tuple [.str "meets"], .tuple [.str "misses", .int 0, .int 0, .int 0], .tuple [.str "meets", .int 0, .int 0]] ++ [PyData.tuple [.str "meets", .int 1, .int 0], .list (.str wd :: ns'.map PyData.int), .tuple [x0], .tuple ((.str wd :: ns'.map PyData.int) ++ [.int 0]), x0]) := by
            refine DqAll.app ?_ ?_
            · exact .cons .non (.cons (.int _) (.cons (.bl _) (.cons (.str _) (.cons (.tup (.inl (.inl (t14 _ _ (x2 _ _ g1)))) .nil) (.cons (.lst m2 (t14 _ _ (x3 _ _ g2)) .nil) (.cons (.emp (t14 _ _ (x4 _ _ g3))) (.cons (.tup (.inl (.inl (t14 _ _ (x5 _ _ g4)))) (.cons (.str _) .nil)) (.cons (.tup (.inl (.inl (t14 _ _ (x6 _ _ g5)))) (.cons (.str _) (.cons (.int _) (.cons (.int _) (.cons (.int _) .nil))))) (.cons (.tup (.inl (.inl (t14 _ _ (x7 _ _ g6)))) (.cons (.str _) (.cons (.int _) (.cons (.int _) .nil)))) .nil)))))))))
            · exact .cons (.tup (.inl (.inl (t14 _ _ (x9 _ _ g8)))) (.cons (.str _) (.cons (.int _) (.cons (.int _) .nil)))) (.cons (.lst m9 (t14 _ _ (x10 _ _ g9)) dqP) (.cons (.tup (.inl (.inl (t14 _ _ (x11 _ _ g10)))) (.cons dq14 .nil)) (.cons (.tup (seT (t13.trans t14) g12) (DqAll.app dqP (.cons (.int _) .nil))) (.cons dq14 .nil))))
          have gint : ∀ i ∈ ns'.map PyData.int, Gd 0 1 i := fun i hi => by
            obtain ⟨n, hn, rfl⟩ := List.mem_map.mp hi
            exact gInt (hb130 n hn)
          have gwd : Gd 0 1 (.str wd) := by rcases hwd with rfl | rfl <;> exact gStr (by decide) (by decide)
          have good : ∀ y ∈ ([PyData.none, .int 0, .bool true, .str "meets", .tuple [], .list [], .dict [], .tuple [.str "meets"], .tuple [.str "misses", .int 0, .int 0, .int 0], .tuple [.str "meets", .int 0, .int 0]] ++ [PyData.tuple [.str "meets", .int 1, .int 0], .list (.str wd :: ns'.map PyData.int), .tuple [x0], .tuple ((.str wd :: ns'.map PyData.int) ++ [.int 0]), x0]), Gd 0 2 y := by
            intro y hy
            simp only [List.cons_append, List.nil_append, List.mem_cons, List.not_mem_nil, or_false] at hy
            rcases hy with rfl | rfl | rfl | rfl | rfl | rfl | rfl | rfl | rfl | rfl | rfl | rfl | rfl | rfl | rfl
            · exact .lf trivial
            · exact gInt0 (by decide)
            · exact .lf trivial
            · exact gStr (by decide) (by decide)
            · exact .tup (Nat.zero_le _) (fun _ h => nomatch h)
            · exact .lst (Nat.zero_le _) (fun _ h => nomatch h)
            · exact .emp
            · exact (paper_gd (ns := []) (.inr rfl) (by decide) (fun _ h => nomatch h)).deep
            · exact (paper_gd (ns := [0, 0, 0]) (.inl rfl) (by decide) (by decide)).deep
            · exact (paper_gd (ns := [0, 0]) (.inr rfl) (by decide) (by decide)).deep
            · exact (paper_gd (ns := [1, 0]) (.inr rfl) (by decide) (by decide)).deep
            · refine .lst (by simp; omega) fun e he => ?_
              rcases List.mem_cons.mp he with rfl | he
              · exact gwd
              · exact gint _ he
            · refine .tup (by simp) fun e he => ?_
              rw [List.mem_singleton.mp he]
              exact gx0
            · refine .tup (by simp; omega) fun e he => ?_
              rcases List.mem_cons.mp he with rfl | he
              · exact gwd
              · rcases List.mem_append.mp he with he | he
                · exact gint _ he
                · rw [List.mem_singleton.mp he]
                  exact gInt0 (by decide)
            · exact gx0.deep
          generalize ([V.non, .int 0, .bl true, .str "meets", .ref o1, .ref o2, .ref o3, .ref o4, .ref o5, .ref o6] ++ [V.ref o7, .ref o8, .ref o9, .ref o11, .ref pp]) = xs at g14 all
          generalize ([PyData.none, .int 0, .bool true, .str "meets", .tuple [], .list [], .dict [], .tuple [.str "meets"], .tuple [.str "misses", .int 0, .int 0, .int 0], .tuple [.str "meets", .int 0, .int 0]] ++ [PyData.tuple [.str "meets", .int 1, .int 0], .list (.str wd :: ns'.map PyData.int), .tuple [x0], .tuple ((.str wd :: ns'.map PyData.int) ++ [.int 0]), x0]) = ds at all good
          refine ⟨OC, rfl, ⟨_, .inl (.inl g14)⟩, for_list (K := K) (a := OC) (xs := xs) (fun k σ' H' => ∃ y11 y12 y13 y14 y15 y16, σ' = [some (.ref a), some (.ref d), some (.int (0 + (i : Int))), some (.ref L), some (.int g), some (.ref al), some (.ref pA), some (.int r0), some (.int (0 + (j : Int))), some vc, some (.ref pp), y11, y12, y13, y14, y15, y16] ∧ Same A14 H') ⟨_, _, _, _, _, _, rfl, .refl _⟩ (fun k σ' H' _ z => by obtain ⟨_, _, _, _, _, _, _, z⟩ := z; exact .inl (.inl (z _ _ g14))) (fun k x σ' HY hx z => ?_) (fun σ' HY z => ?_)⟩
          · obtain ⟨y11, y12, y13, y14, y15, y16, rfl, s19⟩ := z
            obtain ⟨y, my, qy⟩ := DqAll.mem all x (List.mem_of_getElem? hx)
            have gy := good y my
            have sE := vE.trans s19
            refine ⟨_, rfl, _, rfl, _, rfl, _, rfl, g, .ref al, vc, x, r, c, y, rfl, hT15.same sE, hl15.same sE, hc15.same sE, bd, qy.same s19, OkB_of (by decide) gy, gy.rep (by decide) (by decide), fun HZ sz => ⟨_, rfl, iteF ?_⟩⟩
            exact ⟨_, _, _, _, _, _, rfl, s19.trans sz⟩
          · obtain ⟨y11, y12, y13, y14, y15, y16, rfl, s19⟩ := z
            exact ⟨_, _, _, _, _, _, _, _, _, rfl, S615.trans (Step.of S615.deck (vE.trans s19))⟩
      · rintro σ H7 ⟨y8, y9, y10, y11, y12, y13, y14, y15, y16, rfl, S7⟩
        exact ⟨_, _, _, _, _, _, _, _, _, _, _, _, _, _, _, rfl, S7.deck, hT6.step D6 S7⟩
    · rintro σ H2 ⟨y2, y3, y4, y5, y6, y7, y8, y9, y10, y11, y12, y13, y14, y15, y16, rfl, D2, hT2⟩
      exact q _

end
end Cl

set_option maxHeartbeats 0
namespace Cl
open PySem PySem.Spec PyProof.Rows L2
open GxR (TabB TabG)

section
variable {P : Program} {w : World} {K : PySem.W.Frag} {mg : Str → Option Value} {base : Heap}

theorem ok_law_line {f : Addr} {fd : FuncData} (F : Fun K "_law_line" "_law_line" s_law_line f fd) (T : Bt mg) (D_law_draw : Def P w K mg base 1 "_law_draw" ["_law_deck_here", "_law_most"] spDraw) (D_law_unlike : Def P w K mg base 1 "_law_unlike" ["_law_one", "_law_other"] (spUnlike K)) (D_law_point : Def P w K mg base 2 "_law_point" ["_law_deck_here", "_law_grain_here", "_law_way"] (spPointW K)) :
    FnG P w K mg base CX0 3 f fd ["_law_deck_here", "_law_grain_here", "_law_lines_here"] (spLineW K) := by
  refine okG (k := 2) F sc_law_line (fun vs H Q E h => ?_) (fun cdv A outer s H vs Q E hr h => ?_)
  · obtain ⟨d, l, g, L, ws, ls, rfl, _⟩ := h
    rfl
  · obtain ⟨d, l, g, L, ws, ls, rfl, h0, h1, D, nd_, nl_, hL, hall, hlen, q⟩ := h
    refine ⟨_, (pss_cons (ps_set (i := 3) sc_law_line.nd rfl (.inl rfl) (callD D_law_draw (hr.mono (by decide)) (pa_cons (pv 0) (pa_cons pe_int pa_nil))))
      (pss_cons (ps_set (i := 4) sc_law_line.nd rfl (.inl rfl) (callD D_law_point (hr.mono (by decide)) (pa_cons (pv 0) (pa_cons (pv 1) (pa_cons (pe_op op_mod (pv 3) pe_int) pa_nil)))))
      (pss_cons (ps_set (i := 5) sc_law_line.nd rfl (.inl rfl) (callD D_law_point (hr.mono (by decide)) (pa_cons (pv 0) (pa_cons (pv 1) (pa_cons (callD D_law_draw (hr.mono (by decide)) (pa_cons (pv 0) (pa_cons pe_int pa_nil))) pa_nil)))))
      (pss_cons (ps_if (PW.pt (pw_or (pt_cmpR (op_eqD hr.room.units) (pv 2) (lstN pa_nil) (nomark _)) (pw_or1 (pt_cmpR op_lt (pv 3) pe_int (nomark _))))) (pss_one (ps_ret (callD D_law_unlike (hr.mono (by decide)) (pa_cons (pv 4) (pa_cons (pv 5) pa_nil))))) pss_nil)
      (pss_cons (ps_asg (pe_ix ix_list (pv 2) (callD D_law_draw (hr.mono (by decide)) (pa_cons (pv 0) (pa_cons (pe_callB call_len_seq (by rfl) T.len (by decide +kernel) (pa_cons (pv 2) pa_nil)) pa_nil))) (fun _ _ => rfl)) (pg_tup (by rfl) (pgs_cons (pg_tup (by rfl) (pgs_cons (pg_name (i := 6) sc_law_line.nd rfl (.inl rfl)) (pgs_cons (pg_name (i := 7) sc_law_line.nd rfl (.inl rfl)) pgs_nil))) (pgs_cons (pg_tup (by rfl) (pgs_cons (pg_name (i := 8) sc_law_line.nd rfl (.inl rfl)) (pgs_cons (pg_name (i := 9) sc_law_line.nd rfl (.inl rfl)) pgs_nil))) pgs_nil))))
      (pss_cons (ps_if (pt_cmpR op_gt (pe_callB (cr_max rfl) (by rfl) T.max (by decide +kernel) (pa_cons (pe_lc (own := [("_law_number", 10)]) (g := gName 10) (tt := tYes) (by rfl) sc_law_line.nd (pi_tup (tupN (pa_cons (pv 6) (pa_cons (pv 7) (pa_cons (pv 8) (pa_cons (pv 9) pa_nil)))))) (blkOk_by (own := [("_law_number", 10)]) (N := ["_law_deck_here", "_law_grain_here", "_law_lines_here", "_law_way", "_law_one", "_law_other", "_law_x", "_law_y", "_law_u", "_law_v", "_law_number"]) (sc := defScope s_law_line) (by decide +kernel)) (fun _ _ _ _ _ => (pg_name (i := 10) sc_law_line.nd rfl (.inl rfl))) (fun _ _ _ _ _ => pts_nil) (fun _ _ _ _ _ => (pe_callB call_abs (by rfl) T.abs (by decide +kernel) (pa_cons (pv 10) pa_nil)))) pa_nil)) (pe_op op_mul pe_int (pv 1)) (nomark _)) (pss_one (ps_ret (callD D_law_unlike (hr.mono (by decide)) (pa_cons (pv 4) (pa_cons (pv 5) pa_nil))))) pss_nil)
      (pss_cons (ps_if (pt_cmpR op_eq (pv 3) pe_int (nomark _)) (pss_one (ps_ret (callD D_law_unlike (hr.mono (by decide)) (pa_cons (tupN (pa_cons (pv 8) (pa_cons (pv 9) pa_nil))) (pa_cons (pv 5) pa_nil))))) pss_nil)
      (pss_cons (ps_if (pt_cmpR op_eq (pv 3) pe_int (nomark _)) (pss_one (ps_ret (callD D_law_unlike (hr.mono (by decide)) (pa_cons (pv 4) (pa_cons (tupN (pa_cons (pe_op op_sub (pe_op op_add (pv 6) (pv 8)) (pe_ix ix_tup (pv 4) pe_int (fun _ _ => rfl))) (pa_cons (pe_op op_sub (pe_op op_add (pv 7) (pv 9)) (pe_ix ix_tup (pv 4) pe_int (fun _ _ => rfl))) pa_nil))) pa_nil))))) pss_nil)
      (pss_cons (ps_if (pt_cmpR op_eq (pv 3) pe_int (nomark _)) (pss_one (ps_ret (tupN (pa_cons (tupN (pa_cons (pv 8) (pa_cons (pv 9) pa_nil))) (pa_cons (tupN (pa_cons (pe_op op_sub (pe_op op_mul pe_int (pv 8)) (pv 6)) (pa_cons (pe_op op_sub (pe_op op_mul pe_int (pv 9)) (pv 7)) pa_nil))) pa_nil))))) pss_nil)
      (pss_one (ps_ret (pe_ix ix_list (lstN (pa_cons (tupN (pa_cons (tupN (pa_cons (pv 6) (pa_cons (pv 7) pa_nil))) (pa_cons (tupN (pa_cons (pv 8) (pa_cons (pv 9) pa_nil))) pa_nil))) (pa_cons (tupN (pa_cons (tupN (pa_cons (pv 8) (pa_cons (pv 9) pa_nil))) (pa_cons (tupN (pa_cons (pv 6) (pa_cons (pv 7) pa_nil))) pa_nil))) (pa_cons (tupN (pa_cons (tupN (pa_cons (pv 6) (pa_cons (pv 7) pa_nil))) (pa_cons (tupN (pa_cons (pe_op op_sub (pe_op op_mul pe_int (pv 8)) (pv 6)) (pa_cons (pe_op op_sub (pe_op op_mul pe_int (pv 9)) (pv 7)) pa_nil))) pa_nil))) pa_nil)))) (callD D_law_draw (hr.mono (by decide)) (pa_cons (pv 0) (pa_cons pe_int pa_nil))) (fun _ _ => rfl))))))))))))), ?_⟩
    have lw := hall.length
    refine ⟨.ref d, rfl, d, l, 9, rfl, by decide, by decide, D, fun way H1 w0 w1 S1 => ?_⟩
    refine ⟨.ref d, rfl, _, rfl, _, rfl, _, _, rfl, rfl, (by show (0 : Int) < 4; decide), d, l, g, _, rfl, h0, h1, S1.deck, fun m1 H2 p S2 e2 b2 => ?_⟩
    refine ⟨.ref d, rfl, _, rfl, .ref d, rfl, d, l, 4, rfl, by decide, by decide, S2.deck, fun w2 Hw w20 w21 Sw => ⟨d, l, g, w2, rfl, h0, h1, Sw.deck, fun m2 H3 p2 S3 e3 b3 => ?_⟩⟩
    have S := ((S1.trans S2).trans Sw).trans S3
    have D3 := S3.deck
    have f2 := e2.step (Sw.trans S3) S2.deck
    have hL3 := S.at nd_ nl_ hL
    unfold BdN at b2 b3
    have all3 : AllAt (AtL K H3) ws ls := hall.map fun _ _ z => z.step S D
    have un : ∀ {H4 : Hp} {m n : V} {p p2 : Pt}, Step d l H3 H4 → At2 K H4 m p → At2 K H4 n p2 → BdN 50000 p → BdN 50000 p2 → spUnlike K [m, n] H4 Q E0 := fun {H4 m n p p2} S4 a1 a2 b1 b2 =>
      ⟨m, n, p, p2, rfl, a1, a2, fun w H5 r' s5 e5 r1 r2 r3 => q _ _ _ ((S.trans S4).trans (Step.of S4.deck s5)) e5 ⟨by rw [r1]; unfold BdN at *; omega, by rcases r3 with z | z <;> rw [z] <;> unfold BdN at * <;> (try simp only) <;> omega⟩⟩
    have un0 : ∀ {H4 : Hp}, Step d l H3 H4 → spUnlike K [m1, m2] H4 Q E0 := fun {H4} S4 => un S4 (f2.step S4 D3) (e3.step S4 D3) (by unfold BdN; omega) (by unfold BdN; omega)
    have ln : ∀ {m n : V} {p p3 : Pt} {pp : Addr} {H4 H5 : Hp}, Step d l H3 H4 → Same H4 H5 → H5 pp = some (.tup [m, n]) → At2 K H5 m p → At2 K H5 n p3 → BdR 60000 (p, p3) → Q (.ref pp) H5 := fun {m n p p3 pp H4 H5} S4 s e h1 h2 gd =>
      q _ _ (p, p3) ((S.trans S4).trans (Step.of S4.deck s)) ⟨pp, m, n, rfl, .inl (.inl e), h1, h2⟩ gd
    refine ⟨_, rfl, Nat.zero_le _, fun pe He ne se ge => ?_⟩
    have Se := Step.of D3 se
    refine ⟨_, _, .lst (.inl (.inl (se _ _ hL3))) (lines_dp (all3.map fun _ _ z => z.same se)), .lst (.inl (.inl ge)) .nil, shapedLines ls, rfl, _, rfl, ?_⟩
    show if PyData.eqv (.list (ls.map dl)) (.list []) = true then _ else _
    rw [eqvNilL]
    refine ite2 (fun e => iteT ⟨_, rfl, _, rfl, un0 Se⟩) (fun e => ?_)
    have npos : 0 < ls.length := by
      cases ls with
      | nil => exact absurd rfl e
      | cons a b => simp
    refine ⟨_, rfl, _, _, rfl, rfl, _, rfl, ite2 (fun e => ⟨_, rfl, _, rfl, un0 Se⟩) (fun e => ?_)⟩
    -- line = lines[draw(len(lines))]
    refine ⟨_, rfl, .ref d, rfl, _, rfl, L, _, rfl, .inl (.inl (.inl (se _ _ hL3))), d, l, _, rfl, by omega, by omega, Se.deck, fun i H4 i0 i1 S4 => ?_⟩
    have Sx := Se.trans S4
    have hL4 := S4.at nd_ nl_ (se _ _ hL3)
    have i2 : i.toNat < ws.length := by omega
    obtain ⟨v, hv⟩ : ∃ v, ws[i.toNat]? = some v := ⟨_, List.getElem?_eq_getElem i2⟩
    obtain ⟨r, hr_, hvr⟩ := (all3.map fun _ _ z => z.step Sx D3).get hv
    have ei : i = (i.toNat : Int) := by omega
    refine ⟨L, ws, i, v, rfl, rfl, .inl (.inl hL4), by rw [ei]; exact atI_nat hv, ?_⟩
    obtain ⟨a, _, _, ea, hS, ⟨b, rfl, hb⟩, ⟨c, rfl, hc⟩⟩ := id hvr
    subst ea
    refine ⟨a, _, rfl, hS, rfl, _, _, rfl, b, _, rfl, hb, rfl, _, _, rfl, _, _, rfl, rfl, _, _, rfl, c, _, rfl, hc, rfl, _, _, rfl, _, _, rfl, rfl, rfl, ?_⟩
    -- max(abs ..)
    refine ⟨_, rfl, _, rfl, _, rfl, _, rfl, (by show 4 ≤ sizeLine; decide), fun p5 H5 n5 s5 g5 => ⟨p5, rfl, ⟨_, .inl (.inl g5)⟩, fun pD nD => ?_⟩⟩
    refine lcT (K := K) (a := p5) (xs := [.int r.1.1, .int r.1.2, .int r.2.1, .int r.2.2]) (fun i H' => Same H5 H' ∧ H' pD = some (.lst ((([r.1.1, r.1.2, r.2.1, r.2.2].take i).map fun z : Int => if z < 0 then -z else z).map V.int))) nD (fun H' e1 e2 => ⟨e1, e2⟩) (fun i H' _ z => seT z.1 (.inl (.inl g5))) (fun i z H' hz w => ?_) (fun H6 z => ?_)
    · obtain ⟨t1, t2⟩ := w
      have hk : ∃ k : Int, z = .int k ∧ [r.1.1, r.1.2, r.2.1, r.2.2][i]? = some k := by
        match i, hz with
        | 0, hz => exact ⟨_, (Option.some.inj hz).symm, rfl⟩
        | 1, hz => exact ⟨_, (Option.some.inj hz).symm, rfl⟩
        | 2, hz => exact ⟨_, (Option.some.inj hz).symm, rfl⟩
        | 3, hz => exact ⟨_, (Option.some.inj hz).symm, rfl⟩
        | i + 4, hz => cases hz
      obtain ⟨k, rfl, hk⟩ := hk
      refine ⟨rfl, _, rfl, _, rfl, _, t2, ?_, ?_, ?_⟩
      · rw [List.length_map, List.length_map, List.length_take]; exact small1000 (by show min i 4 ≤ 1000; omega)
      · intro b o e
        rw [upd_ne (ne_of_none e nD)]
        exact t1 _ _ e
      · rw [upd_same, List.take_add_one, hk, List.map_append, List.map_append]
        rfl
    · obtain ⟨t1, t2⟩ := z
      refine ⟨pD, _, rfl, .inl (.inl t2), by simp, fun m hm hle => ?_⟩
      have S6 := Sx.trans (Step.of S4.deck (s5.trans t1))
      have s46 := s5.trans t1
      refine ⟨_, rfl, _, _, rfl, rfl, .inl (by decide), _, _, rfl, rfl, _, rfl, ite2 (fun e => ⟨_, rfl, _, rfl, un0 S6⟩) (fun e => ?_)⟩
      have em : ¬ (12 * g < m) := fun z => e (decide_eq_true z)
      have bd : ∀ z ∈ [r.1.1, r.1.2, r.2.1, r.2.2], -12000 ≤ z ∧ z ≤ 12000 := fun z hz => by
        have := hle _ (List.mem_map.mpr ⟨z, hz, rfl⟩)
        split at this <;> omega
      have c1 := bd r.1.1 (by simp)
      have c2 := bd r.1.2 (by simp)
      have c3 := bd r.2.1 (by simp)
      have c4 := bd r.2.2 (by simp)
      refine ⟨_, rfl, rfl, _, rfl, ite2 (fun e => ?_) (fun e => ?_)⟩
      · refine ⟨_, rfl, _, rfl, (by show 2 ≤ sizeLine; decide), fun p7 H7 n7 s7 g7 => ⟨_, rfl, ?_⟩⟩
        have S7 := S6.trans (Step.of S6.deck s7)
        exact un (p := r.2) S7 ⟨p7, rfl, .inl (.inl g7)⟩ (e3.step S7 D3) (by unfold BdN; omega) (by unfold BdN; omega)
      refine ⟨_, rfl, rfl, _, rfl, ite2 (fun e => ?_) (fun e => ?_)⟩
      · obtain ⟨a2, ea2, ha2⟩ := f2.step S6 D3
        subst ea2
        refine ⟨_, rfl, _, rfl, _, rfl, _, _, rfl, rfl, _, rfl, a2, _, 0, _, rfl, rfl, ha2, rfl, _, _, rfl, rfl, _, rfl, _, rfl, _, _, rfl, rfl, _, rfl, a2, _, 1, _, rfl, rfl, ha2, rfl, _, _, rfl, rfl, (by show 2 ≤ sizeLine; decide), fun p7 H7 n7 s7 g7 => ?_⟩
        have S7 := S6.trans (Step.of S6.deck s7)
        exact un (p2 := (r.1.1 + r.2.1 - p.1, r.1.2 + r.2.2 - p.2)) S7 ⟨a2, rfl, seT s7 ha2⟩ ⟨p7, rfl, .inl (.inl g7)⟩ (by unfold BdN; omega) (by unfold BdN; simp only; omega)
      refine ⟨_, rfl, rfl, _, rfl, ite2 (fun e => ?_) (fun e => ?_)⟩
      · refine ⟨_, rfl, _, rfl, (by show 2 ≤ sizeLine; decide), fun p7 H7 n7 s7 g7 => ?_⟩
        refine ⟨_, rfl, _, _, rfl, rfl, .inl (by decide), _, rfl, _, _, rfl, rfl, _, rfl, _, _, rfl, rfl, .inl (by decide), _, rfl, _, _, rfl, rfl, (by show 2 ≤ sizeLine; decide), fun p8 H8 n8 s8 g8 => ⟨(by show 2 ≤ sizeLine; decide), fun p9 H9 n9 s9 g9 => ?_⟩⟩
        exact ln (p := r.2) (p3 := (2 * r.2.1 - r.1.1, 2 * r.2.2 - r.1.2)) S6 ((s7.trans s8).trans s9) g9 ⟨p7, rfl, .inl (.inl ((s8.trans s9) _ _ g7))⟩ ⟨p8, rfl, .inl (.inl (s9 _ _ g8))⟩ ⟨by unfold BdN; simp only; omega, by unfold BdN; simp only; omega⟩
      · refine ⟨_, rfl, _, rfl, (by show 2 ≤ sizeLine; decide), fun q1 G1 m1_ t1_ k1 => ⟨_, rfl, _, rfl, (by show 2 ≤ sizeLine; decide), fun q2 G2 m2_ t2_ k2 => ⟨(by show 2 ≤ sizeLine; decide), fun q3 G3 m3_ t3_ k3 => ?_⟩⟩⟩
        refine ⟨_, rfl, _, rfl, (by show 2 ≤ sizeLine; decide), fun q4 G4 m4_ t4_ k4 => ⟨_, rfl, _, rfl, (by show 2 ≤ sizeLine; decide), fun q5 G5 m5_ t5_ k5 => ⟨(by show 2 ≤ sizeLine; decide), fun q6 G6 m6_ t6_ k6 => ?_⟩⟩⟩
        refine ⟨_, rfl, _, rfl, (by show 2 ≤ sizeLine; decide), fun q7 G7 m7_ t7_ k7 => ?_⟩
        refine ⟨_, rfl, _, _, rfl, rfl, .inl (by decide), _, rfl, _, _, rfl, rfl, _, rfl, _, _, rfl, rfl, .inl (by decide), _, rfl, _, _, rfl, rfl, (by show 2 ≤ sizeLine; decide), fun q8 G8 m8_ t8_ k8 => ⟨(by show 2 ≤ sizeLine; decide), fun q9 G9 m9_ t9_ k9 => ⟨(by show 3 ≤ sizeLine; decide), fun q0 G0 m0_ t0_ k0 => ?_⟩⟩⟩
        have u90 := t0_
        have u80 := t9_.trans u90
        have u70 := t8_.trans u80
        have u60 := t7_.trans u70
        have u50 := t6_.trans u60
        have u40 := t5_.trans u50
        have u30 := t4_.trans u40
        have u20 := t3_.trans u30
        have u10 := t2_.trans u20
        have u00 := t1_.trans u10
        have S0 := S6.trans (Step.of S6.deck u00)
        refine ⟨.ref d, rfl, d, l, 3, rfl, by decide, by decide, S0.deck, fun j Hj j0 j1 Sj => ?_⟩
        have np := (S6.trans (Step.of S6.deck (((((((((t1_.trans t2_).trans t3_).trans t4_).trans t5_).trans t6_).trans t7_).trans t8_).trans t9_)))).deck.nd m0_
        have k0' := Sj.at np.1 np.2 k0
        have D0 := S0.deck
        have Sfin := S.trans (S0.trans Sj)
        obtain rfl | rfl | rfl : j = 0 ∨ j = 1 ∨ j = 2 := by omega
        · refine ⟨q0, _, 0, _, rfl, rfl, .inl (.inl k0'), rfl, q _ _ r Sfin (AtL.step ⟨q3, _, _, rfl, .inl (.inl (u30 _ _ k3)), ⟨q1, rfl, .inl (.inl (u10 _ _ k1))⟩, ⟨q2, rfl, .inl (.inl (u20 _ _ k2))⟩⟩ Sj D0) ⟨by unfold BdN; omega, by unfold BdN; omega⟩⟩
        · refine ⟨q0, _, 1, _, rfl, rfl, .inl (.inl k0'), rfl, q _ _ (r.2, r.1) Sfin (AtL.step ⟨q6, _, _, rfl, .inl (.inl (u60 _ _ k6)), ⟨q4, rfl, .inl (.inl (u40 _ _ k4))⟩, ⟨q5, rfl, .inl (.inl (u50 _ _ k5))⟩⟩ Sj D0) ⟨by unfold BdN; simp only; omega, by unfold BdN; simp only; omega⟩⟩
        · refine ⟨q0, _, 2, _, rfl, rfl, .inl (.inl k0'), rfl, q _ _ (r.1, (2 * r.2.1 - r.1.1, 2 * r.2.2 - r.1.2)) Sfin (AtL.step ⟨q9, _, _, rfl, .inl (.inl (u90 _ _ k9)), ⟨q7, rfl, .inl (.inl (u70 _ _ k7))⟩, ⟨q8, rfl, .inl (.inl (u80 _ _ k8))⟩⟩ Sj D0) ⟨by unfold BdN; simp only; omega, by unfold BdN; simp only; omega⟩⟩

theorem ok_law_lines {f : Addr} {fd : FuncData} (F : Fun K "_law_lines" "_law_lines" s_law_lines f fd) (T : Bt mg) (D_law_draw : Def P w K mg base 1 "_law_draw" ["_law_deck_here", "_law_most"] spDraw) (D_law_line : Def P w K mg base 3 "_law_line" ["_law_deck_here", "_law_grain_here", "_law_lines_here"] (spLineW K)) :
    FnG P w K mg base CX0 4 f fd ["_law_deck_here", "_law_grain_here", "_law_many"] (spLinesW K) := by
  refine okG (k := 3) F sc_law_lines (fun vs H Q E h => ?_) (fun cdv A outer s H vs Q E hr h => ?_)
  · obtain ⟨d, l, g, n, rfl, _⟩ := h
    rfl
  · obtain ⟨d, l, g, n, rfl, h0, h1, hn0, hn1, D, q⟩ := h
    refine ⟨_, (pss_cons (ps_set (i := 3) sc_law_lines.nd rfl (.inl rfl) (lstN pa_nil))
      (pss_cons (ps_for PassesOwn.never rfl (pi_range1 (by rfl) T.range (pa_cons (pv 2) pa_nil)) (pg_name (i := 4) sc_law_lines.nd rfl (.inl rfl)) (pss_one (ps_expr (pe_bm PySem.F.plainAttrs_list PySem.F.slot_list_append PySem.F.type_list_append mt_append (pv 3) (pa_cons (callD D_law_line (hr.mono (by decide)) (pa_cons (pv 0) (pa_cons (pv 1) (pa_cons (pv 3) pa_nil)))) pa_nil)))))
      (pss_one (ps_ret (pe_callTy call_tuple_ofN (by rfl) T.tuple (by decide +kernel) (pa_cons (pv 3) pa_nil)))))), ?_⟩
    refine ⟨Nat.zero_le _, fun L H4 n4 s4 g4 => ?_⟩
    have nL := D.nd n4
    refine ⟨_, rfl, n, rfl, by omega, by omega, for_range (n := n) (fun i σ H' => ∃ y4, σ = [some (.ref d), some (.int g), some (.int n), some (.ref L), y4] ∧ Step d l H H' ∧
        ∃ ws ls, H' L = some (.lst ws) ∧ AllAt (AtL K H') ws ls ∧ ls.length = i ∧ ∀ r ∈ ls, BdR 60000 r) ?_ ?_ ?_⟩
    · exact ⟨_, rfl, Step.of D s4, [], [], g4, .nil, rfl, fun r hr => nomatch hr⟩
    · rintro i σ H5 hi ⟨y4, rfl, S5, ws, ls, eL, hall, hlen, hgood⟩
      refine ⟨.ref L, rfl, .inl ⟨rfl, _, .inl (.inl eL)⟩, .ref d, rfl, _, rfl, _, rfl, d, l, g, L, ws, ls, rfl, h0, h1, S5.deck, nL.1, nL.2, eL, hall, by omega, fun w H6 r S6 e6 g6 => ?_⟩
      have eL6 := S6.at nL.1 nL.2 eL
      refine ⟨L, _, w, rfl, rfl, eL6, by rw [hall.length, hlen]; exact small1000 (by omega), ?_⟩
      refine ⟨_, rfl, (S5.trans S6).updN nL.1 nL.2 n4, ws ++ [w], ls ++ [r], upd_same, AllAt.app (hall.map fun _ _ z => AtL.upd (z.step S6 S5.deck) eL6) (.cons (AtL.upd e6 eL6) .nil), by rw [List.length_append, hlen]; rfl, fun r' hr => ?_⟩
      rcases List.mem_append.mp hr with z | z
      · exact hgood r' z
      · rw [List.mem_singleton.mp z]; exact g6
    · rintro σ H5 ⟨y4, rfl, S5, ws, ls, eL, hall, hlen, hgood⟩
      refine ⟨_, rfl, L, _, rfl, .inl (.inl eL), fun p6 H6 n6 s6 g6 => ?_⟩
      exact q _ _ ls (S5.trans (Step.of S5.deck s6)) ⟨p6, ws, rfl, .inl (.inl g6), hall.map fun _ _ z => z.same s6⟩ hlen hgood

end
end Cl

set_option maxHeartbeats 0
namespace Cl
open PySem PySem.Spec PyProof.Rows L2
open GxR (TabB TabG)

section
variable {P : Program} {w : World} {K : PySem.W.Frag} {mg : Str → Option Value} {base : Heap}

theorem okG_law_is_paper {f : Addr} {fd : FuncData} (F : Fun K "_law_is_paper" "_law_is_paper" s_law_is_paper f fd) (T : Bt mg) (D_law_is_whole : Def P w K mg base 1 "_law_is_whole" ["_law_thing"] (spWhole K)) :
    FnG P w K mg base CX0 2 f fd ["_law_grain_here", "_law_line_here", "_law_corner", "_law_thing"] (spCPapG K) := by
  refine okG (k := 1) F sc_law_is_paper (fun vs H Q E h => ?_) (fun cdv A outer s H vs Q E hr h => ?_)
  · obtain ⟨g, v, u, w, r, c, d, rfl, _⟩ := h
    rfl
  · obtain ⟨g, v, u, w, r, c, d, rfl, hL, hc, bd, hd, ob, Q1⟩ := h
    refine ⟨_, (pss_cons (ps_if (PW.pt (pw_or (pt_not (pt_val (pe_callB call_isi (by rfl) T.isinstance (by decide +kernel) (pa_cons (pv 3) (pa_cons (pe_bltn (v := .ty "tuple") (by rfl) T.tuple (by decide +kernel) rfl) pa_nil))))) (pw_or (pt_cmpR (op_eqTNil hr.room.units) (pv 3) (tupN pa_nil) (nomark _)) (pw_or1 (pt_not (pt_val (pe_callB call_isi (by rfl) T.isinstance (by decide +kernel) (pa_cons (pe_ix ix_tup (pv 3) pe_int (fun _ _ => rfl)) (pa_cons (pe_bltn (v := .ty "str") (by rfl) T.str (by decide +kernel) rfl) pa_nil))))))))) (pss_one (ps_ret pe_bl)) pss_nil)
      (pss_cons (ps_if (pt_cmpR (op_neLNil hr.room.units) (pe_lc (own := [("_law_one", 4)]) (g := gName 4) (by rfl) sc_law_is_paper.nd (pi_tup (pe_slice sl_tupB (pv 3) (po_some pe_int) po_none)) (blkOk_by (own := [("_law_one", 4)]) (N := ["_law_grain_here", "_law_line_here", "_law_corner", "_law_thing", "_law_one", "_law_sides", "_law_k", "_law_m", "_law_at", "_law_a", "_law_b", "_law_inside", "_law_side", "_law_word", "_law_p", "_law_q", "_law_r", "_law_x", "_law_y", "_law_most"]) (sc := defScope s_law_is_paper) (by decide +kernel)) (fun _ _ _ _ _ => (pg_name (i := 4) sc_law_is_paper.nd rfl (.inl rfl))) (fun _ _ _ _ _ => (pts_one (pt_not (pt_val (callD D_law_is_whole (hr.mono (by decide)) (pa_cons (pv 4) pa_nil)))))) (fun _ _ _ _ _ => (pv 4))) (lstN pa_nil) (nomark _)) (pss_one (ps_ret pe_bl)) pss_nil)
      (pss_cons (ps_setLc (i := 5) (own := [("_law_k", 6)]) (g := gName 6) (tt := tYes) (by rfl) sc_law_is_paper.nd rfl rfl (sw_true rfl rfl rfl (by decide +kernel)) (pi_tup (pv 2)) (blkOk_by (own := [("_law_k", 6)]) (N := ["_law_grain_here", "_law_line_here", "_law_corner", "_law_thing", "_law_one", "_law_sides", "_law_k", "_law_m", "_law_at", "_law_a", "_law_b", "_law_inside", "_law_side", "_law_word", "_law_p", "_law_q", "_law_r", "_law_x", "_law_y", "_law_most"]) (sc := defScope s_law_is_paper) (by decide +kernel)) (fun _ _ _ _ _ => (pg_name (i := 6) sc_law_is_paper.nd rfl (.inl rfl))) (fun _ _ _ _ _ => pts_nil) (fun _ _ _ _ _ => (tupN (pa_cons (pe_op op_mul (pe_op op_sub (pe_op op_mul pe_int (pv 6)) pe_int) (pv 0)) (pa_cons (pe_op op_mul (pe_op op_add (pe_op op_mul pe_int (pv 6)) pe_int) (pv 0)) pa_nil)))))
      (pss_cons (ps_if (PW.pt (pw_and (pt_cmpR op_eq (pe_ix ix_tup (pv 3) pe_int (fun _ _ => rfl)) pe_str (nomark _)) (pw_and1 (pt_cmpR op_eq (pe_callB call_len_seq (by rfl) T.len (by decide +kernel) (pa_cons (pv 3) pa_nil)) pe_int (nomark _))))) (pss_cons (ps_asg (pe_slice sl_tupB (pv 3) (po_some pe_int) po_none) (pg_tup (by rfl) (pgs_cons (pg_name (i := 6) sc_law_is_paper.nd rfl (.inr rfl)) (pgs_cons (pg_name (i := 7) sc_law_is_paper.nd rfl (.inr rfl)) pgs_nil))))
      (pss_cons (ps_setLc (i := 8) (own := [("_law_a", 9), ("_law_b", 10)]) (g := gTup K 2 (gCons (gName 9) (gCons (gName 10) gNil))) (tt := tYes) (by rfl) sc_law_is_paper.nd rfl rfl (sw_true rfl rfl rfl (by decide +kernel)) (RZ.pi_zipA (by rfl) T.zip (pa_cons (pe_ix ix_tup (pv 1) pe_int (fun _ _ => rfl)) (pa_cons (pe_ix ix_tup (pv 1) pe_int (fun _ _ => rfl)) pa_nil))) (blkOk_by (own := [("_law_a", 9), ("_law_b", 10)]) (N := ["_law_grain_here", "_law_line_here", "_law_corner", "_law_thing", "_law_one", "_law_sides", "_law_k", "_law_m", "_law_at", "_law_a", "_law_b", "_law_inside", "_law_side", "_law_word", "_law_p", "_law_q", "_law_r", "_law_x", "_law_y", "_law_most"]) (sc := defScope s_law_is_paper) (by decide +kernel)) (fun _ _ _ _ _ => (pg_tup (by rfl) (pgs_cons (pg_name (i := 9) sc_law_is_paper.nd rfl (.inl rfl)) (pgs_cons (pg_name (i := 10) sc_law_is_paper.nd rfl (.inl rfl)) pgs_nil)))) (fun _ _ _ _ _ => pts_nil) (fun _ _ _ _ _ => (pe_op op_add (pe_op op_mul (pe_op op_mul pe_int (pv 9)) (pv 7)) (pe_op op_mul (pe_op op_mul pe_int (pe_op op_sub (pv 10) (pv 9))) (pv 6)))))
      (pss_cons (ps_setLc (i := 11) (own := [("_law_one", 4), ("_law_side", 12)]) (g := gTup K 2 (gCons (gName 4) (gCons (gName 12) gNil))) (tt := tYes) (by rfl) sc_law_is_paper.nd rfl rfl (sw_true rfl rfl rfl (by decide +kernel)) (pi_zip (by rfl) T.zip (pa_cons (pv 8) (pa_cons (pv 5) pa_nil))) (blkOk_by (own := [("_law_one", 4), ("_law_side", 12)]) (N := ["_law_grain_here", "_law_line_here", "_law_corner", "_law_thing", "_law_one", "_law_sides", "_law_k", "_law_m", "_law_at", "_law_a", "_law_b", "_law_inside", "_law_side", "_law_word", "_law_p", "_law_q", "_law_r", "_law_x", "_law_y", "_law_most"]) (sc := defScope s_law_is_paper) (by decide +kernel)) (fun _ _ _ _ _ => (pg_tup (by rfl) (pgs_cons (pg_name (i := 4) sc_law_is_paper.nd rfl (.inl rfl)) (pgs_cons (pg_name (i := 12) sc_law_is_paper.nd rfl (.inl rfl)) pgs_nil)))) (fun _ _ _ _ _ => pts_nil) (fun _ _ _ _ _ => (pe_chain op_le op_lt (pe_op op_mul (pe_ix (ix_tupk (K := K) rfl) (pv 12) pe_int (fun _ _ => rfl)) (pv 7)) (pv 4) (pe_op op_mul (pe_ix (ix_tupk (K := K) rfl) (pv 12) pe_int (fun _ _ => rfl)) (pv 7)))))
      (pss_one (ps_ret (pe_and (pe_cmpR op_gt (pv 7) pe_int (nomark _)) (pe_and (pe_chain op_le op_le pe_int (pv 6) (pv 7)) (pe_one (pe_cmpR (op_eqD hr.room.units) (pv 11) (lstN (pa_cons pe_bl (pa_cons pe_bl pa_nil))) (nomark _)))))))))) pss_nil)
      (pss_cons (ps_if (PW.pt (pw_or (pt_cmpR op_ne (pe_ix ix_tup (pv 3) pe_int (fun _ _ => rfl)) pe_str (nomark _)) (pw_or (pt_cmpR op_ne (pe_callB call_len_seq (by rfl) T.len (by decide +kernel) (pa_cons (pv 3) pa_nil)) pe_int (nomark _)) (pw_or1 (PW.pt (pw_and (pt_cmpR op_eq (pe_ix ix_tup (pv 3) pe_int (fun _ _ => rfl)) pe_int (nomark _)) (pw_and1 (pt_cmpR op_eq (pe_ix ix_tup (pv 3) pe_int (fun _ _ => rfl)) pe_int (nomark _))))))))) (pss_one (ps_ret pe_bl)) pss_nil)
      (pss_cons (ps_asg (pv 3) (pg_tup (by rfl) (pgs_cons (pg_name (i := 13) sc_law_is_paper.nd rfl (.inl rfl)) (pgs_cons (pg_name (i := 14) sc_law_is_paper.nd rfl (.inr rfl)) (pgs_cons (pg_name (i := 15) sc_law_is_paper.nd rfl (.inr rfl)) (pgs_cons (pg_name (i := 16) sc_law_is_paper.nd rfl (.inr rfl)) pgs_nil))))))
      (pss_cons (ps_if (pt_cmpR (op_neD hr.room.units) (pe_lc (own := [("_law_x", 17), ("_law_y", 18)]) (g := gTup K 2 (gCons (gName 17) (gCons (gName 18) gNil))) (by rfl) sc_law_is_paper.nd (pi_tup (pv 1)) (blkOk_by (own := [("_law_x", 17), ("_law_y", 18)]) (N := ["_law_grain_here", "_law_line_here", "_law_corner", "_law_thing", "_law_one", "_law_sides", "_law_k", "_law_m", "_law_at", "_law_a", "_law_b", "_law_inside", "_law_side", "_law_word", "_law_p", "_law_q", "_law_r", "_law_x", "_law_y", "_law_most"]) (sc := defScope s_law_is_paper) (by decide +kernel)) (fun _ _ _ _ _ => (pg_tup (by rfl) (pgs_cons (pg_name (i := 17) sc_law_is_paper.nd rfl (.inl rfl)) (pgs_cons (pg_name (i := 18) sc_law_is_paper.nd rfl (.inl rfl)) pgs_nil)))) (fun _ _ _ _ _ => (pts_one (pt_cmpR op_lt (pe_op op_add (pe_op op_mul (pe_op op_mul pe_int (pv 14)) (pv 17)) (pe_op op_mul (pe_op op_mul pe_int (pv 15)) (pv 18))) (pv 16) (nomark _)))) (fun _ _ _ _ _ => pe_int)) (lstN pa_nil) (nomark _)) (pss_one (ps_ret pe_bl)) pss_nil)
      (pss_cons (ps_set (i := 19) sc_law_is_paper.nd rfl (.inl rfl) (pe_op op_add (pe_op op_mul (pv 14) (pe_ix ix_tup (pe_ix ix_list (pv 5) pe_int (fun _ _ => rfl)) (pe_callTy call_int1 (by rfl) T.int (by decide +kernel) (pa_cons (pe_cmpR op_gt (pv 14) pe_int (nomark _)) pa_nil)) (fun _ _ => rfl))) (pe_op op_mul (pv 15) (pe_ix ix_tup (pe_ix ix_list (pv 5) pe_int (fun _ _ => rfl)) (pe_callTy call_int1 (by rfl) T.int (by decide +kernel) (pa_cons (pe_cmpR op_gt (pv 15) pe_int (nomark _)) pa_nil)) (fun _ _ => rfl)))))
      (pss_one (ps_ret (pe_or (pe_cmpR op_lt (pv 19) (pv 16) (nomark _)) (pe_one (pe_and (pe_cmpR op_eq (pv 19) (pv 16) (nomark _)) (pe_one (pe_or (pe_cmpR op_gt (pv 14) pe_int (nomark _)) (pe_one (pe_cmpR op_gt (pv 15) pe_int (nomark _)))))))))))))))))), ?_⟩
    obtain ⟨g0, g1, bd1, bd2, bd3⟩ := id bd
    obtain ⟨⟨x1, x2⟩, x3, x4⟩ := bd1
    obtain ⟨⟨x5, x6⟩, x7, x8⟩ := bd2
    obtain ⟨⟨c1, c2⟩, c3, c4⟩ := bd3
    obtain ⟨rx1, rx2, rx3, rx4⟩ := rim_b g0 g1 c1 c2
    obtain ⟨ry1, ry2, ry3, ry4⟩ := rim_b g0 g1 c3 c4
    cases hpo : papOf d with
    | some pr =>
    obtain ⟨wd, ns⟩ := pr
    rw [metG_some hpo, misG_some hpo] at Q1
    have hp := papOf_pap hpo hd
    obtain ⟨hb, sh⟩ := ob.1 _ _ hpo
    simp only at Q1
    obtain ⟨a, rfl, hS⟩ := hp
    obtain ⟨cc, rfl, hcc⟩ := hc
    refine ⟨_, rfl, _, _, _, _, _, rfl, .ty _, (Kd.tup hS).ty, kit_ty (Kd.tup hS).tuple?, _, rfl, iteF ?_⟩
    refine ⟨_, rfl, Nat.zero_le _, fun p1 H1 n1 s1 e1 => ?_⟩
    refine ⟨a, p1, _, rfl, rfl, seT s1 hS, .inl (.inl e1), _, rfl, iteF ?_⟩
    have kS : Kd K H1 (.str wd) "str" := .str wd
    refine ⟨_, rfl, a, _, 0, _, rfl, rfl, seT s1 hS, atI_nat (j := 0) rfl, _, _, _, _, _, rfl, .ty _, kS.ty, kit_ty kS.str?, _, rfl, iteF ?_⟩
    refine ⟨.ref a, rfl, _, rfl, a, _, rfl, seT s1 hS, fun p2 H2 s2 e2 => ?_⟩
    rw [cut_rest] at e2
    refine ⟨p2, rfl, ⟨_, e2⟩, fun pD nD => ?_⟩
    refine lcT (K := K) (a := p2) (xs := ns.map V.int) (fun i H' => Same H2 H' ∧ H' pD = some (.lst [])) nD (fun H' e1 e2 => ⟨e1, e2⟩) (fun i H' _ z => seT z.1 e2) (fun i x H' hx z => ?_) (fun H5 z => ?_)
    · obtain ⟨k, _, rfl⟩ := List.mem_map.mp (List.mem_of_getElem? hx)
      exact ⟨rfl, _, rfl, .int k, _, rfl, .int k, _, rfl, iteF z⟩
    refine ⟨Nat.zero_le _, fun p6 H6 n6 s6 g6 => ⟨pD, p6, [], rfl, rfl, .inl (.inl (s6 _ _ z.2)), .inl (.inl g6), _, rfl, iteF ?_⟩⟩
    have S6 := s1.trans (s2.trans (z.1.trans s6))
    clear z e2 s6 nD
    -- the sides
    refine ⟨_, rfl, cc, rfl, ⟨_, seT S6 hcc⟩, fun pA nA => ?_⟩
    refine lcT (K := K) (a := cc) (xs := [c.1, c.2].map V.int) (fun i H' => Same H6 H' ∧ ∃ vs, H' pA = some (.lst vs) ∧ AllAt (At2 K H') vs (([c.1, c.2].take i).map fun n => (rimL g n, rimH g n))) nA (fun H' e1 e2 => ⟨e1, [], e2, .nil⟩) (fun i H' _ z => seT (S6.trans z.1) hcc) (fun i x H' hx z => ?_) (fun H7 z => ?_)
    · obtain ⟨t1, vs, t2, t3⟩ := z
      obtain ⟨n, hn, rfl, hb⟩ : ∃ n, [c.1, c.2][i]? = some n ∧ x = .int n ∧ (-3000000 ≤ n ∧ n ≤ 3000000) := by
        match i, hx with
        | 0, hx => exact ⟨_, rfl, (Option.some.inj hx).symm, c1, c2⟩
        | 1, hx => exact ⟨_, rfl, (Option.some.inj hx).symm, c3, c4⟩
        | i + 2, hx => cases hx
      refine ⟨rfl, _, rfl, _, _, rfl, rfl, .inl (by decide), _, _, rfl, rfl, _, rfl, _, _, rfl, rfl, .inr (by omega), _, rfl, _, _, rfl, rfl, .inl (by decide), _, _, rfl, rfl, _, rfl, _, _, rfl, rfl, .inr (by omega), (by show 2 ≤ sizeLine; decide), fun pt Ht nt st et => ?_⟩
      obtain ⟨acc, a1, a2, a3, ws', a4, a5⟩ := acc2 (t := (rimL g n, rimH g n)) nA t1 t2 t3 st nt et (by rw [List.length_map, List.length_take]; simp only [List.length_cons, List.length_nil]; omega)
      refine ⟨acc, a1, a2, a3, ws', a4, ?_⟩
      rw [List.take_add_one, hn, List.map_append]
      exact a5
    obtain ⟨t1, vs, t2, t3⟩ := z
    have S7 := S6.trans t1
    have hS7 := seT S7 hS
    have hL7 := hL.same S7
    clear hS hL
    rw [show ((([c.1, c.2].take ([c.1, c.2].map V.int).length).map fun n => (rimL g n, rimH g n))) = [(rimL g c.1, rimH g c.1), (rimL g c.2, rimH g c.2)] from rfl] at t3
    obtain ⟨w1, w2, ew, k1, k2⟩ := two_at t3
    subst ew
    obtain ⟨q1, rfl, hq1⟩ := k1
    obtain ⟨q2, rfl, hq2⟩ := k2
    have hw0 : ∀ b : Str, decide (V.str wd = V.str b) = decide (wd = b) := fun b => decide_eq_decide.mpr ⟨V.str.inj, congrArg _⟩
    have hlen : ∀ k : Nat, decide (V.int (((V.str wd :: ns.map V.int).length : Nat) : Int) = V.int ((k + 1 : Nat) : Int)) = decide (ns.length = k) := fun k => decide_eq_decide.mpr ⟨fun h => by have := V.int.inj h; simp at this; omega, fun h => by rw [List.length_cons, List.length_map, h]⟩
    refine ⟨_, rfl, a, _, 0, _, rfl, rfl, hS7, atI_nat (j := 0) rfl, rfl, _, rfl, ite2 (fun e => ?_) (fun e => ?_)⟩
    · have hwd : wd = "meets" := V.str.inj (of_decide_eq_true e)
      refine ⟨_, rfl, a, _, rfl, .inr hS7, rfl, _, rfl, ite2 (fun e2 => ?_) (fun e2 => ?_)⟩
      · have hn : ns.length = 2 := of_decide_eq_true ((hlen 2).symm.trans e2)
        obtain ⟨k, m, rfl⟩ : ∃ p q, ns = [p, q] := by
          match ns, hn with
          | [p, q], _ => exact ⟨p, q, rfl⟩
        have ev : (isMet g r c wd [k, m] || isMiss g r c wd [k, m]) = (shQ k m && hoB g r c k m) := by
          show ((decide (wd = "meets") && (shQ k m && hoB g r c k m)) || false) = _
          rw [decide_eq_true hwd, Bool.or_false, Bool.true_and]
        rw [ev] at Q1
        refine ⟨.ref a, rfl, _, rfl, a, _, rfl, hS7, fun p7 H8 s8 e8 => ?_⟩
        rw [cut_rest] at e8
        refine ⟨p7, _, rfl, e8, rfl, _, _, rfl, _, _, rfl, rfl, ?_⟩
        obtain ⟨al, v1, v2, rfl, hal, ⟨b1, rfl, hb1⟩, ⟨b2, rfl, hb2⟩⟩ := hL7.same s8
        refine ⟨_, rfl, al, _, 0, _, rfl, rfl, hal, rfl, _, rfl, al, _, 1, _, rfl, rfl, hal, rfl, b1, b2, _, _, rfl, .inr ⟨hb1, hb2, fun pE nE => ?_⟩⟩
        generalize hA1 : 2 * r.1.1 * m + 2 * (r.2.1 - r.1.1) * k = A1
        generalize hA2 : 2 * r.1.2 * m + 2 * (r.2.2 - r.1.2) * k = A2
        refine lcZT (K := K) (a := b1) (b := b2) (xs := [.int r.1.1, .int r.1.2]) (ys := [.int r.2.1, .int r.2.2]) (n := 2) rfl (fun i Hx => Same H8 Hx ∧ Hx pE = some (.lst ((([(r.1.1, r.2.1), (r.1.2, r.2.2)].take i).map fun z : Int × Int => 2 * z.1 * m + 2 * (z.2 - z.1) * k).map V.int))) nE (fun Hx e1 e2 => ⟨e1, e2⟩) (fun i Hx _ z => ⟨seT z.1 hb1, seT z.1 hb2⟩) (fun i x Hx Hy hi z hy => ?_) (fun H9 z => ?_)
        · obtain ⟨t4, t5⟩ := z
          obtain ⟨T, vx, vy, rfl, hT, rfl, hx, hy⟩ := hy
          obtain ⟨zx, zy, hz, rfl, rfl, bz1, bz2, bz3, bz4⟩ : ∃ zx zy : Int, [(r.1.1, r.2.1), (r.1.2, r.2.2)][i]? = some (zx, zy) ∧ vx = .int zx ∧ vy = .int zy ∧ -3000000 ≤ zx ∧ zx ≤ 3000000 ∧ -3000000 ≤ zy ∧ zy ≤ 3000000 := by
            match i, hx, hy with
            | 0, hx, hy => exact ⟨_, _, rfl, (Option.some.inj hx).symm, (Option.some.inj hy).symm, x1, x2, x5, x6⟩
            | 1, hx, hy => exact ⟨_, _, rfl, (Option.some.inj hx).symm, (Option.some.inj hy).symm, x3, x4, x7, x8⟩
            | i + 2, hx, _ => cases hx
          have sT : Same Hx (upd Hx T (.tup [.int zx, .int zy])) := same_new hT
          obtain ⟨acc, a1, a2, a3, a4⟩ := accI (F := fun z : Int × Int => 2 * z.1 * m + 2 * (z.2 - z.1) * k) nE (t4.trans sT) (sT _ _ t5) hz (by simp)
          refine ⟨T, _, rfl, .inl (.inl upd_same), rfl, _, _, rfl, _, _, rfl, rfl, ?_⟩
          exact ⟨rfl, _, rfl, _, _, rfl, rfl, .inl (by decide), _, rfl, _, _, rfl, rfl, .inl (by omega), _, rfl, _, rfl, _, _, rfl, rfl, _, _, rfl, rfl, .inl (by decide), _, rfl, _, _, rfl, rfl, .inl (by omega), _, _, rfl, rfl, acc, a1, a2, a3, a4⟩
        obtain ⟨t4, t5⟩ := z
        have t5 : H9 pE = some (.lst [.int (2 * r.1.1 * m + 2 * (r.2.1 - r.1.1) * k), .int (2 * r.1.2 * m + 2 * (r.2.2 - r.1.2) * k)]) := t5
        rw [hA1, hA2] at t5
        have S9 := s8.trans t4
        have hA9 := S9 _ _ t2
        refine ⟨_, rfl, _, rfl, pE, pA, _, _, rfl, .inl (.inl t5), .inl (.inl hA9), fun pF nF => ?_⟩
        refine lcZ (K := K) (a := pE) (b := pA) (xs := [.int A1, .int A2]) (ys := [.ref q1, .ref q2]) (n := 2) rfl (fun i Hx => Same H9 Hx ∧ Hx pF = some (.lst ((([(A1, rimL g c.1, rimH g c.1), (A2, rimL g c.2, rimH g c.2)].take i).map fun z : Int × Int × Int => decide (z.2.1 * m ≤ z.1) && decide (z.1 < z.2.2 * m)).map V.bl))) nF (fun Hx e1 e2 => ⟨e1, e2⟩) (fun i Hx _ z => ⟨.inl (.inl (z.1 _ _ t5)), .inl (.inl (z.1 _ _ hA9))⟩) (fun i x Hx Hy hi z hy => ?_) (fun H10 z => ?_)
        · obtain ⟨t6, t7⟩ := z
          obtain ⟨T, vx, vy, rfl, hT, rfl, hx, hy⟩ := hy
          obtain ⟨A, lo, up, q, hz, rfl, rfl, hq, bz1, bz2, bz3, bz4⟩ : ∃ (A lo up : Int) (q : Addr), [(A1, rimL g c.1, rimH g c.1), (A2, rimL g c.2, rimH g c.2)][i]? = some (A, lo, up) ∧ vx = .int A ∧ vy = .ref q ∧ SqT K H7 q [.int lo, .int up] ∧ -(2 ^ 34) < lo ∧ lo < 2 ^ 34 ∧ -(2 ^ 34) < up ∧ up < 2 ^ 34 := by
            match i, hx, hy with
            | 0, hx, hy => exact ⟨_, _, _, _, rfl, (Option.some.inj hx).symm, (Option.some.inj hy).symm, hq1, rx1, rx2, rx3, rx4⟩
            | 1, hx, hy => exact ⟨_, _, _, _, rfl, (Option.some.inj hx).symm, (Option.some.inj hy).symm, hq2, ry1, ry2, ry3, ry4⟩
            | i + 2, hx, _ => cases hx
          have sT : Same Hx (upd Hx T (.tup [.int A, .ref q])) := same_new hT
          have hq' := seT (S9.trans (t6.trans sT)) hq
          refine ⟨T, _, rfl, .inl (.inl upd_same), rfl, _, _, rfl, _, _, rfl, rfl, rfl, ?_⟩
          refine ⟨_, rfl, q, _, 0, _, rfl, rfl, hq', rfl, _, rfl, _, _, rfl, rfl, .inl (by omega), _, rfl, _, _, rfl, rfl, _, rfl, ite2 (fun e5 => ?_) (fun e5 => ?_)⟩
          · have d5 : lo * m ≤ A := of_decide_eq_true e5
            obtain ⟨acc, a1, a2, a3, a4⟩ := acc_new (y := V.bl (decide (A < up * m))) nF (t6.trans sT) (sT _ _ t7) (by rw [List.length_map, List.length_map, List.length_take]; simp only [List.length_cons, List.length_nil]; omega)
            refine ⟨_, rfl, q, _, 1, _, rfl, rfl, hq', rfl, _, rfl, _, _, rfl, rfl, .inl (by omega), _, _, rfl, rfl, acc, a1, a2, a3, ?_⟩
            rw [a4, List.take_add_one, hz, List.map_append, List.map_append]
            show some (HO.lst (_ ++ [V.bl (decide (A < up * m))])) = some (HO.lst (_ ++ [V.bl (decide (lo * m ≤ A) && decide (A < up * m))]))
            rw [decide_eq_true d5, Bool.true_and]
          · have d5 : ¬ lo * m ≤ A := fun z => e5 (decide_eq_true z)
            obtain ⟨acc, a1, a2, a3, a4⟩ := acc_new (y := V.bl false) nF (t6.trans sT) (sT _ _ t7) (by rw [List.length_map, List.length_map, List.length_take]; simp only [List.length_cons, List.length_nil]; omega)
            refine ⟨acc, a1, a2, a3, ?_⟩
            rw [a4, List.take_add_one, hz, List.map_append, List.map_append]
            show some (HO.lst (_ ++ [V.bl false])) = some (HO.lst (_ ++ [V.bl (decide (lo * m ≤ A) && decide (A < up * m))]))
            rw [decide_eq_false d5, Bool.false_and]
        obtain ⟨t6, t7⟩ := z
        have t7 : H10 pF = some (.lst [.bl (decide (rimL g c.1 * m ≤ A1) && decide (A1 < rimH g c.1 * m)), .bl (decide (rimL g c.2 * m ≤ A2) && decide (A2 < rimH g c.2 * m))]) := t7
        have ho : hoB g r c k m = ((decide (rimL g c.1 * m ≤ A1) && decide (A1 < rimH g c.1 * m)) && (decide (rimL g c.2 * m ≤ A2) && decide (A2 < rimH g c.2 * m))) := by
          rw [← hA1, ← hA2]
          exact hoB_at
        have S10 := S7.trans (S9.trans t6)
        generalize (decide (rimL g c.1 * m ≤ A1) && decide (A1 < rimH g c.1 * m)) = B1 at *
        generalize (decide (rimL g c.2 * m ≤ A2) && decide (A2 < rimH g c.2 * m)) = B2 at *
        have F0 : shQ k m = false → Q (.bl false) H10 := fun z => by
          have := Q1 H10 S10
          rw [z, Bool.false_and] at this
          exact this
        have nq : ¬ (1 ≤ m ∧ 0 ≤ k ∧ k ≤ m) → shQ k m = false := fun z => Bool.eq_false_iff.mpr fun y => z (shQ_iff.mp y)
        refine ⟨_, rfl, _, _, rfl, rfl, _, rfl, ite2 (fun e4 => ?_) (fun e4 => ?_)⟩
        · have m1 : 0 < m := of_decide_eq_true e4
          refine ⟨_, rfl, _, _, rfl, rfl, _, rfl, ite2 (fun e5 => ⟨_, rfl, _, _, rfl, rfl, _, rfl, ite2 (fun e6 => ?_) (fun e6 => ?_)⟩) (fun e5 => ⟨_, rfl, iteF ?_⟩)⟩
          · have k0 : 0 ≤ k := of_decide_eq_true e5
            have k1 : k ≤ m := of_decide_eq_true e6
            refine ⟨_, rfl, (by show 2 ≤ sizeLine; decide), fun p10 H11 n11 s11 e11 => ⟨.list [.bool B1, .bool B2], .list [.bool true, .bool true], .lst (.inl (.inl (s11 _ _ t7))) (.cons (.bl _) (.cons (.bl _) .nil)), .lst (.inl (.inl e11)) (.cons (.bl _) (.cons (.bl _) .nil)), rfl, rfl, ?_⟩⟩
            have := Q1 H11 (S10.trans s11)
            rw [shQ_iff.mpr ⟨by omega, k0, k1⟩, Bool.true_and, ho] at this
            rw [eqv_tt]
            exact this
          · have k1 : ¬ k ≤ m := fun z => e6 (decide_eq_true z)
            have := F0 (nq fun z => k1 z.2.2)
            first | exact this | (rw [decide_eq_false k1]; exact this)
          · have k0 : ¬ 0 ≤ k := fun z => e5 (decide_eq_true z)
            exact F0 (nq fun z => k0 z.2.1)
        · have m1 : ¬ 0 < m := fun z => e4 (decide_eq_true z)
          have := F0 (nq fun z => m1 (by omega))
          first | exact this | (rw [decide_eq_false m1]; exact this)
      · have hA : ¬ (wd = "meets" ∧ ns.length = 2) := fun z => e2 ((hlen 2).trans (decide_eq_true z.2))
        have i0 := isMet_not (g := g) (r := r) (c := c) hA
        rw [i0, Bool.false_or] at Q1
        have F0 : ¬ (wd = "misses" ∧ ns.length = 3) → Q (.bl false) H7 := fun z => by
          have := Q1 H7 S7
          rw [isMiss_not z] at this
          exact this
        refine ⟨_, rfl, a, _, 0, _, rfl, rfl, hS7, atI_nat (j := 0) rfl, rfl, _, rfl, ite2 (fun e5 => ?_) (fun e5 => ?_)⟩
        · have hm : wd ≠ "misses" := fun z => by rw [z] at e5; simp at e5
          exact iteT (F0 fun z => hm z.1)
        have hwd : wd = "misses" := Classical.byContradiction fun z => e5 (by rw [decide_eq_false (fun y => z (V.str.inj y))]; rfl)
        refine ⟨_, rfl, a, _, rfl, .inr hS7, rfl, _, rfl, ite2 (fun e6 => ?_) (fun e6 => ?_)⟩
        · have hn : ns.length ≠ 3 := fun z => by rw [show decide (V.int (((V.str wd :: ns.map V.int).length : Nat) : Int) = V.int 4) = true from (hlen 3).trans (decide_eq_true z)] at e6; cases e6
          exact iteT (F0 fun z => hn z.2)
        have hn : ns.length = 3 := Classical.byContradiction fun z => e6 (by rw [show decide (V.int (((V.str wd :: ns.map V.int).length : Nat) : Int) = V.int 4) = false from (hlen 3).trans (decide_eq_false z)]; rfl)
        obtain ⟨p, q, t, rfl⟩ : ∃ p q t, ns = [p, q, t] := by
          match ns, hn with
          | [p, q, t], _ => exact ⟨p, q, t, rfl⟩
        have ev : isMiss g r c wd [p, q, t] = (!decide (p = 0 ∧ q = 0) && (keepB g c p q t && (ptsOf r).all (least p q t))) := by
          show (decide (wd = "misses") && _) = _
          rw [decide_eq_true hwd]
          exact Bool.true_and _
        rw [ev] at Q1
        have bpt : ∀ z ∈ ptsOf r, (-(2 ^ 64) < z.1 ∧ z.1 < 2 ^ 64) ∧ -(2 ^ 64) < z.2 ∧ z.2 < 2 ^ 64 := fun z hz => by
          simp only [ptsOf, List.mem_cons, List.not_mem_nil, or_false] at hz
          rcases hz with rfl | rfl <;> exact ⟨⟨by omega, by omega⟩, by omega, by omega⟩
        obtain ⟨al, us, rfl, h1, h2⟩ := pts_at hL7
        have kA := t2
        clear F0 ev hA hn hwd e6 e5 i0 hlen hw0 t1 t2
        refine ⟨_, rfl, a, _, 1, _, rfl, rfl, hS7, atI_nat (j := 1) rfl, rfl, _, rfl, ite2 (fun e7 => ?_) (fun e7 => iteF ?_)⟩
        · refine ⟨_, rfl, a, _, 2, _, rfl, rfl, hS7, atI_nat (j := 2) rfl, rfl, _, rfl, ite2 (fun e8 => ?_) (fun e8 => ?_)⟩
          · have d1 : p = 0 := V.int.inj (of_decide_eq_true e7)
            have d2 : q = 0 := V.int.inj (of_decide_eq_true e8)
            have := Q1 H7 S7
            rw [decide_eq_true ⟨d1, d2⟩] at this
            exact this
          · have d2 : ¬ q = 0 := fun z => e8 (decide_eq_true (by rw [z]))
            have d : ¬ (p = 0 ∧ q = 0) := fun z => d2 z.2
            rw [decide_eq_false d, show (!false) = true from rfl, Bool.true_and] at Q1
            refine ⟨_, rfl, a, _, rfl, hS7, rfl, _, _, rfl, _, _, rfl, _, _, rfl, _, _, rfl, rfl, ?_⟩
            refine ⟨_, rfl, al, rfl, ⟨_, h1⟩, fun pG nG => ?_⟩
            refine lcT (K := K) (a := al) (xs := us) (fun i H' => Same H7 H' ∧ ∃ n, H' pG = some (.lst (List.replicate n (.int 1))) ∧ n ≤ i ∧ (n = 0 ↔ ((ptsOf r).take i).all (least p q t) = true)) nG (fun H' e1 e2 => ⟨e1, 0, e2, Nat.le_refl _, by simp⟩) (fun i H' _ z => seT z.1 h1) (fun i z H' hz w => ?_) (fun H8 z => ?_)
            · obtain ⟨t4, n, t5, t6, t7⟩ := w
              obtain ⟨pt, hpt, b, rfl, hb⟩ := h2.get hz
              have bp := bpt pt (List.mem_of_getElem? hpt)
              have hi : i < 2 := (List.getElem?_eq_some_iff.mp hpt).1
              have el : 2 * p * pt.1 + 2 * q * pt.2 = 2 * (p * pt.1 + q * pt.2) := by rw [Int.mul_add, Int.mul_assoc, Int.mul_assoc]
              refine ⟨b, _, rfl, seT t4 hb, rfl, _, _, rfl, _, _, rfl, rfl, ?_⟩
              refine ⟨rfl, _, rfl, _, _, rfl, rfl, .inl (by decide), _, rfl, _, _, rfl, rfl, .inr bp.1, _, rfl, _, _, rfl, rfl, .inl (by decide), _, rfl, _, _, rfl, rfl, .inr bp.2, _, _, rfl, rfl, _, rfl, _, _, rfl, rfl, _, rfl, ite2 (fun e => ?_) (fun e => ?_)⟩
              · have e : 2 * p * pt.1 + 2 * q * pt.2 < t := of_decide_eq_true e
                refine ⟨_, t5, by rw [List.length_replicate]; exact small1000 (by omega), fun b o z => by rw [upd_ne (ne_of_none z nG)]; exact t4 _ _ z, n + 1, by rw [upd_same, List.replicate_succ'], by omega, ?_⟩
                rw [List.take_add_one, hpt, List.all_append]
                have : least p q t pt = false := decide_eq_false (by omega)
                simp [this]
              · have e : ¬ 2 * p * pt.1 + 2 * q * pt.2 < t := fun z => e (decide_eq_true z)
                refine ⟨t4, n, t5, by omega, ?_⟩
                rw [List.take_add_one, hpt, List.all_append, t7]
                have : least p q t pt = true := decide_eq_true (by omega)
                simp [this]
            obtain ⟨t4, n, t5, t6, t7⟩ := z
            rw [h2.length] at t6 t7
            have t6 : n ≤ 2 := t6
            have t7 : n = 0 ↔ (ptsOf r).all (least p q t) = true := t7
            refine ⟨Nat.zero_le _, fun p9 H9 n9 s9 e9 => ?_⟩
            obtain ⟨ds, hd1, hd2, hd3⟩ := rep_dp (K := K) (H := H9) t6
            have S9 := S7.trans (t4.trans s9)
            refine ⟨.list ds, .list [], .lst (.inl (.inl (s9 _ _ t5))) hd1, .lst (.inl (.inl e9)) .nil, hd2, rfl, _, rfl, ?_⟩
            rw [hd3]
            refine ite2 (fun e => ?_) (fun e => ?_)
            · have e : ¬ n = 0 := fun z => by rw [z] at e; cases e
              have := Q1 H9 S9
              rw [show (ptsOf r).all (least p q t) = false from Bool.eq_false_iff.mpr fun z => e (t7.mpr z), Bool.and_false] at this
              exact this
            have e : n = 0 := Classical.byContradiction fun z => e (by rw [decide_eq_false z]; rfl)
            have kA9 := (t4.trans s9) _ _ kA
            have hq1' := seT (t4.trans s9) hq1
            have hq2' := seT (t4.trans s9) hq2
            refine ⟨_, rfl, _, rfl, pA, _, 0, _, rfl, rfl, .inl (.inl kA9), rfl, _, rfl, _, _, rfl, rfl, .inr ⟨_, rfl, q1, _, _, _, rfl, rfl, hq1', sd_at, _, _, rfl, rfl, .inr (by unfold sd; split <;> omega), ?_⟩⟩
            refine ⟨_, rfl, _, rfl, pA, _, 1, _, rfl, rfl, .inl (.inl kA9), rfl, _, rfl, _, _, rfl, rfl, .inr ⟨_, rfl, q2, _, _, _, rfl, rfl, hq2', sd_at, _, _, rfl, rfl, .inr (by unfold sd; split <;> omega), _, _, rfl, rfl, ?_⟩⟩
            generalize hG : ((fun i j => V.int (i + j)) (p * sd p (rimL g c.1) (rimH g c.1)) (q * sd q (rimL g c.2) (rimH g c.2)) : V) = gv
            have hG : gv = V.int (grt g c p q) := by
              rw [← hG]
              exact congrArg V.int (grt_sd).symm
            subst hG
            have Q1 := Q1 H9 S9
            rw [t7.mp e, Bool.and_true] at Q1
            unfold keepB at Q1
            generalize grt g c p q = m at Q1
            refine ⟨_, rfl, _, rfl, _, _, rfl, rfl, _, rfl, ite2 (fun e => ?_) (fun e => ?_)⟩
            · rw [show decide (m < t) = true from e, Bool.true_or] at Q1
              exact Q1
            · rw [show decide (m < t) = false from Bool.eq_false_iff.mpr e, Bool.false_or] at Q1
              refine ⟨_, rfl, _, rfl, rfl, _, rfl, ite2 (fun e2 => ?_) (fun e2 => ?_)⟩
              · have e2 : m = t := V.int.inj (of_decide_eq_true e2)
                rw [decide_eq_true e2, Bool.true_and] at Q1
                refine ⟨_, rfl, _, _, rfl, rfl, _, rfl, ite2 (fun e3 => ?_) (fun e3 => ?_)⟩
                · rw [show decide (0 < p) = true from e3, Bool.true_or] at Q1
                  exact Q1
                · rw [show decide (0 < p) = false from Bool.eq_false_iff.mpr e3, Bool.false_or] at Q1
                  exact ⟨_, rfl, _, _, rfl, rfl, Q1⟩
              · have e2 : ¬ m = t := fun z => e2 (decide_eq_true (by rw [z]))
                rw [decide_eq_false e2, Bool.false_and] at Q1
                exact Q1
        · have d1 : ¬ p = 0 := fun z => e7 (decide_eq_true (by rw [z]))
          have d : ¬ (p = 0 ∧ q = 0) := fun z => d1 z.1
          rw [decide_eq_false d, show (!false) = true from rfl, Bool.true_and] at Q1
          refine ⟨_, rfl, a, _, rfl, hS7, rfl, _, _, rfl, _, _, rfl, _, _, rfl, _, _, rfl, rfl, ?_⟩
          refine ⟨_, rfl, al, rfl, ⟨_, h1⟩, fun pG nG => ?_⟩
          refine lcT (K := K) (a := al) (xs := us) (fun i H' => Same H7 H' ∧ ∃ n, H' pG = some (.lst (List.replicate n (.int 1))) ∧ n ≤ i ∧ (n = 0 ↔ ((ptsOf r).take i).all (least p q t) = true)) nG (fun H' e1 e2 => ⟨e1, 0, e2, Nat.le_refl _, by simp⟩) (fun i H' _ z => seT z.1 h1) (fun i z H' hz w => ?_) (fun H8 z => ?_)
          · obtain ⟨t4, n, t5, t6, t7⟩ := w
            obtain ⟨pt, hpt, b, rfl, hb⟩ := h2.get hz
            have bp := bpt pt (List.mem_of_getElem? hpt)
            have hi : i < 2 := (List.getElem?_eq_some_iff.mp hpt).1
            have el : 2 * p * pt.1 + 2 * q * pt.2 = 2 * (p * pt.1 + q * pt.2) := by rw [Int.mul_add, Int.mul_assoc, Int.mul_assoc]
            refine ⟨b, _, rfl, seT t4 hb, rfl, _, _, rfl, _, _, rfl, rfl, ?_⟩
            refine ⟨rfl, _, rfl, _, _, rfl, rfl, .inl (by decide), _, rfl, _, _, rfl, rfl, .inr bp.1, _, rfl, _, _, rfl, rfl, .inl (by decide), _, rfl, _, _, rfl, rfl, .inr bp.2, _, _, rfl, rfl, _, rfl, _, _, rfl, rfl, _, rfl, ite2 (fun e => ?_) (fun e => ?_)⟩
            · have e : 2 * p * pt.1 + 2 * q * pt.2 < t := of_decide_eq_true e
              refine ⟨_, t5, by rw [List.length_replicate]; exact small1000 (by omega), fun b o z => by rw [upd_ne (ne_of_none z nG)]; exact t4 _ _ z, n + 1, by rw [upd_same, List.replicate_succ'], by omega, ?_⟩
              rw [List.take_add_one, hpt, List.all_append]
              have : least p q t pt = false := decide_eq_false (by omega)
              simp [this]
            · have e : ¬ 2 * p * pt.1 + 2 * q * pt.2 < t := fun z => e (decide_eq_true z)
              refine ⟨t4, n, t5, by omega, ?_⟩
              rw [List.take_add_one, hpt, List.all_append, t7]
              have : least p q t pt = true := decide_eq_true (by omega)
              simp [this]
          obtain ⟨t4, n, t5, t6, t7⟩ := z
          rw [h2.length] at t6 t7
          have t6 : n ≤ 2 := t6
          have t7 : n = 0 ↔ (ptsOf r).all (least p q t) = true := t7
          refine ⟨Nat.zero_le _, fun p9 H9 n9 s9 e9 => ?_⟩
          obtain ⟨ds, hd1, hd2, hd3⟩ := rep_dp (K := K) (H := H9) t6
          have S9 := S7.trans (t4.trans s9)
          refine ⟨.list ds, .list [], .lst (.inl (.inl (s9 _ _ t5))) hd1, .lst (.inl (.inl e9)) .nil, hd2, rfl, _, rfl, ?_⟩
          rw [hd3]
          refine ite2 (fun e => ?_) (fun e => ?_)
          · have e : ¬ n = 0 := fun z => by rw [z] at e; cases e
            have := Q1 H9 S9
            rw [show (ptsOf r).all (least p q t) = false from Bool.eq_false_iff.mpr fun z => e (t7.mpr z), Bool.and_false] at this
            exact this
          have e : n = 0 := Classical.byContradiction fun z => e (by rw [decide_eq_false z]; rfl)
          have kA9 := (t4.trans s9) _ _ kA
          have hq1' := seT (t4.trans s9) hq1
          have hq2' := seT (t4.trans s9) hq2
          refine ⟨_, rfl, _, rfl, pA, _, 0, _, rfl, rfl, .inl (.inl kA9), rfl, _, rfl, _, _, rfl, rfl, .inr ⟨_, rfl, q1, _, _, _, rfl, rfl, hq1', sd_at, _, _, rfl, rfl, .inr (by unfold sd; split <;> omega), ?_⟩⟩
          refine ⟨_, rfl, _, rfl, pA, _, 1, _, rfl, rfl, .inl (.inl kA9), rfl, _, rfl, _, _, rfl, rfl, .inr ⟨_, rfl, q2, _, _, _, rfl, rfl, hq2', sd_at, _, _, rfl, rfl, .inr (by unfold sd; split <;> omega), _, _, rfl, rfl, ?_⟩⟩
          generalize hG : ((fun i j => V.int (i + j)) (p * sd p (rimL g c.1) (rimH g c.1)) (q * sd q (rimL g c.2) (rimH g c.2)) : V) = gv
          have hG : gv = V.int (grt g c p q) := by
            rw [← hG]
            exact congrArg V.int (grt_sd).symm
          subst hG
          have Q1 := Q1 H9 S9
          rw [t7.mp e, Bool.and_true] at Q1
          unfold keepB at Q1
          generalize grt g c p q = m at Q1
          refine ⟨_, rfl, _, rfl, _, _, rfl, rfl, _, rfl, ite2 (fun e => ?_) (fun e => ?_)⟩
          · rw [show decide (m < t) = true from e, Bool.true_or] at Q1
            exact Q1
          · rw [show decide (m < t) = false from Bool.eq_false_iff.mpr e, Bool.false_or] at Q1
            refine ⟨_, rfl, _, rfl, rfl, _, rfl, ite2 (fun e2 => ?_) (fun e2 => ?_)⟩
            · have e2 : m = t := V.int.inj (of_decide_eq_true e2)
              rw [decide_eq_true e2, Bool.true_and] at Q1
              refine ⟨_, rfl, _, _, rfl, rfl, _, rfl, ite2 (fun e3 => ?_) (fun e3 => ?_)⟩
              · rw [show decide (0 < p) = true from e3, Bool.true_or] at Q1
                exact Q1
              · rw [show decide (0 < p) = false from Bool.eq_false_iff.mpr e3, Bool.false_or] at Q1
                exact ⟨_, rfl, _, _, rfl, rfl, Q1⟩
            · have e2 : ¬ m = t := fun z => e2 (decide_eq_true (by rw [z]))
              rw [decide_eq_false e2, Bool.false_and] at Q1
              exact Q1
    · have hA : ¬ (wd = "meets" ∧ ns.length = 2) := fun z => e (decide_eq_true (by rw [z.1]))
      have i0 := isMet_not (g := g) (r := r) (c := c) hA
      rw [i0, Bool.false_or] at Q1
      have F0 : ¬ (wd = "misses" ∧ ns.length = 3) → Q (.bl false) H7 := fun z => by
        have := Q1 H7 S7
        rw [isMiss_not z] at this
        exact this
      refine ⟨_, rfl, a, _, 0, _, rfl, rfl, hS7, atI_nat (j := 0) rfl, rfl, _, rfl, ite2 (fun e5 => ?_) (fun e5 => ?_)⟩
      · have hm : wd ≠ "misses" := fun z => by rw [z] at e5; simp at e5
        exact iteT (F0 fun z => hm z.1)
      have hwd : wd = "misses" := Classical.byContradiction fun z => e5 (by rw [decide_eq_false (fun y => z (V.str.inj y))]; rfl)
      refine ⟨_, rfl, a, _, rfl, .inr hS7, rfl, _, rfl, ite2 (fun e6 => ?_) (fun e6 => ?_)⟩
      · have hn : ns.length ≠ 3 := fun z => by rw [show decide (V.int (((V.str wd :: ns.map V.int).length : Nat) : Int) = V.int 4) = true from (hlen 3).trans (decide_eq_true z)] at e6; cases e6
        exact iteT (F0 fun z => hn z.2)
      have hn : ns.length = 3 := Classical.byContradiction fun z => e6 (by rw [show decide (V.int (((V.str wd :: ns.map V.int).length : Nat) : Int) = V.int 4) = false from (hlen 3).trans (decide_eq_false z)]; rfl)
      obtain ⟨p, q, t, rfl⟩ : ∃ p q t, ns = [p, q, t] := by
        match ns, hn with
        | [p, q, t], _ => exact ⟨p, q, t, rfl⟩
      have ev : isMiss g r c wd [p, q, t] = (!decide (p = 0 ∧ q = 0) && (keepB g c p q t && (ptsOf r).all (least p q t))) := by
        show (decide (wd = "misses") && _) = _
        rw [decide_eq_true hwd]
        exact Bool.true_and _
      rw [ev] at Q1
      have bpt : ∀ z ∈ ptsOf r, (-(2 ^ 64) < z.1 ∧ z.1 < 2 ^ 64) ∧ -(2 ^ 64) < z.2 ∧ z.2 < 2 ^ 64 := fun z hz => by
        simp only [ptsOf, List.mem_cons, List.not_mem_nil, or_false] at hz
        rcases hz with rfl | rfl <;> exact ⟨⟨by omega, by omega⟩, by omega, by omega⟩
      obtain ⟨al, us, rfl, h1, h2⟩ := pts_at hL7
      have kA := t2
      clear F0 ev hA hn hwd e6 e5 i0 hlen hw0 t1 t2
      refine ⟨_, rfl, a, _, 1, _, rfl, rfl, hS7, atI_nat (j := 1) rfl, rfl, _, rfl, ite2 (fun e7 => ?_) (fun e7 => iteF ?_)⟩
      · refine ⟨_, rfl, a, _, 2, _, rfl, rfl, hS7, atI_nat (j := 2) rfl, rfl, _, rfl, ite2 (fun e8 => ?_) (fun e8 => ?_)⟩
        · have d1 : p = 0 := V.int.inj (of_decide_eq_true e7)
          have d2 : q = 0 := V.int.inj (of_decide_eq_true e8)
          have := Q1 H7 S7
          rw [decide_eq_true ⟨d1, d2⟩] at this
          exact this
        · have d2 : ¬ q = 0 := fun z => e8 (decide_eq_true (by rw [z]))
          have d : ¬ (p = 0 ∧ q = 0) := fun z => d2 z.2
          rw [decide_eq_false d, show (!false) = true from rfl, Bool.true_and] at Q1
          refine ⟨_, rfl, a, _, rfl, hS7, rfl, _, _, rfl, _, _, rfl, _, _, rfl, _, _, rfl, rfl, ?_⟩
          refine ⟨_, rfl, al, rfl, ⟨_, h1⟩, fun pG nG => ?_⟩
          refine lcT (K := K) (a := al) (xs := us) (fun i H' => Same H7 H' ∧ ∃ n, H' pG = some (.lst (List.replicate n (.int 1))) ∧ n ≤ i ∧ (n = 0 ↔ ((ptsOf r).take i).all (least p q t) = true)) nG (fun H' e1 e2 => ⟨e1, 0, e2, Nat.le_refl _, by simp⟩) (fun i H' _ z => seT z.1 h1) (fun i z H' hz w => ?_) (fun H8 z => ?_)
          · obtain ⟨t4, n, t5, t6, t7⟩ := w
            obtain ⟨pt, hpt, b, rfl, hb⟩ := h2.get hz
            have bp := bpt pt (List.mem_of_getElem? hpt)
            have hi : i < 2 := (List.getElem?_eq_some_iff.mp hpt).1
            have el : 2 * p * pt.1 + 2 * q * pt.2 = 2 * (p * pt.1 + q * pt.2) := by rw [Int.mul_add, Int.mul_assoc, Int.mul_assoc]
            refine ⟨b, _, rfl, seT t4 hb, rfl, _, _, rfl, _, _, rfl, rfl, ?_⟩
            refine ⟨rfl, _, rfl, _, _, rfl, rfl, .inl (by decide), _, rfl, _, _, rfl, rfl, .inr bp.1, _, rfl, _, _, rfl, rfl, .inl (by decide), _, rfl, _, _, rfl, rfl, .inr bp.2, _, _, rfl, rfl, _, rfl, _, _, rfl, rfl, _, rfl, ite2 (fun e => ?_) (fun e => ?_)⟩
            · have e : 2 * p * pt.1 + 2 * q * pt.2 < t := of_decide_eq_true e
              refine ⟨_, t5, by rw [List.length_replicate]; exact small1000 (by omega), fun b o z => by rw [upd_ne (ne_of_none z nG)]; exact t4 _ _ z, n + 1, by rw [upd_same, List.replicate_succ'], by omega, ?_⟩
              rw [List.take_add_one, hpt, List.all_append]
              have : least p q t pt = false := decide_eq_false (by omega)
              simp [this]
            · have e : ¬ 2 * p * pt.1 + 2 * q * pt.2 < t := fun z => e (decide_eq_true z)
              refine ⟨t4, n, t5, by omega, ?_⟩
              rw [List.take_add_one, hpt, List.all_append, t7]
              have : least p q t pt = true := decide_eq_true (by omega)
              simp [this]
          obtain ⟨t4, n, t5, t6, t7⟩ := z
          rw [h2.length] at t6 t7
          have t6 : n ≤ 2 := t6
          have t7 : n = 0 ↔ (ptsOf r).all (least p q t) = true := t7
          refine ⟨Nat.zero_le _, fun p9 H9 n9 s9 e9 => ?_⟩
          obtain ⟨ds, hd1, hd2, hd3⟩ := rep_dp (K := K) (H := H9) t6
          have S9 := S7.trans (t4.trans s9)
          refine ⟨.list ds, .list [], .lst (.inl (.inl (s9 _ _ t5))) hd1, .lst (.inl (.inl e9)) .nil, hd2, rfl, _, rfl, ?_⟩
          rw [hd3]
          refine ite2 (fun e => ?_) (fun e => ?_)
          · have e : ¬ n = 0 := fun z => by rw [z] at e; cases e
            have := Q1 H9 S9
            rw [show (ptsOf r).all (least p q t) = false from Bool.eq_false_iff.mpr fun z => e (t7.mpr z), Bool.and_false] at this
            exact this
          have e : n = 0 := Classical.byContradiction fun z => e (by rw [decide_eq_false z]; rfl)
          have kA9 := (t4.trans s9) _ _ kA
          have hq1' := seT (t4.trans s9) hq1
          have hq2' := seT (t4.trans s9) hq2
          refine ⟨_, rfl, _, rfl, pA, _, 0, _, rfl, rfl, .inl (.inl kA9), rfl, _, rfl, _, _, rfl, rfl, .inr ⟨_, rfl, q1, _, _, _, rfl, rfl, hq1', sd_at, _, _, rfl, rfl, .inr (by unfold sd; split <;> omega), ?_⟩⟩
          refine ⟨_, rfl, _, rfl, pA, _, 1, _, rfl, rfl, .inl (.inl kA9), rfl, _, rfl, _, _, rfl, rfl, .inr ⟨_, rfl, q2, _, _, _, rfl, rfl, hq2', sd_at, _, _, rfl, rfl, .inr (by unfold sd; split <;> omega), _, _, rfl, rfl, ?_⟩⟩
          generalize hG : ((fun i j => V.int (i + j)) (p * sd p (rimL g c.1) (rimH g c.1)) (q * sd q (rimL g c.2) (rimH g c.2)) : V) = gv
          have hG : gv = V.int (grt g c p q) := by
            rw [← hG]
            exact congrArg V.int (grt_sd).symm
          subst hG
          have Q1 := Q1 H9 S9
          rw [t7.mp e, Bool.and_true] at Q1
          unfold keepB at Q1
          generalize grt g c p q = m at Q1
          refine ⟨_, rfl, _, rfl, _, _, rfl, rfl, _, rfl, ite2 (fun e => ?_) (fun e => ?_)⟩
          · rw [show decide (m < t) = true from e, Bool.true_or] at Q1
            exact Q1
          · rw [show decide (m < t) = false from Bool.eq_false_iff.mpr e, Bool.false_or] at Q1
            refine ⟨_, rfl, _, rfl, rfl, _, rfl, ite2 (fun e2 => ?_) (fun e2 => ?_)⟩
            · have e2 : m = t := V.int.inj (of_decide_eq_true e2)
              rw [decide_eq_true e2, Bool.true_and] at Q1
              refine ⟨_, rfl, _, _, rfl, rfl, _, rfl, ite2 (fun e3 => ?_) (fun e3 => ?_)⟩
              · rw [show decide (0 < p) = true from e3, Bool.true_or] at Q1
                exact Q1
              · rw [show decide (0 < p) = false from Bool.eq_false_iff.mpr e3, Bool.false_or] at Q1
                exact ⟨_, rfl, _, _, rfl, rfl, Q1⟩
            · have e2 : ¬ m = t := fun z => e2 (decide_eq_true (by rw [z]))
              rw [decide_eq_false e2, Bool.false_and] at Q1
              exact Q1
      · have d1 : ¬ p = 0 := fun z => e7 (decide_eq_true (by rw [z]))
        have d : ¬ (p = 0 ∧ q = 0) := fun z => d1 z.1
        rw [decide_eq_false d, show (!false) = true from rfl, Bool.true_and] at Q1
        refine ⟨_, rfl, a, _, rfl, hS7, rfl, _, _, rfl, _, _, rfl, _, _, rfl, _, _, rfl, rfl, ?_⟩
        refine ⟨_, rfl, al, rfl, ⟨_, h1⟩, fun pG nG => ?_⟩
        refine lcT (K := K) (a := al) (xs := us) (fun i H' => Same H7 H' ∧ ∃ n, H' pG = some (.lst (List.replicate n (.int 1))) ∧ n ≤ i ∧ (n = 0 ↔ ((ptsOf r).take i).all (least p q t) = true)) nG (fun H' e1 e2 => ⟨e1, 0, e2, Nat.le_refl _, by simp⟩) (fun i H' _ z => seT z.1 h1) (fun i z H' hz w => ?_) (fun H8 z => ?_)
        · obtain ⟨t4, n, t5, t6, t7⟩ := w
          obtain ⟨pt, hpt, b, rfl, hb⟩ := h2.get hz
          have bp := bpt pt (List.mem_of_getElem? hpt)
          have hi : i < 2 := (List.getElem?_eq_some_iff.mp hpt).1
          have el : 2 * p * pt.1 + 2 * q * pt.2 = 2 * (p * pt.1 + q * pt.2) := by rw [Int.mul_add, Int.mul_assoc, Int.mul_assoc]
          refine ⟨b, _, rfl, seT t4 hb, rfl, _, _, rfl, _, _, rfl, rfl, ?_⟩
          refine ⟨rfl, _, rfl, _, _, rfl, rfl, .inl (by decide), _, rfl, _, _, rfl, rfl, .inr bp.1, _, rfl, _, _, rfl, rfl, .inl (by decide), _, rfl, _, _, rfl, rfl, .inr bp.2, _, _, rfl, rfl, _, rfl, _, _, rfl, rfl, _, rfl, ite2 (fun e => ?_) (fun e => ?_)⟩
          · have e : 2 * p * pt.1 + 2 * q * pt.2 < t := of_decide_eq_true e
            refine ⟨_, t5, by rw [List.length_replicate]; exact small1000 (by omega), fun b o z => by rw [upd_ne (ne_of_none z nG)]; exact t4 _ _ z, n + 1, by rw [upd_same, List.replicate_succ'], by omega, ?_⟩
            rw [List.take_add_one, hpt, List.all_append]
            have : least p q t pt = false := decide_eq_false (by omega)
            simp [this]
          · have e : ¬ 2 * p * pt.1 + 2 * q * pt.2 < t := fun z => e (decide_eq_true z)
            refine ⟨t4, n, t5, by omega, ?_⟩
            rw [List.take_add_one, hpt, List.all_append, t7]
            have : least p q t pt = true := decide_eq_true (by omega)
            simp [this]
        obtain ⟨t4, n, t5, t6, t7⟩ := z
        rw [h2.length] at t6 t7
        have t6 : n ≤ 2 := t6
        have t7 : n = 0 ↔ (ptsOf r).all (least p q t) = true := t7
        refine ⟨Nat.zero_le _, fun p9 H9 n9 s9 e9 => ?_⟩
        obtain ⟨ds, hd1, hd2, hd3⟩ := rep_dp (K := K) (H := H9) t6
        have S9 := S7.trans (t4.trans s9)
        refine ⟨.list ds, .list [], .lst (.inl (.inl (s9 _ _ t5))) hd1, .lst (.inl (.inl e9)) .nil, hd2, rfl, _, rfl, ?_⟩
        rw [hd3]
        refine ite2 (fun e => ?_) (fun e => ?_)
        · have e : ¬ n = 0 := fun z => by rw [z] at e; cases e
          have := Q1 H9 S9
          rw [show (ptsOf r).all (least p q t) = false from Bool.eq_false_iff.mpr fun z => e (t7.mpr z), Bool.and_false] at this
          exact this
        have e : n = 0 := Classical.byContradiction fun z => e (by rw [decide_eq_false z]; rfl)
        have kA9 := (t4.trans s9) _ _ kA
        have hq1' := seT (t4.trans s9) hq1
        have hq2' := seT (t4.trans s9) hq2
        refine ⟨_, rfl, _, rfl, pA, _, 0, _, rfl, rfl, .inl (.inl kA9), rfl, _, rfl, _, _, rfl, rfl, .inr ⟨_, rfl, q1, _, _, _, rfl, rfl, hq1', sd_at, _, _, rfl, rfl, .inr (by unfold sd; split <;> omega), ?_⟩⟩
        refine ⟨_, rfl, _, rfl, pA, _, 1, _, rfl, rfl, .inl (.inl kA9), rfl, _, rfl, _, _, rfl, rfl, .inr ⟨_, rfl, q2, _, _, _, rfl, rfl, hq2', sd_at, _, _, rfl, rfl, .inr (by unfold sd; split <;> omega), _, _, rfl, rfl, ?_⟩⟩
        generalize hG : ((fun i j => V.int (i + j)) (p * sd p (rimL g c.1) (rimH g c.1)) (q * sd q (rimL g c.2) (rimH g c.2)) : V) = gv
        have hG : gv = V.int (grt g c p q) := by
          rw [← hG]
          exact congrArg V.int (grt_sd).symm
        subst hG
        have Q1 := Q1 H9 S9
        rw [t7.mp e, Bool.and_true] at Q1
        unfold keepB at Q1
        generalize grt g c p q = m at Q1
        refine ⟨_, rfl, _, rfl, _, _, rfl, rfl, _, rfl, ite2 (fun e => ?_) (fun e => ?_)⟩
        · rw [show decide (m < t) = true from e, Bool.true_or] at Q1
          exact Q1
        · rw [show decide (m < t) = false from Bool.eq_false_iff.mpr e, Bool.false_or] at Q1
          refine ⟨_, rfl, _, rfl, rfl, _, rfl, ite2 (fun e2 => ?_) (fun e2 => ?_)⟩
          · have e2 : m = t := V.int.inj (of_decide_eq_true e2)
            rw [decide_eq_true e2, Bool.true_and] at Q1
            refine ⟨_, rfl, _, _, rfl, rfl, _, rfl, ite2 (fun e3 => ?_) (fun e3 => ?_)⟩
            · rw [show decide (0 < p) = true from e3, Bool.true_or] at Q1
              exact Q1
            · rw [show decide (0 < p) = false from Bool.eq_false_iff.mpr e3, Bool.false_or] at Q1
              exact ⟨_, rfl, _, _, rfl, rfl, Q1⟩
          · have e2 : ¬ m = t := fun z => e2 (decide_eq_true (by rw [z]))
            rw [decide_eq_false e2, Bool.false_and] at Q1
            exact Q1
    | none =>
    rw [metG_none hpo, misG_none hpo] at Q1
    have q : ∀ H', Same H H' → Q (.bl false) H' := Q1
    obtain ⟨U, hk, ht, _⟩ := hd.kd
    by_cases e0 : U = "tuple"
    · obtain ⟨ds, rfl⟩ := ht.mp e0
      cases hd with
      | @tup a xs _ hS hall =>
      refine ⟨_, rfl, _, _, _, _, _, rfl, .ty _, (Kd.tup hS).ty, kit_ty (Kd.tup hS).tuple?, _, rfl, iteF ?_⟩
      refine ⟨_, rfl, Nat.zero_le _, fun p1 H1 n1 s1 e1 => ?_⟩
      refine ⟨a, p1, _, rfl, rfl, seT s1 hS, .inl (.inl e1), _, rfl, ?_⟩
      cases hall with
      | nil => exact iteT (q H1 s1)
      | @cons x xr d0 dr h1 h2 =>
        refine iteF ?_
        obtain ⟨U0, hk0, _, hs0, _⟩ := (h1.same s1).kd
        refine ⟨_, rfl, a, _, 0, _, rfl, rfl, seT s1 hS, atI_nat (j := 0) rfl, _, _, _, _, _, rfl, .ty _, hk0.ty, kit_ty hk0.str?, _, rfl, ?_⟩
        by_cases e1 : U0 = "str"
        · obtain ⟨wd, rfl⟩ := hs0.mp e1
          rw [decide_eq_true e1]
          refine iteF ?_
          refine ⟨.ref a, rfl, _, rfl, a, _, rfl, seT s1 hS, fun p2 H2 s2 e2 => ?_⟩
          rw [cut_rest] at e2
          refine ⟨p2, rfl, ⟨_, e2⟩, fun pD nD => ?_⟩
          refine lcT (K := K) (a := p2) (xs := xr) (fun i H' => Same H2 H' ∧ ∃ us, H' pD = some (.lst us) ∧ us.length ≤ i ∧ (us = [] → (xr.take i).all Cl.isI = true)) nD (fun H' e1 e2 => ⟨e1, [], e2, Nat.le_refl _, fun _ => rfl⟩) (fun i H' _ z => seT z.1 e2) (fun i x H' hx z => ?_) (fun H5 z => ?_)
          · obtain ⟨t1, us, t2, hlu, hz⟩ := z
            obtain ⟨T0, kx⟩ := dqs_kd (h2.same (s1.trans (s2.trans t1))) x (List.mem_of_getElem? hx)
            have hix : i < xr.length := (List.getElem?_eq_some_iff.mp hx).1
            have hxl : xr.length ≤ 900 := by
              have := ob.2 _ rfl
              rw [List.length_cons] at this
              have := h2.len
              omega
            refine ⟨rfl, _, rfl, x, T0, rfl, kx, _, rfl, ?_⟩
            cases hI : Cl.isI x with
            | true =>
              refine iteF ⟨t1, us, t2, by omega, fun e => ?_⟩
              rw [List.take_add_one, hx, List.all_append, hz e]
              simp [hI]
            | false =>
              refine iteT ⟨_, rfl, us, t2, small1000 (by omega), fun b o z => ?_, us ++ [x], upd_same, by rw [List.length_append]; simp; omega, fun e => ?_⟩
              · rw [upd_ne (ne_of_none z nD)]
                exact t1 _ _ z
              · simp at e
          · obtain ⟨t1, us, t2, hlu, hz⟩ := z
            rw [List.take_length] at hz
            refine ⟨Nat.zero_le _, fun p6 H6 n6 s6 g6 => ⟨pD, p6, us, rfl, rfl, .inl (.inl (s6 _ _ t2)), .inl (.inl g6), _, rfl, ?_⟩⟩
            cases us with
            | nil =>
              have hz := hz rfl
              rw [dqs_all h2] at hz
              have hpo : (intsD dr).map (fun ns => (wd, ns)) = none := hpo
              cases hi : intsD dr with
              | none => rw [hi] at hz; cases hz
              | some ns => rw [hi] at hpo; cases hpo
            | cons _ _ => exact iteT (q H6 (s1.trans (s2.trans (t1.trans s6))))
        · rw [decide_eq_false e1]
          exact iteT (q H1 s1)
    · refine ⟨_, rfl, _, _, _, _, _, rfl, .ty _, hk.ty, kit_ty hk.tuple?, _, rfl, ?_⟩
      rw [decide_eq_false e0]
      exact iteT (q H (.refl _))

end
end Cl

set_option maxHeartbeats 0
namespace Cl
open PySem PySem.Spec PyProof.Rows L2
open GxR (TabB TabG)

section
variable {P : Program} {w : World} {K : PySem.W.Frag} {mg : Str → Option Value} {base : Heap}

theorem okGis_paper {f Pt : Addr} {fd : FuncData} (F : Fun K "is_paper" "is_paper" sis_paper f fd) (T : Bt mg) (Dare_wholes : Def P w K mg base 3 "are_wholes" ["thing", "many"] (spAre K Pt)) :
    FnG P w K mg base CX0 4 f fd ["thing", "word", "many"] (spPaperQ K Pt) := by
  refine okG (k := 3) F scis_paper (fun vs H Q E h => ?_) (fun cdv A outer s H vs Q E hr h => ?_)
  · obtain ⟨v, w, m, d, rfl, _⟩ := h
    rfl
  · obtain ⟨v, w2, m, d, rfl, hT, hd, q⟩ := h
    refine ⟨_, (pss_one (ps_ret (pe_and (pe_callB call_isi (by rfl) T.isinstance (by decide +kernel) (pa_cons (pv 0) (pa_cons (pe_bltn (v := .ty "tuple") (by rfl) T.tuple (by decide +kernel) rfl) pa_nil))) (pe_and (pe_cmpR (op_eqFirst hr.room.units) (pe_slice sl_tupB (pv 0) po_none (po_some pe_int)) (tupN (pa_cons (pv 1) pa_nil)) (nomark _)) (pe_one (callD Dare_wholes (hr.mono (by decide)) (pa_cons (pe_slice sl_tupB (pv 0) (po_some pe_int) po_none) (pa_cons (pv 2) pa_nil)))))))), ?_⟩
    obtain ⟨U, hk, ht, _⟩ := hd.kd
    by_cases e0 : U = "tuple"
    · obtain ⟨ds, rfl⟩ := ht.mp e0
      cases hd with
      | @tup a xs _ hS hall =>
      refine ⟨_, rfl, _, _, _, _, _, rfl, .ty _, (Kd.tup hS).ty, kit_ty (Kd.tup hS).tuple?, _, rfl, iteT ?_⟩
      refine ⟨.ref a, rfl, _, rfl, a, _, rfl, hS, fun p1 H1 s1 e1 => ?_⟩
      rw [cut_first] at e1
      refine ⟨_, rfl, (by show 1 ≤ sizeLine; decide), fun p2 H2 n2 s2 e2 => ?_⟩
      refine ⟨p1, p2, xs.take 1, ds.take 1, w2, rfl, rfl, seT s2 e1, (dqs_take 1 hall).same (s1.trans s2), by rw [List.length_take]; omega, .inl (.inl e2), _, rfl, ?_⟩
      have S2 := s1.trans s2
      have key : ∀ b, isPapQ (.tuple ds) w2 m = b → Q (.bl b) H2 := fun b hb => hb ▸ q H2 S2
      cases hall with
      | nil => exact iteF (key _ rfl)
      | @cons x xr d0 dr h1 h2 =>
        cases d0 with
        | str wd =>
          cases h1
          show if (wd == w2) = true then _ else _
          refine ite2 (fun e => ?_) (fun e => ?_)
          · have e := eq_of_beq e
            subst e
            refine ⟨.ref a, rfl, _, rfl, a, _, rfl, seT S2 hS, fun p3 H3 s3 e3 => ?_⟩
            rw [cut_rest] at e3
            refine ⟨_, rfl, .ref p3, m, some xr, rfl, (S2.trans s3).tab hT, ⟨p3, rfl, e3, fun x hx => dqs_kd (h2.same (S2.trans s3)) x hx⟩, fun H4 s4 => ?_⟩
            have := q H4 (S2.trans (s3.trans s4))
            have ev : wholes (some xr) m = isPapQ (.tuple (.str wd :: dr)) wd m := by
              show (decide ((xr.length : Int) = m) && xr.all isI) = _
              rw [dqs_all h2, h2.len]
              cases hi : intsD dr with
              | none =>
                rw [isPapQ_none (by show (intsD dr).map _ = _; rw [hi]; rfl)]
                simp
              | some ns =>
                rw [isPapQ_some (p := (wd, ns)) (by show (intsD dr).map _ = _; rw [hi]; rfl)]
                have : dr.length = ns.length := by rw [intsD_some hi, List.length_map]
                simp [this]
            rw [ev]
            exact this
          · refine key _ ?_
            have ne : wd ≠ w2 := fun z => e (by rw [z]; exact beq_self_eq_true _)
            show isPapQ (.tuple (.str wd :: dr)) w2 m = _
            cases hi : intsD dr with
            | none => rw [isPapQ_none (by show (intsD dr).map _ = _; rw [hi]; rfl)]
            | some ns =>
              rw [isPapQ_some (p := (wd, ns)) (by show (intsD dr).map _ = _; rw [hi]; rfl), decide_eq_false ne, Bool.false_and]
        | none => exact iteF (key _ rfl)
        | bool _ => exact iteF (key _ rfl)
        | int _ => exact iteF (key _ rfl)
        | list _ => exact iteF (key _ rfl)
        | tuple _ => exact iteF (key _ rfl)
        | dict _ => exact iteF (key _ rfl)
    · refine ⟨_, rfl, _, _, _, _, _, rfl, .ty _, hk.ty, kit_ty hk.tuple?, _, rfl, ?_⟩
      rw [decide_eq_false e0]
      refine iteF ?_
      have := q H (.refl _)
      rw [isPapQ_none (by
        cases d with
        | tuple ds => exact absurd (ht.mpr ⟨ds, rfl⟩) e0
        | _ => rfl)] at this
      exact this

theorem okGmet_holds {f Pt : Addr} {fd : FuncData} (F : Fun K "met_holds" "met_holds" smet_holds f fd) (T : Bt mg) (Dis_paper : Def P w K mg base 4 "is_paper" ["thing", "word", "many"] (spPaperQ K Pt)) (Dis_share : Def P w K mg base 1 "is_share" ["k", "m"] spShareQ) (Dspot_at : Def P w K mg base 3 "spot_at" ["line", "k", "m"] (spSpotAt K)) (Dcorner_at : Def P w K mg base 2 "corner_at" ["grain", "spot"] (spCornerX K)) :
    FnG P w K mg base CX0 5 f fd ["grain", "line", "corner", "thing"] (spMetG K Pt) := by
  refine okG (k := 4) F scmet_holds (fun vs H Q E h => ?_) (fun cdv A outer s H vs Q E hr h => ?_)
  · obtain ⟨g, v, u, w, r, c, d, rfl, _⟩ := h
    rfl
  · obtain ⟨g, v, u, w, r, c, d, rfl, hT, hL, hc, bd, hd, ob, q⟩ := h
    refine ⟨_, (pss_cons (ps_if (pt_not (pt_val (callD Dis_paper (hr.mono (by decide)) (pa_cons (pv 3) (pa_cons pe_str (pa_cons pe_int pa_nil)))))) (pss_one (ps_ret pe_bl)) pss_nil)
      (pss_cons (ps_asg (pe_slice sl_tupB (pv 3) (po_some pe_int) po_none) (pg_tup (by rfl) (pgs_cons (pg_name (i := 4) scmet_holds.nd rfl (.inl rfl)) (pgs_cons (pg_name (i := 5) scmet_holds.nd rfl (.inl rfl)) pgs_nil))))
      (pss_one (ps_ret (pe_and (callD Dis_share (hr.mono (by decide)) (pa_cons (pv 4) (pa_cons (pv 5) pa_nil))) (pe_one (pe_cmpR (op_eqD hr.room.units) (callD Dcorner_at (hr.mono (by decide)) (pa_cons (pv 0) (pa_cons (callD Dspot_at (hr.mono (by decide)) (pa_cons (pv 1) (pa_cons (pv 4) (pa_cons (pv 5) pa_nil)))) pa_nil))) (pv 2) (nomark _)))))))), ?_⟩
    refine ⟨_, rfl, w, "meets", 2, d, rfl, hT, hd, fun H1 s1 => ?_⟩
    cases hpo : papOf d with
    | none =>
      rw [isPapQ_none hpo]
      have := q H1 s1
      rw [metG_none hpo] at this
      exact ⟨false, rfl, iteT this⟩
    | some pr =>
    obtain ⟨wd, ns⟩ := pr
    rw [isPapQ_some hpo]
    rw [metG_some hpo] at q
    have hp := papOf_pap hpo hd
    obtain ⟨hb, sh⟩ := ob.1 _ _ hpo
    simp only at q ⊢
    by_cases hw : wd = "meets" ∧ ns.length = 2
    · obtain ⟨rfl, hn⟩ := hw
      obtain ⟨k, m, rfl⟩ : ∃ k m, ns = [k, m] := by
        match ns, hn with
        | [k, m], _ => exact ⟨k, m, rfl⟩
      obtain ⟨a, rfl, hS⟩ := hp
      refine ⟨true, rfl, iteF ?_⟩
      refine ⟨.ref a, rfl, _, rfl, a, _, rfl, seT s1 hS, fun p1 H2 s2 e2 => ?_⟩
      rw [cut_rest] at e2
      refine ⟨p1, _, rfl, e2, rfl, _, _, rfl, _, _, rfl, rfl, ?_⟩
      have S2 := s1.trans s2
      have ev : isMet g r c "meets" [k, m] = (shQ k m && hoB g r c k m) := by
        show (decide ((("meets" : Str)) = "meets") && _) = _
        rw [decide_eq_true rfl]
        exact Bool.true_and _
      rw [ev] at q
      refine ⟨_, rfl, _, rfl, k, m, rfl, _, rfl, ?_⟩
      cases h1 : shQ k m with
      | false =>
        rw [h1, Bool.false_and] at q
        rw [show (decide (1 ≤ m) && (decide (0 ≤ k) && decide (k ≤ m))) = false from h1]
        exact iteF (q H2 S2)
      | true =>
        rw [h1, Bool.true_and] at q
        rw [show (decide (1 ≤ m) && (decide (0 ≤ k) && decide (k ≤ m))) = true from h1]
        have m1 := (shQ_iff.mp h1).1
        have mb := hb m (by simp)
        obtain ⟨g0, g1, b1, b2, b3⟩ := bd
        refine iteT ⟨_, rfl, _, rfl, _, rfl, _, rfl, v, r, k, m, rfl, hL.same S2, bdl_of b1 b2 (by decide), by omega, by omega, fun w1 H3 s3 e3 => ?_⟩
        obtain ⟨d0, d1, dE⟩ := corner_share (r := r) (c := c) (p := k) g0 (show 0 < m by omega)
        have dg : (sp3 (m * r.1.1 + k * (r.2.1 - r.1.1)) (m * r.1.2 + k * (r.2.2 - r.1.2)) m).2.2 * g < 2 ^ 201 := by
          have := Int.mul_le_mul d1 g1 (by omega) (by omega : 0 ≤ m)
          omega
        refine ⟨g, w1, _, rfl, e3, g0, by omega, d0, dg, fun w2 H4 s4 e4 => ?_⟩
        obtain ⟨a2, rfl, g2⟩ := e4
        have S4 := S2.trans (s3.trans s4)
        obtain ⟨a3, rfl, g3⟩ := hc.same S4
        refine ⟨_, rfl, .tuple [.int _, .int _], .tuple [.int c.1, .int c.2], .tup g2 (.cons (.int _) (.cons (.int _) .nil)), .tup g3 (.cons (.int _) (.cons (.int _) .nil)), rfl, rfl, ?_⟩
        rw [eqv_pair]
        have := q H4 S4
        have e9 : hoB g r c k m = decide ((nr (sp3 (m * r.1.1 + k * (r.2.1 - r.1.1)) (m * r.1.2 + k * (r.2.2 - r.1.2)) m).1 ((sp3 (m * r.1.1 + k * (r.2.1 - r.1.1)) (m * r.1.2 + k * (r.2.2 - r.1.2)) m).2.2 * g)) = c.1 ∧ (nr (sp3 (m * r.1.1 + k * (r.2.1 - r.1.1)) (m * r.1.2 + k * (r.2.2 - r.1.2)) m).2.1 ((sp3 (m * r.1.1 + k * (r.2.1 - r.1.1)) (m * r.1.2 + k * (r.2.2 - r.1.2)) m).2.2 * g)) = c.2) := by
          rw [Bool.eq_iff_iff, hoB_iff, ← dE, decide_eq_true_iff]
          exact ⟨fun z => ⟨congrArg Prod.fst z, congrArg Prod.snd z⟩, fun z => Prod.ext z.1 z.2⟩
        rw [e9] at this
        exact this
    · have hv : (decide (wd = "meets") && decide ((ns.length : Int) = 2)) = false := by
        rw [Bool.and_eq_false_iff]
        by_cases h1 : wd = "meets"
        · exact .inr (decide_eq_false fun z => hw ⟨h1, by omega⟩)
        · exact .inl (decide_eq_false h1)
      rw [hv]
      have := q H1 s1
      rw [isMet_not hw] at this
      exact ⟨false, rfl, iteT this⟩

theorem okGmissed_holds {f c Pt Pa : Addr} {fd : FuncData} (F : Fun K "missed_holds" "missed_holds" smissed_holds f fd) (hc : fd.code = .ref c) (TB : GxR.TabB base mg c Pt) (T : Bt mg) (Dis_paper : Def P w K mg base 4 "is_paper" ["thing", "word", "many"] (spPaperQ K Pa)) (Dkeeps_below : Def P w K mg base 3 "keeps_below" ["grain", "corner", "p", "q", "r"] (spKeeps K)) :
    FnG P w K mg base CX0 5 f fd ["grain", "line", "corner", "thing"] (spMisG K Pa Pt) := by
  refine okGT (k := 4) F hc scmissed_holds (fun vs H Q E h => ?_) (fun A outer s H vs Q E hr h => ?_)
  · obtain ⟨g, v, u, w, r, c, d, rfl, _⟩ := h
    rfl
  · obtain ⟨g, v, u, w, r, c, d, rfl, hTa, hT, hL, hc, bd, hd, ob, Q1⟩ := h
    refine ⟨_, (pss_cons (ps_if (pt_not (pt_val (callD Dis_paper (hr.mono (by decide)) (pa_cons (pv 3) (pa_cons pe_str (pa_cons pe_int pa_nil)))))) (pss_one (ps_ret pe_bl)) pss_nil)
      (pss_cons (ps_asg (pe_slice sl_tupB (pv 3) (po_some pe_int) po_none) (pg_tup (by rfl) (pgs_cons (pg_name (i := 4) scmissed_holds.nd rfl (.inr rfl)) (pgs_cons (pg_name (i := 5) scmissed_holds.nd rfl (.inr rfl)) (pgs_cons (pg_name (i := 6) scmissed_holds.nd rfl (.inr rfl)) pgs_nil)))))
      (pss_cons (ps_if (PW.pt (pw_or (pt_cmpR (op_eqD hr.room.units) (tupN (pa_cons (pv 4) (pa_cons (pv 5) pa_nil))) (tupN (pa_cons pe_int (pa_cons pe_int pa_nil))) (nomark _)) (pw_or1 (pt_not (pt_val (callD Dkeeps_below (hr.mono (by decide)) (pa_cons (pv 0) (pa_cons (pv 2) (pa_cons (pv 4) (pa_cons (pv 5) (pa_cons (pv 6) pa_nil))))))))))) (pss_one (ps_ret pe_bl)) pss_nil)
      (pss_one (ps_ret (pe_allP (s1 := 4) (s2 := 5) (s3 := 6) hr.room (by rfl) T.all TB rfl (pv 1) ⟨rfl, rfl, by decide +kernel, rfl, rfl, rfl, by decide, by decide +kernel, by decide +kernel, by decide +kernel, by decide +kernel, rfl, rfl, rfl, PySem.W.cellsFrom_some _ _ _ (.inl rfl), PySem.W.cellsFrom_some _ _ _ (.inl rfl), PySem.W.cellsFrom_some _ _ _ (.inl rfl)⟩ rfl rfl rfl (elt_least rfl rfl rfl rfl rfl rfl))))))), ?_⟩
    refine ⟨_, rfl, w, "misses", 3, d, rfl, hTa, hd, fun H1 s1 => ?_⟩
    cases hpo : papOf d with
    | none =>
      rw [isPapQ_none hpo]
      have := Q1 H1 s1
      rw [misG_none hpo] at this
      exact ⟨false, rfl, iteT this⟩
    | some pr =>
    obtain ⟨wd, ns⟩ := pr
    rw [isPapQ_some hpo]
    rw [misG_some hpo] at Q1
    have hp := papOf_pap hpo hd
    obtain ⟨hb, sh⟩ := ob.1 _ _ hpo
    simp only at Q1 ⊢
    by_cases hw : wd = "misses" ∧ ns.length = 3
    · obtain ⟨rfl, hn⟩ := hw
      obtain ⟨p, q, t, rfl⟩ : ∃ p q t, ns = [p, q, t] := by
        match ns, hn with
        | [p, q, t], _ => exact ⟨p, q, t, rfl⟩
      obtain ⟨a, rfl, hS⟩ := hp
      refine ⟨true, rfl, iteF ?_⟩
      refine ⟨.ref a, rfl, _, rfl, a, _, rfl, seT s1 hS, fun p1 H2 s2 e2 => ?_⟩
      rw [cut_rest] at e2
      refine ⟨p1, _, rfl, e2, rfl, _, _, rfl, _, _, rfl, _, _, rfl, rfl, ?_⟩
      have S2 := s1.trans s2
      have ev : isMiss g r c "misses" [p, q, t] = (!decide (p = 0 ∧ q = 0) && (keepB g c p q t && (ptsOf r).all (least p q t))) := by
        show (decide ((("misses" : Str)) = "misses") && _) = _
        rw [decide_eq_true rfl]
        exact Bool.true_and _
      rw [ev] at Q1
      refine ⟨_, rfl, _, rfl, (by show 2 ≤ sizeLine; decide), fun p3 H3 n3 s3 e3 => ⟨(by show 2 ≤ sizeLine; decide), fun p4 H4 n4 s4 e4 => ?_⟩⟩
      have S4 := S2.trans (s3.trans s4)
      refine ⟨.tuple [.int p, .int q], .tuple [.int 0, .int 0], .tup (.inl (.inl (s4 _ _ e3))) (.cons (.int _) (.cons (.int _) .nil)), .tup (.inl (.inl e4)) (.cons (.int _) (.cons (.int _) .nil)), rfl, rfl, _, rfl, ?_⟩
      rw [eqv_pair]
      refine ite2 (fun e => ?_) (fun e => ?_)
      · have := Q1 H4 S4
        rw [e] at this
        exact iteT this
      rw [Bool.eq_false_iff.mpr e] at Q1
      refine ⟨_, rfl, _, rfl, _, rfl, _, rfl, _, rfl, g, u, c, p, q, t, rfl, hc.same S4, ⟨bd.1, bd.2.1, bd.2.2.2.2⟩, fun H5 s5 => ⟨_, rfl, ?_⟩⟩
      have S5 := S4.trans s5
      cases hk : keepB g c p q t with
      | false =>
        rw [hk] at Q1
        exact iteT (Q1 H5 S5)
      | true =>
        rw [hk] at Q1
        obtain ⟨a1, vs1, rfl, h1, h2⟩ := pts_at hL
        refine iteF ⟨_, rfl, a1, vs1, ptsOf r, p, q, t, rfl, seT S5 h1, h2.map fun _ _ z => z.same S5, rfl, rfl, rfl, cb_of (bdl_of bd.2.2.1 bd.2.2.2.1 (by decide)) _ _ _, S5.tab hT, fun H6 s6 t6 => ?_⟩
        exact Q1 H6 (S5.trans s6)
    · have hv : (decide (wd = "misses") && decide ((ns.length : Int) = 3)) = false := by
        rw [Bool.and_eq_false_iff]
        by_cases h1 : wd = "misses"
        · exact .inr (decide_eq_false fun z => hw ⟨h1, by omega⟩)
        · exact .inl (decide_eq_false h1)
      rw [hv]
      have := Q1 H1 s1
      rw [isMiss_not hw] at this
      exact ⟨false, rfl, iteT this⟩

theorem okGmeets_holds {f Pt Pa : Addr} {fd : FuncData} (F : Fun K "meets_holds" "meets_holds" smeets_holds f fd) (T : Bt mg) (Dmet_holds : Def P w K mg base 5 "met_holds" ["grain", "line", "corner", "thing"] (spMetG K Pa)) (Dmissed_holds : Def P w K mg base 5 "missed_holds" ["grain", "line", "corner", "thing"] (spMisG K Pa Pt)) :
    FnG P w K mg base CX0 6 f fd ["grain", "line", "corner", "thing"] (spHoldsD K Pa Pt) := by
  refine okG (k := 5) F scmeets_holds (fun vs H Q E h => ?_) (fun cdv A outer s H vs Q E hr h => ?_)
  · obtain ⟨g, v, u, w, r, c, d, rfl, _⟩ := h
    rfl
  · obtain ⟨g, v, u, w, r, c, d, rfl, hTa, hT, hL, hc, bd, hd, ob, q⟩ := h
    refine ⟨_, (pss_one (ps_ret (pe_or (callD Dmet_holds (hr.mono (by decide)) (pa_cons (pv 0) (pa_cons (pv 1) (pa_cons (pv 2) (pa_cons (pv 3) pa_nil))))) (pe_one (callD Dmissed_holds (hr.mono (by decide)) (pa_cons (pv 0) (pa_cons (pv 1) (pa_cons (pv 2) (pa_cons (pv 3) pa_nil))))))))), ?_⟩
    refine ⟨_, rfl, _, rfl, _, rfl, _, rfl, g, v, u, w, r, c, d, rfl, hTa, hL, hc, bd, hd, ob, fun H1 s1 => ⟨_, rfl, ?_⟩⟩
    cases h1 : metG g r c d with
    | true =>
      rw [h1, Bool.true_or] at q
      exact iteT (q H1 s1)
    | false =>
      rw [h1, Bool.false_or] at q
      exact iteF ⟨_, rfl, _, rfl, _, rfl, _, rfl, g, v, u, w, r, c, d, rfl, s1.tab hTa, s1.tab hT, hL.same s1, hc.same s1, bd, hd.same s1, ob, fun H2 s2 => q H2 (s1.trans s2)⟩

end
end Cl

set_option maxHeartbeats 0
namespace Cl
open PySem PySem.Spec PyProof.Rows L2
open GxR (TabB TabG)

def spLawTs (K : PySem.W.Frag) : List (Addr × Addr) → Sp
  | [p, p2] => spLawT K p.2 p2.2
  | _ => fun _ _ Q _ => ∀ H', Q (.bl true) H'
def noTab (K : PySem.W.Frag) : Bool := K.all fun p => match p.2.cls, p.2.data with
  | .none, .fields vs => vs.size != 0
  | _, _ => true
theorem noTab_at {K : PySem.W.Frag} {h : Heap} {P : Addr} (X : K.In h) (n : noTab K = true) (e : h.get? P = some { cls := .none, data := .fields #[] }) : K.lookup P = none := by
  cases q : K.lookup P with
  | none => rfl
  | some o =>
    have h1 := X _ _ q
    rw [e] at h1
    cases h1
    have hm : ∀ (L : List (Addr × Obj)) (o : Obj), L.lookup P = some o → (P, o) ∈ L := fun L => by
      induction L with
      | nil => intro o z; cases z
      | cons y L ih =>
        intro o z
        rw [List.lookup_cons] at z
        split at z
        · rename_i hb
          have := eq_of_beq hb
          cases z
          rw [this]
          exact List.mem_cons_self ..
        · exact List.mem_cons_of_mem _ (ih _ z)
    have := List.all_eq_true.mp n _ (hm _ _ q)
    cases this

theorem all_mk {l : PySem.W.OpenLaw} {w : World} {K : PySem.W.Frag} {h : Heap} {mg : Str → Option Value} {fa : Addr} (X : K.In h) (G : h.Ns mainGlobals mg) (hfa : mg "law" = some (.ref fa))
    {f_law_deck : Addr} {od_law_deck an_law_deck : Option Addr} {sl_law_deck : Array (Option Value)} {oc_law_deck kV_law_deck dc_law_deck pm_law_deck cd_law_deck ct_law_deck : Value}
    {f_law_draw : Addr} {od_law_draw an_law_draw : Option Addr} {sl_law_draw : Array (Option Value)} {oc_law_draw kV_law_draw dc_law_draw pm_law_draw cd_law_draw ct_law_draw : Value}
    {f_law_grain : Addr} {od_law_grain an_law_grain : Option Addr} {sl_law_grain : Array (Option Value)} {oc_law_grain kV_law_grain dc_law_grain pm_law_grain cd_law_grain ct_law_grain : Value}
    {f_law_point : Addr} {od_law_point an_law_point : Option Addr} {sl_law_point : Array (Option Value)} {oc_law_point kV_law_point dc_law_point pm_law_point cd_law_point ct_law_point : Value}
    {f_law_unlike : Addr} {od_law_unlike an_law_unlike : Option Addr} {sl_law_unlike : Array (Option Value)} {oc_law_unlike kV_law_unlike dc_law_unlike pm_law_unlike cd_law_unlike ct_law_unlike : Value}
    {f_law_line : Addr} {od_law_line an_law_line : Option Addr} {sl_law_line : Array (Option Value)} {oc_law_line kV_law_line dc_law_line pm_law_line cd_law_line ct_law_line : Value}
    {f_law_lines : Addr} {od_law_lines an_law_lines : Option Addr} {sl_law_lines : Array (Option Value)} {oc_law_lines kV_law_lines dc_law_lines pm_law_lines cd_law_lines ct_law_lines : Value}
    {f_law_moved : Addr} {od_law_moved an_law_moved : Option Addr} {sl_law_moved : Array (Option Value)} {oc_law_moved kV_law_moved dc_law_moved pm_law_moved cd_law_moved ct_law_moved : Value}
    {f_law_nearest : Addr} {od_law_nearest an_law_nearest : Option Addr} {sl_law_nearest : Array (Option Value)} {oc_law_nearest kV_law_nearest dc_law_nearest pm_law_nearest cd_law_nearest ct_law_nearest : Value}
    {f_law_far : Addr} {od_law_far an_law_far : Option Addr} {sl_law_far : Array (Option Value)} {oc_law_far kV_law_far dc_law_far pm_law_far cd_law_far ct_law_far : Value}
    {f_law_some_line : Addr} {od_law_some_line an_law_some_line : Option Addr} {sl_law_some_line : Array (Option Value)} {oc_law_some_line kV_law_some_line dc_law_some_line pm_law_some_line cd_law_some_line ct_law_some_line : Value}
    {f_law_near : Addr} {od_law_near an_law_near : Option Addr} {sl_law_near : Array (Option Value)} {oc_law_near kV_law_near dc_law_near pm_law_near cd_law_near ct_law_near : Value}
    {fgreatest_parting : Addr} {odgreatest_parting angreatest_parting : Option Addr} {slgreatest_parting : Array (Option Value)} {ocgreatest_parting kVgreatest_parting dcgreatest_parting pmgreatest_parting cdgreatest_parting ctgreatest_parting : Value}
    {fnearest : Addr} {odnearest annearest : Option Addr} {slnearest : Array (Option Value)} {ocnearest kVnearest dcnearest pmnearest cdnearest ctnearest : Value}
    {frims_of : Addr} {odrims_of anrims_of : Option Addr} {slrims_of : Array (Option Value)} {ocrims_of kVrims_of dcrims_of pmrims_of cdrims_of ctrims_of : Value}
    {fspot_of : Addr} {odspot_of anspot_of : Option Addr} {slspot_of : Array (Option Value)} {ocspot_of kVspot_of dcspot_of pmspot_of cdspot_of ctspot_of : Value}
    {fstep_of : Addr} {odstep_of anstep_of : Option Addr} {slstep_of : Array (Option Value)} {ocstep_of kVstep_of dcstep_of pmstep_of cdstep_of ctstep_of : Value}
    {fspot_at : Addr} {odspot_at anspot_at : Option Addr} {slspot_at : Array (Option Value)} {ocspot_at kVspot_at dcspot_at pmspot_at cdspot_at ctspot_at : Value}
    {fcorner_at : Addr} {odcorner_at ancorner_at : Option Addr} {slcorner_at : Array (Option Value)} {occorner_at kVcorner_at dccorner_at pmcorner_at cdcorner_at ctcorner_at : Value}
    {flowest : Addr} {odlowest anlowest : Option Addr} {sllowest : Array (Option Value)} {oclowest kVlowest dclowest pmlowest cdlowest ctlowest : Value}
    {fis_less : Addr} {odis_less anis_less : Option Addr} {slis_less : Array (Option Value)} {ocis_less kVis_less dcis_less pmis_less cdis_less ctis_less : Value}
    {fgreater_of : Addr} {odgreater_of angreater_of : Option Addr} {slgreater_of : Array (Option Value)} {ocgreater_of kVgreater_of dcgreater_of pmgreater_of cdgreater_of ctgreater_of : Value}
    {flesser_of : Addr} {odlesser_of anlesser_of : Option Addr} {sllesser_of : Array (Option Value)} {oclesser_of kVlesser_of dclesser_of pmlesser_of cdlesser_of ctlesser_of : Value}
    {fshares_within : Addr} {odshares_within anshares_within : Option Addr} {slshares_within : Array (Option Value)} {ocshares_within kVshares_within dcshares_within pmshares_within cdshares_within ctshares_within : Value}
    {fshare_in : Addr} {odshare_in anshare_in : Option Addr} {slshare_in : Array (Option Value)} {ocshare_in kVshare_in dcshare_in pmshare_in cdshare_in ctshare_in : Value}
    {fways_across : Addr} {odways_across anways_across : Option Addr} {slways_across : Array (Option Value)} {ocways_across kVways_across dcways_across pmways_across cdways_across ctways_across : Value}
    {fleast_by : Addr} {odleast_by anleast_by : Option Addr} {slleast_by : Array (Option Value)} {ocleast_by kVleast_by dcleast_by pmleast_by cdleast_by ctleast_by : Value}
    {fare_wholes : Addr} {odare_wholes anare_wholes : Option Addr} {slare_wholes : Array (Option Value)} {ocare_wholes kVare_wholes dcare_wholes pmare_wholes cdare_wholes ctare_wholes : Value}
    {fis_share : Addr} {odis_share anis_share : Option Addr} {slis_share : Array (Option Value)} {ocis_share kVis_share dcis_share pmis_share cdis_share ctis_share : Value}
    {fgreatest_in : Addr} {odgreatest_in angreatest_in : Option Addr} {slgreatest_in : Array (Option Value)} {ocgreatest_in kVgreatest_in dcgreatest_in pmgreatest_in cdgreatest_in ctgreatest_in : Value}
    {fkeeps_below : Addr} {odkeeps_below ankeeps_below : Option Addr} {slkeeps_below : Array (Option Value)} {ockeeps_below kVkeeps_below dckeeps_below pmkeeps_below cdkeeps_below ctkeeps_below : Value}
    {flies_beyond : Addr} {odlies_beyond anlies_beyond : Option Addr} {sllies_beyond : Array (Option Value)} {oclies_beyond kVlies_beyond dclies_beyond pmlies_beyond cdlies_beyond ctlies_beyond : Value}
    {fmisses_paper : Addr} {odmisses_paper anmisses_paper : Option Addr} {slmisses_paper : Array (Option Value)} {ocmisses_paper kVmisses_paper dcmisses_paper pmmisses_paper cdmisses_paper ctmisses_paper : Value}
    {fmeets_paper : Addr} {odmeets_paper anmeets_paper : Option Addr} {slmeets_paper : Array (Option Value)} {ocmeets_paper kVmeets_paper dcmeets_paper pmmeets_paper cdmeets_paper ctmeets_paper : Value}
    {f_law_is_whole : Addr} {od_law_is_whole an_law_is_whole : Option Addr} {sl_law_is_whole : Array (Option Value)} {oc_law_is_whole kV_law_is_whole dc_law_is_whole pm_law_is_whole cd_law_is_whole ct_law_is_whole : Value}
    {fis_paper : Addr} {odis_paper anis_paper : Option Addr} {slis_paper : Array (Option Value)} {ocis_paper kVis_paper dcis_paper pmis_paper cdis_paper ctis_paper : Value}
    {fmet_holds : Addr} {odmet_holds anmet_holds : Option Addr} {slmet_holds : Array (Option Value)} {ocmet_holds kVmet_holds dcmet_holds pmmet_holds cdmet_holds ctmet_holds : Value}
    {fmissed_holds : Addr} {odmissed_holds anmissed_holds : Option Addr} {slmissed_holds : Array (Option Value)} {ocmissed_holds kVmissed_holds dcmissed_holds pmmissed_holds cdmissed_holds ctmissed_holds : Value}
    {fmeets_holds : Addr} {odmeets_holds anmeets_holds : Option Addr} {slmeets_holds : Array (Option Value)} {ocmeets_holds kVmeets_holds dcmeets_holds pmmeets_holds cdmeets_holds ctmeets_holds : Value}
    {f_law_is_paper : Addr} {od_law_is_paper an_law_is_paper : Option Addr} {sl_law_is_paper : Array (Option Value)} {oc_law_is_paper kV_law_is_paper dc_law_is_paper pm_law_is_paper cd_law_is_paper ct_law_is_paper : Value}
    {f_law_spots : Addr} {od_law_spots an_law_spots : Option Addr} {sl_law_spots : Array (Option Value)} {oc_law_spots kV_law_spots dc_law_spots pm_law_spots cd_law_spots ct_law_spots : Value}
    {f_law_with : Addr} {od_law_with an_law_with : Option Addr} {sl_law_with : Array (Option Value)} {oc_law_with kV_law_with dc_law_with pm_law_with cd_law_with ct_law_with : Value}
    {f_law_bent : Addr} {od_law_bent an_law_bent : Option Addr} {sl_law_bent : Array (Option Value)} {oc_law_bent kV_law_bent dc_law_bent pm_law_bent cd_law_bent ct_law_bent : Value}
    {f_law_told : Addr} {od_law_told an_law_told : Option Addr} {sl_law_told : Array (Option Value)} {oc_law_told kV_law_told dc_law_told pm_law_told cd_law_told ct_law_told : Value}
    {f_law_spoils : Addr} {od_law_spoils an_law_spoils : Option Addr} {sl_law_spoils : Array (Option Value)} {oc_law_spoils kV_law_spoils dc_law_spoils pm_law_spoils cd_law_spoils ct_law_spoils : Value}
    {fis_whole : Addr} {odis_whole anis_whole : Option Addr} {slis_whole : Array (Option Value)} {ocis_whole kVis_whole dcis_whole pmis_whole cdis_whole ctis_whole : Value}
    {flaw : Addr} {odlaw anlaw : Option Addr} {sllaw : Array (Option Value)} {oclaw kVlaw dclaw pmlaw cdlaw ctlaw : Value}
    (a_law_deck : PySem.W.nsIn K mainGlobals "_law_deck" = some (some (.ref f_law_deck))) (l_law_deck : K.lookup f_law_deck = some ⟨oc_law_deck, od_law_deck, .func (PySem.W.fnOf "_law_deck" "_law_deck" (defArgs s_law_deck) (defBody s_law_deck) (defScope s_law_deck) .none kV_law_deck dc_law_deck pm_law_deck an_law_deck cd_law_deck ct_law_deck), sl_law_deck⟩) (c_law_deck : PySem.W.codeIn K cd_law_deck "_law_deck" = true) (k_law_deck : PySem.W.keepIn K (.ref f_law_deck) = true)
    (a_law_draw : PySem.W.nsIn K mainGlobals "_law_draw" = some (some (.ref f_law_draw))) (l_law_draw : K.lookup f_law_draw = some ⟨oc_law_draw, od_law_draw, .func (PySem.W.fnOf "_law_draw" "_law_draw" (defArgs s_law_draw) (defBody s_law_draw) (defScope s_law_draw) .none kV_law_draw dc_law_draw pm_law_draw an_law_draw cd_law_draw ct_law_draw), sl_law_draw⟩) (c_law_draw : PySem.W.codeIn K cd_law_draw "_law_draw" = true) (k_law_draw : PySem.W.keepIn K (.ref f_law_draw) = true)
    (a_law_grain : PySem.W.nsIn K mainGlobals "_law_grain" = some (some (.ref f_law_grain))) (l_law_grain : K.lookup f_law_grain = some ⟨oc_law_grain, od_law_grain, .func (PySem.W.fnOf "_law_grain" "_law_grain" (defArgs s_law_grain) (defBody s_law_grain) (defScope s_law_grain) .none kV_law_grain dc_law_grain pm_law_grain an_law_grain cd_law_grain ct_law_grain), sl_law_grain⟩) (c_law_grain : PySem.W.codeIn K cd_law_grain "_law_grain" = true) (k_law_grain : PySem.W.keepIn K (.ref f_law_grain) = true)
    (a_law_point : PySem.W.nsIn K mainGlobals "_law_point" = some (some (.ref f_law_point))) (l_law_point : K.lookup f_law_point = some ⟨oc_law_point, od_law_point, .func (PySem.W.fnOf "_law_point" "_law_point" (defArgs s_law_point) (defBody s_law_point) (defScope s_law_point) .none kV_law_point dc_law_point pm_law_point an_law_point cd_law_point ct_law_point), sl_law_point⟩) (c_law_point : PySem.W.codeIn K cd_law_point "_law_point" = true) (k_law_point : PySem.W.keepIn K (.ref f_law_point) = true)
    (a_law_unlike : PySem.W.nsIn K mainGlobals "_law_unlike" = some (some (.ref f_law_unlike))) (l_law_unlike : K.lookup f_law_unlike = some ⟨oc_law_unlike, od_law_unlike, .func (PySem.W.fnOf "_law_unlike" "_law_unlike" (defArgs s_law_unlike) (defBody s_law_unlike) (defScope s_law_unlike) .none kV_law_unlike dc_law_unlike pm_law_unlike an_law_unlike cd_law_unlike ct_law_unlike), sl_law_unlike⟩) (c_law_unlike : PySem.W.codeIn K cd_law_unlike "_law_unlike" = true) (k_law_unlike : PySem.W.keepIn K (.ref f_law_unlike) = true)
    (a_law_line : PySem.W.nsIn K mainGlobals "_law_line" = some (some (.ref f_law_line))) (l_law_line : K.lookup f_law_line = some ⟨oc_law_line, od_law_line, .func (PySem.W.fnOf "_law_line" "_law_line" (defArgs s_law_line) (defBody s_law_line) (defScope s_law_line) .none kV_law_line dc_law_line pm_law_line an_law_line cd_law_line ct_law_line), sl_law_line⟩) (c_law_line : PySem.W.codeIn K cd_law_line "_law_line" = true) (k_law_line : PySem.W.keepIn K (.ref f_law_line) = true)
    (a_law_lines : PySem.W.nsIn K mainGlobals "_law_lines" = some (some (.ref f_law_lines))) (l_law_lines : K.lookup f_law_lines = some ⟨oc_law_lines, od_law_lines, .func (PySem.W.fnOf "_law_lines" "_law_lines" (defArgs s_law_lines) (defBody s_law_lines) (defScope s_law_lines) .none kV_law_lines dc_law_lines pm_law_lines an_law_lines cd_law_lines ct_law_lines), sl_law_lines⟩) (c_law_lines : PySem.W.codeIn K cd_law_lines "_law_lines" = true) (k_law_lines : PySem.W.keepIn K (.ref f_law_lines) = true)
    (a_law_moved : PySem.W.nsIn K mainGlobals "_law_moved" = some (some (.ref f_law_moved))) (l_law_moved : K.lookup f_law_moved = some ⟨oc_law_moved, od_law_moved, .func (PySem.W.fnOf "_law_moved" "_law_moved" (defArgs s_law_moved) (defBody s_law_moved) (defScope s_law_moved) .none kV_law_moved dc_law_moved pm_law_moved an_law_moved cd_law_moved ct_law_moved), sl_law_moved⟩) (c_law_moved : PySem.W.codeIn K cd_law_moved "_law_moved" = true) (k_law_moved : PySem.W.keepIn K (.ref f_law_moved) = true)
    (a_law_nearest : PySem.W.nsIn K mainGlobals "_law_nearest" = some (some (.ref f_law_nearest))) (l_law_nearest : K.lookup f_law_nearest = some ⟨oc_law_nearest, od_law_nearest, .func (PySem.W.fnOf "_law_nearest" "_law_nearest" (defArgs s_law_nearest) (defBody s_law_nearest) (defScope s_law_nearest) .none kV_law_nearest dc_law_nearest pm_law_nearest an_law_nearest cd_law_nearest ct_law_nearest), sl_law_nearest⟩) (c_law_nearest : PySem.W.codeIn K cd_law_nearest "_law_nearest" = true) (k_law_nearest : PySem.W.keepIn K (.ref f_law_nearest) = true)
    (a_law_far : PySem.W.nsIn K mainGlobals "_law_far" = some (some (.ref f_law_far))) (l_law_far : K.lookup f_law_far = some ⟨oc_law_far, od_law_far, .func (PySem.W.fnOf "_law_far" "_law_far" (defArgs s_law_far) (defBody s_law_far) (defScope s_law_far) .none kV_law_far dc_law_far pm_law_far an_law_far cd_law_far ct_law_far), sl_law_far⟩) (c_law_far : PySem.W.codeIn K cd_law_far "_law_far" = true) (k_law_far : PySem.W.keepIn K (.ref f_law_far) = true)
    (a_law_some_line : PySem.W.nsIn K mainGlobals "_law_some_line" = some (some (.ref f_law_some_line))) (l_law_some_line : K.lookup f_law_some_line = some ⟨oc_law_some_line, od_law_some_line, .func (PySem.W.fnOf "_law_some_line" "_law_some_line" (defArgs s_law_some_line) (defBody s_law_some_line) (defScope s_law_some_line) .none kV_law_some_line dc_law_some_line pm_law_some_line an_law_some_line cd_law_some_line ct_law_some_line), sl_law_some_line⟩) (c_law_some_line : PySem.W.codeIn K cd_law_some_line "_law_some_line" = true) (k_law_some_line : PySem.W.keepIn K (.ref f_law_some_line) = true)
    (a_law_near : PySem.W.nsIn K mainGlobals "_law_near" = some (some (.ref f_law_near))) (l_law_near : K.lookup f_law_near = some ⟨oc_law_near, od_law_near, .func (PySem.W.fnOf "_law_near" "_law_near" (defArgs s_law_near) (defBody s_law_near) (defScope s_law_near) .none kV_law_near dc_law_near pm_law_near an_law_near cd_law_near ct_law_near), sl_law_near⟩) (c_law_near : PySem.W.codeIn K cd_law_near "_law_near" = true) (k_law_near : PySem.W.keepIn K (.ref f_law_near) = true)
    (agreatest_parting : PySem.W.nsIn K mainGlobals "greatest_parting" = some (some (.ref fgreatest_parting))) (lgreatest_parting : K.lookup fgreatest_parting = some ⟨ocgreatest_parting, odgreatest_parting, .func (PySem.W.fnOf "greatest_parting" "greatest_parting" (defArgs sgreatest_parting) (defBody sgreatest_parting) (defScope sgreatest_parting) .none kVgreatest_parting dcgreatest_parting pmgreatest_parting angreatest_parting cdgreatest_parting ctgreatest_parting), slgreatest_parting⟩) (cgreatest_parting : PySem.W.codeIn K cdgreatest_parting "greatest_parting" = true) (kgreatest_parting : PySem.W.keepIn K (.ref fgreatest_parting) = true)
    (anearest : PySem.W.nsIn K mainGlobals "nearest" = some (some (.ref fnearest))) (lnearest : K.lookup fnearest = some ⟨ocnearest, odnearest, .func (PySem.W.fnOf "nearest" "nearest" (defArgs snearest) (defBody snearest) (defScope snearest) .none kVnearest dcnearest pmnearest annearest cdnearest ctnearest), slnearest⟩) (cnearest : PySem.W.codeIn K cdnearest "nearest" = true) (knearest : PySem.W.keepIn K (.ref fnearest) = true)
    (arims_of : PySem.W.nsIn K mainGlobals "rims_of" = some (some (.ref frims_of))) (lrims_of : K.lookup frims_of = some ⟨ocrims_of, odrims_of, .func (PySem.W.fnOf "rims_of" "rims_of" (defArgs srims_of) (defBody srims_of) (defScope srims_of) .none kVrims_of dcrims_of pmrims_of anrims_of cdrims_of ctrims_of), slrims_of⟩) (crims_of : PySem.W.codeIn K cdrims_of "rims_of" = true) (krims_of : PySem.W.keepIn K (.ref frims_of) = true)
    (aspot_of : PySem.W.nsIn K mainGlobals "spot_of" = some (some (.ref fspot_of))) (lspot_of : K.lookup fspot_of = some ⟨ocspot_of, odspot_of, .func (PySem.W.fnOf "spot_of" "spot_of" (defArgs sspot_of) (defBody sspot_of) (defScope sspot_of) .none kVspot_of dcspot_of pmspot_of anspot_of cdspot_of ctspot_of), slspot_of⟩) (cspot_of : PySem.W.codeIn K cdspot_of "spot_of" = true) (kspot_of : PySem.W.keepIn K (.ref fspot_of) = true)
    (astep_of : PySem.W.nsIn K mainGlobals "step_of" = some (some (.ref fstep_of))) (lstep_of : K.lookup fstep_of = some ⟨ocstep_of, odstep_of, .func (PySem.W.fnOf "step_of" "step_of" (defArgs sstep_of) (defBody sstep_of) (defScope sstep_of) .none kVstep_of dcstep_of pmstep_of anstep_of cdstep_of ctstep_of), slstep_of⟩) (cstep_of : PySem.W.codeIn K cdstep_of "step_of" = true) (kstep_of : PySem.W.keepIn K (.ref fstep_of) = true)
    (aspot_at : PySem.W.nsIn K mainGlobals "spot_at" = some (some (.ref fspot_at))) (lspot_at : K.lookup fspot_at = some ⟨ocspot_at, odspot_at, .func (PySem.W.fnOf "spot_at" "spot_at" (defArgs sspot_at) (defBody sspot_at) (defScope sspot_at) .none kVspot_at dcspot_at pmspot_at anspot_at cdspot_at ctspot_at), slspot_at⟩) (cspot_at : PySem.W.codeIn K cdspot_at "spot_at" = true) (kspot_at : PySem.W.keepIn K (.ref fspot_at) = true)
    (acorner_at : PySem.W.nsIn K mainGlobals "corner_at" = some (some (.ref fcorner_at))) (lcorner_at : K.lookup fcorner_at = some ⟨occorner_at, odcorner_at, .func (PySem.W.fnOf "corner_at" "corner_at" (defArgs scorner_at) (defBody scorner_at) (defScope scorner_at) .none kVcorner_at dccorner_at pmcorner_at ancorner_at cdcorner_at ctcorner_at), slcorner_at⟩) (ccorner_at : PySem.W.codeIn K cdcorner_at "corner_at" = true) (kcorner_at : PySem.W.keepIn K (.ref fcorner_at) = true)
    (alowest : PySem.W.nsIn K mainGlobals "lowest" = some (some (.ref flowest))) (llowest : K.lookup flowest = some ⟨oclowest, odlowest, .func (PySem.W.fnOf "lowest" "lowest" (defArgs slowest) (defBody slowest) (defScope slowest) .none kVlowest dclowest pmlowest anlowest cdlowest ctlowest), sllowest⟩) (clowest : PySem.W.codeIn K cdlowest "lowest" = true) (klowest : PySem.W.keepIn K (.ref flowest) = true)
    (ais_less : PySem.W.nsIn K mainGlobals "is_less" = some (some (.ref fis_less))) (lis_less : K.lookup fis_less = some ⟨ocis_less, odis_less, .func (PySem.W.fnOf "is_less" "is_less" (defArgs sis_less) (defBody sis_less) (defScope sis_less) .none kVis_less dcis_less pmis_less anis_less cdis_less ctis_less), slis_less⟩) (cis_less : PySem.W.codeIn K cdis_less "is_less" = true) (kis_less : PySem.W.keepIn K (.ref fis_less) = true)
    (agreater_of : PySem.W.nsIn K mainGlobals "greater_of" = some (some (.ref fgreater_of))) (lgreater_of : K.lookup fgreater_of = some ⟨ocgreater_of, odgreater_of, .func (PySem.W.fnOf "greater_of" "greater_of" (defArgs sgreater_of) (defBody sgreater_of) (defScope sgreater_of) .none kVgreater_of dcgreater_of pmgreater_of angreater_of cdgreater_of ctgreater_of), slgreater_of⟩) (cgreater_of : PySem.W.codeIn K cdgreater_of "greater_of" = true) (kgreater_of : PySem.W.keepIn K (.ref fgreater_of) = true)
    (alesser_of : PySem.W.nsIn K mainGlobals "lesser_of" = some (some (.ref flesser_of))) (llesser_of : K.lookup flesser_of = some ⟨oclesser_of, odlesser_of, .func (PySem.W.fnOf "lesser_of" "lesser_of" (defArgs slesser_of) (defBody slesser_of) (defScope slesser_of) .none kVlesser_of dclesser_of pmlesser_of anlesser_of cdlesser_of ctlesser_of), sllesser_of⟩) (clesser_of : PySem.W.codeIn K cdlesser_of "lesser_of" = true) (klesser_of : PySem.W.keepIn K (.ref flesser_of) = true)
    (ashares_within : PySem.W.nsIn K mainGlobals "shares_within" = some (some (.ref fshares_within))) (lshares_within : K.lookup fshares_within = some ⟨ocshares_within, odshares_within, .func (PySem.W.fnOf "shares_within" "shares_within" (defArgs sshares_within) (defBody sshares_within) (defScope sshares_within) .none kVshares_within dcshares_within pmshares_within anshares_within cdshares_within ctshares_within), slshares_within⟩) (cshares_within : PySem.W.codeIn K cdshares_within "shares_within" = true) (kshares_within : PySem.W.keepIn K (.ref fshares_within) = true)
    (ashare_in : PySem.W.nsIn K mainGlobals "share_in" = some (some (.ref fshare_in))) (lshare_in : K.lookup fshare_in = some ⟨ocshare_in, odshare_in, .func (PySem.W.fnOf "share_in" "share_in" (defArgs sshare_in) (defBody sshare_in) (defScope sshare_in) .none kVshare_in dcshare_in pmshare_in anshare_in cdshare_in ctshare_in), slshare_in⟩) (cshare_in : PySem.W.codeIn K cdshare_in "share_in" = true) (kshare_in : PySem.W.keepIn K (.ref fshare_in) = true)
    (aways_across : PySem.W.nsIn K mainGlobals "ways_across" = some (some (.ref fways_across))) (lways_across : K.lookup fways_across = some ⟨ocways_across, odways_across, .func (PySem.W.fnOf "ways_across" "ways_across" (defArgs sways_across) (defBody sways_across) (defScope sways_across) .none kVways_across dcways_across pmways_across anways_across cdways_across ctways_across), slways_across⟩) (cways_across : PySem.W.codeIn K cdways_across "ways_across" = true) (kways_across : PySem.W.keepIn K (.ref fways_across) = true)
    (aleast_by : PySem.W.nsIn K mainGlobals "least_by" = some (some (.ref fleast_by))) (lleast_by : K.lookup fleast_by = some ⟨ocleast_by, odleast_by, .func (PySem.W.fnOf "least_by" "least_by" (defArgs sleast_by) (defBody sleast_by) (defScope sleast_by) .none kVleast_by dcleast_by pmleast_by anleast_by cdleast_by ctleast_by), slleast_by⟩) (cleast_by : PySem.W.codeIn K cdleast_by "least_by" = true) (kleast_by : PySem.W.keepIn K (.ref fleast_by) = true)
    (aare_wholes : PySem.W.nsIn K mainGlobals "are_wholes" = some (some (.ref fare_wholes))) (lare_wholes : K.lookup fare_wholes = some ⟨ocare_wholes, odare_wholes, .func (PySem.W.fnOf "are_wholes" "are_wholes" (defArgs sare_wholes) (defBody sare_wholes) (defScope sare_wholes) .none kVare_wholes dcare_wholes pmare_wholes anare_wholes cdare_wholes ctare_wholes), slare_wholes⟩) (care_wholes : PySem.W.codeIn K cdare_wholes "are_wholes" = true) (kare_wholes : PySem.W.keepIn K (.ref fare_wholes) = true)
    (ais_share : PySem.W.nsIn K mainGlobals "is_share" = some (some (.ref fis_share))) (lis_share : K.lookup fis_share = some ⟨ocis_share, odis_share, .func (PySem.W.fnOf "is_share" "is_share" (defArgs sis_share) (defBody sis_share) (defScope sis_share) .none kVis_share dcis_share pmis_share anis_share cdis_share ctis_share), slis_share⟩) (cis_share : PySem.W.codeIn K cdis_share "is_share" = true) (kis_share : PySem.W.keepIn K (.ref fis_share) = true)
    (agreatest_in : PySem.W.nsIn K mainGlobals "greatest_in" = some (some (.ref fgreatest_in))) (lgreatest_in : K.lookup fgreatest_in = some ⟨ocgreatest_in, odgreatest_in, .func (PySem.W.fnOf "greatest_in" "greatest_in" (defArgs sgreatest_in) (defBody sgreatest_in) (defScope sgreatest_in) .none kVgreatest_in dcgreatest_in pmgreatest_in angreatest_in cdgreatest_in ctgreatest_in), slgreatest_in⟩) (cgreatest_in : PySem.W.codeIn K cdgreatest_in "greatest_in" = true) (kgreatest_in : PySem.W.keepIn K (.ref fgreatest_in) = true)
    (akeeps_below : PySem.W.nsIn K mainGlobals "keeps_below" = some (some (.ref fkeeps_below))) (lkeeps_below : K.lookup fkeeps_below = some ⟨ockeeps_below, odkeeps_below, .func (PySem.W.fnOf "keeps_below" "keeps_below" (defArgs skeeps_below) (defBody skeeps_below) (defScope skeeps_below) .none kVkeeps_below dckeeps_below pmkeeps_below ankeeps_below cdkeeps_below ctkeeps_below), slkeeps_below⟩) (ckeeps_below : PySem.W.codeIn K cdkeeps_below "keeps_below" = true) (kkeeps_below : PySem.W.keepIn K (.ref fkeeps_below) = true)
    (alies_beyond : PySem.W.nsIn K mainGlobals "lies_beyond" = some (some (.ref flies_beyond))) (llies_beyond : K.lookup flies_beyond = some ⟨oclies_beyond, odlies_beyond, .func (PySem.W.fnOf "lies_beyond" "lies_beyond" (defArgs slies_beyond) (defBody slies_beyond) (defScope slies_beyond) .none kVlies_beyond dclies_beyond pmlies_beyond anlies_beyond cdlies_beyond ctlies_beyond), sllies_beyond⟩) (clies_beyond : PySem.W.codeIn K cdlies_beyond "lies_beyond" = true) (klies_beyond : PySem.W.keepIn K (.ref flies_beyond) = true)
    (amisses_paper : PySem.W.nsIn K mainGlobals "misses_paper" = some (some (.ref fmisses_paper))) (lmisses_paper : K.lookup fmisses_paper = some ⟨ocmisses_paper, odmisses_paper, .func (PySem.W.fnOf "misses_paper" "misses_paper" (defArgs smisses_paper) (defBody smisses_paper) (defScope smisses_paper) .none kVmisses_paper dcmisses_paper pmmisses_paper anmisses_paper cdmisses_paper ctmisses_paper), slmisses_paper⟩) (cmisses_paper : PySem.W.codeIn K cdmisses_paper "misses_paper" = true) (kmisses_paper : PySem.W.keepIn K (.ref fmisses_paper) = true)
    (ameets_paper : PySem.W.nsIn K mainGlobals "meets_paper" = some (some (.ref fmeets_paper))) (lmeets_paper : K.lookup fmeets_paper = some ⟨ocmeets_paper, odmeets_paper, .func (PySem.W.fnOf "meets_paper" "meets_paper" (defArgs smeets_paper) (defBody smeets_paper) (defScope smeets_paper) .none kVmeets_paper dcmeets_paper pmmeets_paper anmeets_paper cdmeets_paper ctmeets_paper), slmeets_paper⟩) (cmeets_paper : PySem.W.codeIn K cdmeets_paper "meets_paper" = true) (kmeets_paper : PySem.W.keepIn K (.ref fmeets_paper) = true)
    (a_law_is_whole : PySem.W.nsIn K mainGlobals "_law_is_whole" = some (some (.ref f_law_is_whole))) (l_law_is_whole : K.lookup f_law_is_whole = some ⟨oc_law_is_whole, od_law_is_whole, .func (PySem.W.fnOf "_law_is_whole" "_law_is_whole" (defArgs s_law_is_whole) (defBody s_law_is_whole) (defScope s_law_is_whole) .none kV_law_is_whole dc_law_is_whole pm_law_is_whole an_law_is_whole cd_law_is_whole ct_law_is_whole), sl_law_is_whole⟩) (c_law_is_whole : PySem.W.codeIn K cd_law_is_whole "_law_is_whole" = true) (k_law_is_whole : PySem.W.keepIn K (.ref f_law_is_whole) = true)
    (ais_paper : PySem.W.nsIn K mainGlobals "is_paper" = some (some (.ref fis_paper))) (lis_paper : K.lookup fis_paper = some ⟨ocis_paper, odis_paper, .func (PySem.W.fnOf "is_paper" "is_paper" (defArgs sis_paper) (defBody sis_paper) (defScope sis_paper) .none kVis_paper dcis_paper pmis_paper anis_paper cdis_paper ctis_paper), slis_paper⟩) (cis_paper : PySem.W.codeIn K cdis_paper "is_paper" = true) (kis_paper : PySem.W.keepIn K (.ref fis_paper) = true)
    (amet_holds : PySem.W.nsIn K mainGlobals "met_holds" = some (some (.ref fmet_holds))) (lmet_holds : K.lookup fmet_holds = some ⟨ocmet_holds, odmet_holds, .func (PySem.W.fnOf "met_holds" "met_holds" (defArgs smet_holds) (defBody smet_holds) (defScope smet_holds) .none kVmet_holds dcmet_holds pmmet_holds anmet_holds cdmet_holds ctmet_holds), slmet_holds⟩) (cmet_holds : PySem.W.codeIn K cdmet_holds "met_holds" = true) (kmet_holds : PySem.W.keepIn K (.ref fmet_holds) = true)
    (amissed_holds : PySem.W.nsIn K mainGlobals "missed_holds" = some (some (.ref fmissed_holds))) (lmissed_holds : K.lookup fmissed_holds = some ⟨ocmissed_holds, odmissed_holds, .func (PySem.W.fnOf "missed_holds" "missed_holds" (defArgs smissed_holds) (defBody smissed_holds) (defScope smissed_holds) .none kVmissed_holds dcmissed_holds pmmissed_holds anmissed_holds cdmissed_holds ctmissed_holds), slmissed_holds⟩) (cmissed_holds : PySem.W.codeIn K cdmissed_holds "missed_holds" = true) (kmissed_holds : PySem.W.keepIn K (.ref fmissed_holds) = true)
    (ameets_holds : PySem.W.nsIn K mainGlobals "meets_holds" = some (some (.ref fmeets_holds))) (lmeets_holds : K.lookup fmeets_holds = some ⟨ocmeets_holds, odmeets_holds, .func (PySem.W.fnOf "meets_holds" "meets_holds" (defArgs smeets_holds) (defBody smeets_holds) (defScope smeets_holds) .none kVmeets_holds dcmeets_holds pmmeets_holds anmeets_holds cdmeets_holds ctmeets_holds), slmeets_holds⟩) (cmeets_holds : PySem.W.codeIn K cdmeets_holds "meets_holds" = true) (kmeets_holds : PySem.W.keepIn K (.ref fmeets_holds) = true)
    (a_law_is_paper : PySem.W.nsIn K mainGlobals "_law_is_paper" = some (some (.ref f_law_is_paper))) (l_law_is_paper : K.lookup f_law_is_paper = some ⟨oc_law_is_paper, od_law_is_paper, .func (PySem.W.fnOf "_law_is_paper" "_law_is_paper" (defArgs s_law_is_paper) (defBody s_law_is_paper) (defScope s_law_is_paper) .none kV_law_is_paper dc_law_is_paper pm_law_is_paper an_law_is_paper cd_law_is_paper ct_law_is_paper), sl_law_is_paper⟩) (c_law_is_paper : PySem.W.codeIn K cd_law_is_paper "_law_is_paper" = true) (k_law_is_paper : PySem.W.keepIn K (.ref f_law_is_paper) = true)
    (a_law_spots : PySem.W.nsIn K mainGlobals "_law_spots" = some (some (.ref f_law_spots))) (l_law_spots : K.lookup f_law_spots = some ⟨oc_law_spots, od_law_spots, .func (PySem.W.fnOf "_law_spots" "_law_spots" (defArgs s_law_spots) (defBody s_law_spots) (defScope s_law_spots) .none kV_law_spots dc_law_spots pm_law_spots an_law_spots cd_law_spots ct_law_spots), sl_law_spots⟩) (c_law_spots : PySem.W.codeIn K cd_law_spots "_law_spots" = true) (k_law_spots : PySem.W.keepIn K (.ref f_law_spots) = true)
    (a_law_with : PySem.W.nsIn K mainGlobals "_law_with" = some (some (.ref f_law_with))) (l_law_with : K.lookup f_law_with = some ⟨oc_law_with, od_law_with, .func (PySem.W.fnOf "_law_with" "_law_with" (defArgs s_law_with) (defBody s_law_with) (defScope s_law_with) .none kV_law_with dc_law_with pm_law_with an_law_with cd_law_with ct_law_with), sl_law_with⟩) (c_law_with : PySem.W.codeIn K cd_law_with "_law_with" = true) (k_law_with : PySem.W.keepIn K (.ref f_law_with) = true)
    (a_law_bent : PySem.W.nsIn K mainGlobals "_law_bent" = some (some (.ref f_law_bent))) (l_law_bent : K.lookup f_law_bent = some ⟨oc_law_bent, od_law_bent, .func (PySem.W.fnOf "_law_bent" "_law_bent" (defArgs s_law_bent) (defBody s_law_bent) (defScope s_law_bent) .none kV_law_bent dc_law_bent pm_law_bent an_law_bent cd_law_bent ct_law_bent), sl_law_bent⟩) (c_law_bent : PySem.W.codeIn K cd_law_bent "_law_bent" = true) (k_law_bent : PySem.W.keepIn K (.ref f_law_bent) = true)
    (a_law_told : PySem.W.nsIn K mainGlobals "_law_told" = some (some (.ref f_law_told))) (l_law_told : K.lookup f_law_told = some ⟨oc_law_told, od_law_told, .func (PySem.W.fnOf "_law_told" "_law_told" (defArgs s_law_told) (defBody s_law_told) (defScope s_law_told) .none kV_law_told dc_law_told pm_law_told an_law_told cd_law_told ct_law_told), sl_law_told⟩) (c_law_told : PySem.W.codeIn K cd_law_told "_law_told" = true) (k_law_told : PySem.W.keepIn K (.ref f_law_told) = true)
    (a_law_spoils : PySem.W.nsIn K mainGlobals "_law_spoils" = some (some (.ref f_law_spoils))) (l_law_spoils : K.lookup f_law_spoils = some ⟨oc_law_spoils, od_law_spoils, .func (PySem.W.fnOf "_law_spoils" "_law_spoils" (defArgs s_law_spoils) (defBody s_law_spoils) (defScope s_law_spoils) .none kV_law_spoils dc_law_spoils pm_law_spoils an_law_spoils cd_law_spoils ct_law_spoils), sl_law_spoils⟩) (c_law_spoils : PySem.W.codeIn K cd_law_spoils "_law_spoils" = true) (k_law_spoils : PySem.W.keepIn K (.ref f_law_spoils) = true)
    (ais_whole : PySem.W.nsIn K mainGlobals "is_whole" = some (some (.ref fis_whole))) (lis_whole : K.lookup fis_whole = some ⟨ocis_whole, odis_whole, .func (PySem.W.fnOf "is_whole" "is_whole" (defArgs sis_whole) (defBody sis_whole) (defScope sis_whole) .none kVis_whole dcis_whole pmis_whole anis_whole cdis_whole ctis_whole), slis_whole⟩) (cis_whole : PySem.W.codeIn K cdis_whole "is_whole" = true) (kis_whole : PySem.W.keepIn K (.ref fis_whole) = true)
    (alaw : PySem.W.nsIn K mainGlobals "law" = some (some (.ref flaw))) (llaw : K.lookup flaw = some ⟨oclaw, odlaw, .func (PySem.W.fnOf "law" "law" (defArgs slaw) (defBody slaw) (defScope slaw) .none kVlaw dclaw pmlaw anlaw cdlaw ctlaw), sllaw⟩) (claw : PySem.W.codeIn K cdlaw "law" = true) (klaw : PySem.W.keepIn K (.ref flaw) = true)
    (z0 : PySem.W.nsIn K mainGlobals "list" = some none) (z1 : PySem.W.nsIn K mainGlobals "sum" = some none) (z2 : PySem.W.nsIn K mainGlobals "len" = some none) (z3 : PySem.W.nsIn K mainGlobals "range" = some none) (z4 : PySem.W.nsIn K mainGlobals "abs" = some none) (z5 : PySem.W.nsIn K mainGlobals "max" = some none) (z6 : PySem.W.nsIn K mainGlobals "min" = some none) (z7 : PySem.W.nsIn K mainGlobals "tuple" = some none) (z8 : PySem.W.nsIn K mainGlobals "int" = some none) (z9 : PySem.W.nsIn K mainGlobals "sorted" = some none) (z10 : PySem.W.nsIn K mainGlobals "zip" = some none) (z11 : PySem.W.nsIn K mainGlobals "isinstance" = some none) (z12 : PySem.W.nsIn K mainGlobals "all" = some none) (z13 : PySem.W.nsIn K mainGlobals "bool" = some none) (z14 : PySem.W.nsIn K mainGlobals "str" = some none) (z15 : PySem.W.nsIn K mainGlobals "repr" = some none)
    (nt : noTab K = true) (tnare_wholes : TabN mg h "are_wholes") (tnmissed_holds : TabN mg h "missed_holds") :
    ∃ (fd : FuncData) (cs : List (Addr × Addr)), (∀ p ∈ cs, PySem.W.CodeHd h p.1 p.2 ∧ h.TableAt p.1 p.2 #[] ∧ K.lookup p.2 = none) ∧ (∀ (s : Shared) (v : Value), BindsTo s fd ⟨[v], []⟩ [("_law_script", v)]) ∧
      ∀ base : Heap, K.In base → base.Ns mainGlobals mg → (∀ p ∈ cs, GxR.TabB base mg p.1 p.2) → FnG l.prog w K mg base CX0 8 fa fd ["_law_script"] (spLawTs K cs) := by
  have e := hfa.symm.trans (PySem.W.mg_of X G alaw)
  cases e
  have T : Bt mg := ⟨PySem.W.mg_none_of X G z0, PySem.W.mg_none_of X G z1, PySem.W.mg_none_of X G z2, PySem.W.mg_none_of X G z3, PySem.W.mg_none_of X G z4, PySem.W.mg_none_of X G z5, PySem.W.mg_none_of X G z6, PySem.W.mg_none_of X G z7, PySem.W.mg_none_of X G z8, PySem.W.mg_none_of X G z9, PySem.W.mg_none_of X G z10, PySem.W.mg_none_of X G z11, PySem.W.mg_none_of X G z12, PySem.W.mg_none_of X G z13, PySem.W.mg_none_of X G z14, PySem.W.mg_none_of X G z15⟩
  have F_law_deck := fun_mk (st := s_law_deck) l_law_deck c_law_deck k_law_deck
  have b_law_deck := F_law_deck.binds (ps := ["_law_script"]) fun _ _ _ _ _ _ us hl => match us, hl with | [_], _ => rfl
  have F_law_draw := fun_mk (st := s_law_draw) l_law_draw c_law_draw k_law_draw
  have b_law_draw := F_law_draw.binds (ps := ["_law_deck_here", "_law_most"]) fun _ _ _ _ _ _ us hl => match us, hl with | [_, _], _ => rfl
  have F_law_grain := fun_mk (st := s_law_grain) l_law_grain c_law_grain k_law_grain
  have b_law_grain := F_law_grain.binds (ps := ["_law_deck_here"]) fun _ _ _ _ _ _ us hl => match us, hl with | [_], _ => rfl
  have F_law_point := fun_mk (st := s_law_point) l_law_point c_law_point k_law_point
  have b_law_point := F_law_point.binds (ps := ["_law_deck_here", "_law_grain_here", "_law_way"]) fun _ _ _ _ _ _ us hl => match us, hl with | [_, _, _], _ => rfl
  have F_law_unlike := fun_mk (st := s_law_unlike) l_law_unlike c_law_unlike k_law_unlike
  have b_law_unlike := F_law_unlike.binds (ps := ["_law_one", "_law_other"]) fun _ _ _ _ _ _ us hl => match us, hl with | [_, _], _ => rfl
  have F_law_line := fun_mk (st := s_law_line) l_law_line c_law_line k_law_line
  have b_law_line := F_law_line.binds (ps := ["_law_deck_here", "_law_grain_here", "_law_lines_here"]) fun _ _ _ _ _ _ us hl => match us, hl with | [_, _, _], _ => rfl
  have F_law_lines := fun_mk (st := s_law_lines) l_law_lines c_law_lines k_law_lines
  have b_law_lines := F_law_lines.binds (ps := ["_law_deck_here", "_law_grain_here", "_law_many"]) fun _ _ _ _ _ _ us hl => match us, hl with | [_, _, _], _ => rfl
  have F_law_moved := fun_mk (st := s_law_moved) l_law_moved c_law_moved k_law_moved
  have b_law_moved := F_law_moved.binds (ps := ["_law_lines_here", "_law_dx", "_law_dy"]) fun _ _ _ _ _ _ us hl => match us, hl with | [_, _, _], _ => rfl
  have F_law_nearest := fun_mk (st := s_law_nearest) l_law_nearest c_law_nearest k_law_nearest
  have b_law_nearest := F_law_nearest.binds (ps := ["_law_grain_here", "_law_spot"]) fun _ _ _ _ _ _ us hl => match us, hl with | [_, _], _ => rfl
  have F_law_far := fun_mk (st := s_law_far) l_law_far c_law_far k_law_far
  have b_law_far := F_law_far.binds (ps := ["_law_deck_here"]) fun _ _ _ _ _ _ us hl => match us, hl with | [_], _ => rfl
  have F_law_some_line := fun_mk (st := s_law_some_line) l_law_some_line c_law_some_line k_law_some_line
  have b_law_some_line := F_law_some_line.binds (ps := ["_law_deck_here", "_law_grain_here"]) fun _ _ _ _ _ _ us hl => match us, hl with | [_, _], _ => rfl
  have F_law_near := fun_mk (st := s_law_near) l_law_near c_law_near k_law_near
  have b_law_near := F_law_near.binds (ps := ["_law_deck_here", "_law_grain_here", "_law_line_here"]) fun _ _ _ _ _ _ us hl => match us, hl with | [_, _, _], _ => rfl
  have Fgreatest_parting := fun_mk (st := sgreatest_parting) lgreatest_parting cgreatest_parting kgreatest_parting
  have bgreatest_parting := Fgreatest_parting.binds (ps := ["n", "m"]) fun _ _ _ _ _ _ us hl => match us, hl with | [_, _], _ => rfl
  have Fnearest := fun_mk (st := snearest) lnearest cnearest knearest
  have bnearest := Fnearest.binds (ps := ["n", "d"]) fun _ _ _ _ _ _ us hl => match us, hl with | [_, _], _ => rfl
  have Frims_of := fun_mk (st := srims_of) lrims_of crims_of krims_of
  have brims_of := Frims_of.binds (ps := ["grain", "number"]) fun _ _ _ _ _ _ us hl => match us, hl with | [_, _], _ => rfl
  have Fspot_of := fun_mk (st := sspot_of) lspot_of cspot_of kspot_of
  have bspot_of := Fspot_of.binds (ps := ["n", "m", "d"]) fun _ _ _ _ _ _ us hl => match us, hl with | [_, _, _], _ => rfl
  have Fstep_of := fun_mk (st := sstep_of) lstep_of cstep_of kstep_of
  have bstep_of := Fstep_of.binds (ps := ["line"]) fun _ _ _ _ _ _ us hl => match us, hl with | [_], _ => rfl
  have Fspot_at := fun_mk (st := sspot_at) lspot_at cspot_at kspot_at
  have bspot_at := Fspot_at.binds (ps := ["line", "k", "m"]) fun _ _ _ _ _ _ us hl => match us, hl with | [_, _, _], _ => rfl
  have Fcorner_at := fun_mk (st := scorner_at) lcorner_at ccorner_at kcorner_at
  have bcorner_at := Fcorner_at.binds (ps := ["grain", "spot"]) fun _ _ _ _ _ _ us hl => match us, hl with | [_, _], _ => rfl
  have Flowest := fun_mk (st := slowest) llowest clowest klowest
  have blowest := Flowest.binds (ps := ["n", "d"]) fun _ _ _ _ _ _ us hl => match us, hl with | [_, _], _ => rfl
  have Fis_less := fun_mk (st := sis_less) lis_less cis_less kis_less
  have bis_less := Fis_less.binds (ps := ["one", "other"]) fun _ _ _ _ _ _ us hl => match us, hl with | [_, _], _ => rfl
  have Fgreater_of := fun_mk (st := sgreater_of) lgreater_of cgreater_of kgreater_of
  have bgreater_of := Fgreater_of.binds (ps := ["one", "other"]) fun _ _ _ _ _ _ us hl => match us, hl with | [_, _], _ => rfl
  have Flesser_of := fun_mk (st := slesser_of) llesser_of clesser_of klesser_of
  have blesser_of := Flesser_of.binds (ps := ["one", "other"]) fun _ _ _ _ _ _ us hl => match us, hl with | [_, _], _ => rfl
  have Fshares_within := fun_mk (st := sshares_within) lshares_within cshares_within kshares_within
  have bshares_within := Fshares_within.binds (ps := ["grain", "line", "corner"]) fun _ _ _ _ _ _ us hl => match us, hl with | [_, _, _], _ => rfl
  have Fshare_in := fun_mk (st := sshare_in) lshare_in cshare_in kshare_in
  have bshare_in := Fshare_in.binds (ps := ["grain", "line", "corner"]) fun _ _ _ _ _ _ us hl => match us, hl with | [_, _, _], _ => rfl
  have Fways_across := fun_mk (st := sways_across) lways_across cways_across kways_across
  have bways_across := Fways_across.binds (ps := ["line"]) fun _ _ _ _ _ _ us hl => match us, hl with | [_], _ => rfl
  have Fleast_by := fun_mk (st := sleast_by) lleast_by cleast_by kleast_by
  have bleast_by := Fleast_by.binds (ps := ["line", "p", "q"]) fun _ _ _ _ _ _ us hl => match us, hl with | [_, _, _], _ => rfl
  have Fare_wholes := fun_mk (st := sare_wholes) lare_wholes care_wholes kare_wholes
  have bare_wholes := Fare_wholes.binds (ps := ["thing", "many"]) fun _ _ _ _ _ _ us hl => match us, hl with | [_, _], _ => rfl
  have Fis_share := fun_mk (st := sis_share) lis_share cis_share kis_share
  have bis_share := Fis_share.binds (ps := ["k", "m"]) fun _ _ _ _ _ _ us hl => match us, hl with | [_, _], _ => rfl
  have Fgreatest_in := fun_mk (st := sgreatest_in) lgreatest_in cgreatest_in kgreatest_in
  have bgreatest_in := Fgreatest_in.binds (ps := ["grain", "corner", "p", "q"]) fun _ _ _ _ _ _ us hl => match us, hl with | [_, _, _, _], _ => rfl
  have Fkeeps_below := fun_mk (st := skeeps_below) lkeeps_below ckeeps_below kkeeps_below
  have bkeeps_below := Fkeeps_below.binds (ps := ["grain", "corner", "p", "q", "r"]) fun _ _ _ _ _ _ us hl => match us, hl with | [_, _, _, _, _], _ => rfl
  have Flies_beyond := fun_mk (st := slies_beyond) llies_beyond clies_beyond klies_beyond
  have blies_beyond := Flies_beyond.binds (ps := ["grain", "line", "corner", "way"]) fun _ _ _ _ _ _ us hl => match us, hl with | [_, _, _, _], _ => rfl
  have Fmisses_paper := fun_mk (st := smisses_paper) lmisses_paper cmisses_paper kmisses_paper
  have bmisses_paper := Fmisses_paper.binds (ps := ["grain", "line", "corner"]) fun _ _ _ _ _ _ us hl => match us, hl with | [_, _, _], _ => rfl
  have Fmeets_paper := fun_mk (st := smeets_paper) lmeets_paper cmeets_paper kmeets_paper
  have bmeets_paper := Fmeets_paper.binds (ps := ["grain", "line", "corner"]) fun _ _ _ _ _ _ us hl => match us, hl with | [_, _, _], _ => rfl
  have F_law_is_whole := fun_mk (st := s_law_is_whole) l_law_is_whole c_law_is_whole k_law_is_whole
  have b_law_is_whole := F_law_is_whole.binds (ps := ["_law_thing"]) fun _ _ _ _ _ _ us hl => match us, hl with | [_], _ => rfl
  have Fis_paper := fun_mk (st := sis_paper) lis_paper cis_paper kis_paper
  have bis_paper := Fis_paper.binds (ps := ["thing", "word", "many"]) fun _ _ _ _ _ _ us hl => match us, hl with | [_, _, _], _ => rfl
  have Fmet_holds := fun_mk (st := smet_holds) lmet_holds cmet_holds kmet_holds
  have bmet_holds := Fmet_holds.binds (ps := ["grain", "line", "corner", "thing"]) fun _ _ _ _ _ _ us hl => match us, hl with | [_, _, _, _], _ => rfl
  have Fmissed_holds := fun_mk (st := smissed_holds) lmissed_holds cmissed_holds kmissed_holds
  have bmissed_holds := Fmissed_holds.binds (ps := ["grain", "line", "corner", "thing"]) fun _ _ _ _ _ _ us hl => match us, hl with | [_, _, _, _], _ => rfl
  have Fmeets_holds := fun_mk (st := smeets_holds) lmeets_holds cmeets_holds kmeets_holds
  have bmeets_holds := Fmeets_holds.binds (ps := ["grain", "line", "corner", "thing"]) fun _ _ _ _ _ _ us hl => match us, hl with | [_, _, _, _], _ => rfl
  have F_law_is_paper := fun_mk (st := s_law_is_paper) l_law_is_paper c_law_is_paper k_law_is_paper
  have b_law_is_paper := F_law_is_paper.binds (ps := ["_law_grain_here", "_law_line_here", "_law_corner", "_law_thing"]) fun _ _ _ _ _ _ us hl => match us, hl with | [_, _, _, _], _ => rfl
  have F_law_spots := fun_mk (st := s_law_spots) l_law_spots c_law_spots k_law_spots
  have b_law_spots := F_law_spots.binds (ps := ["_law_thing"]) fun _ _ _ _ _ _ us hl => match us, hl with | [_], _ => rfl
  have F_law_with := fun_mk (st := s_law_with) l_law_with c_law_with k_law_with
  have b_law_with := F_law_with.binds (ps := ["_law_thing", "_law_spot", "_law_part"]) fun _ _ _ _ _ _ us hl => match us, hl with | [_, _, _], _ => rfl
  have F_law_bent := fun_mk (st := s_law_bent) l_law_bent c_law_bent k_law_bent
  have b_law_bent := F_law_bent.binds (ps := ["_law_thing", "_law_spoil"]) fun _ _ _ _ _ _ us hl => match us, hl with | [_, _], _ => rfl
  have F_law_told := fun_mk (st := s_law_told) l_law_told c_law_told k_law_told
  have b_law_told := F_law_told.binds (ps := ["_law_grain_here", "_law_line_here", "_law_corner", "_law_thing"]) fun _ _ _ _ _ _ us hl => match us, hl with | [_, _, _, _], _ => rfl
  have F_law_spoils := fun_mk (st := s_law_spoils) l_law_spoils c_law_spoils k_law_spoils
  have b_law_spoils := F_law_spoils.binds (ps := ["_law_deck_here", "_law_many"]) fun _ _ _ _ _ _ us hl => match us, hl with | [_, _], _ => rfl
  have Fis_whole := fun_mk (st := sis_whole) lis_whole cis_whole kis_whole
  have bis_whole := Fis_whole.binds (ps := ["thing"]) fun _ _ _ _ _ _ us hl => match us, hl with | [_], _ => rfl
  have Flaw := fun_mk (st := slaw) llaw claw klaw
  obtain ⟨ft0, ot0, fdt0, c0, Pt0, t1, t2, t3, t4, t50, t60⟩ := tnare_wholes
  have e := t1.symm.trans (PySem.W.mg_of X G aare_wholes)
  cases e
  have e := t2.symm.trans (X _ _ lare_wholes)
  cases e
  cases t3
  have hcd0 : cdare_wholes = .ref c0 := t4
  clear t1 t2 t4
  obtain ⟨ft1, ot1, fdt1, c1, Pt1, t1, t2, t3, t4, t51, t61⟩ := tnmissed_holds
  have e := t1.symm.trans (PySem.W.mg_of X G amissed_holds)
  cases e
  have e := t2.symm.trans (X _ _ lmissed_holds)
  cases e
  cases t3
  have hcd1 : cdmissed_holds = .ref c1 := t4
  clear t1 t2 t4
  refine ⟨PySem.W.fnOf "law" "law" (defArgs slaw) (defBody slaw) (defScope slaw) .none kVlaw dclaw pmlaw anlaw cdlaw ctlaw, [(c0, Pt0), (c1, Pt1)], fun p hp => ?_, fun s v => .of_eq rfl, fun base _ _ hB => ?_⟩
  · simp only [List.mem_cons, List.not_mem_nil, or_false] at hp
    rcases hp with rfl | rfl
    · exact ⟨t50, t60, noTab_at X nt t60.2⟩
    · exact ⟨t51, t61, noTab_at X nt t61.2⟩
  have D_law_deck : Def l.prog w K mg base 1 "_law_deck" ["_law_script"] (spDeck K) := .mk1 F_law_deck (ok_law_deck F_law_deck T) (PySem.W.mg_of X G a_law_deck) b_law_deck
  have D_law_draw : Def l.prog w K mg base 1 "_law_draw" ["_law_deck_here", "_law_most"] spDraw := .mk1 F_law_draw (ok_law_draw F_law_draw T) (PySem.W.mg_of X G a_law_draw) b_law_draw
  have D_law_grain : Def l.prog w K mg base 2 "_law_grain" ["_law_deck_here"] spGrainW := .mk1 F_law_grain (ok_law_grain F_law_grain T D_law_draw) (PySem.W.mg_of X G a_law_grain) b_law_grain
  have D_law_point : Def l.prog w K mg base 2 "_law_point" ["_law_deck_here", "_law_grain_here", "_law_way"] (spPointW K) := .mk1 F_law_point (ok_law_point F_law_point T D_law_draw) (PySem.W.mg_of X G a_law_point) b_law_point
  have D_law_unlike : Def l.prog w K mg base 1 "_law_unlike" ["_law_one", "_law_other"] (spUnlike K) := .mk1 F_law_unlike (ok_law_unlike F_law_unlike T) (PySem.W.mg_of X G a_law_unlike) b_law_unlike
  have D_law_line : Def l.prog w K mg base 3 "_law_line" ["_law_deck_here", "_law_grain_here", "_law_lines_here"] (spLineW K) := .mk1 F_law_line (ok_law_line F_law_line T D_law_draw D_law_unlike D_law_point) (PySem.W.mg_of X G a_law_line) b_law_line
  have D_law_lines : Def l.prog w K mg base 4 "_law_lines" ["_law_deck_here", "_law_grain_here", "_law_many"] (spLinesW K) := .mk1 F_law_lines (ok_law_lines F_law_lines T D_law_draw D_law_line) (PySem.W.mg_of X G a_law_lines) b_law_lines
  have D_law_moved : Def l.prog w K mg base 1 "_law_moved" ["_law_lines_here", "_law_dx", "_law_dy"] (spMovedW K) := .mk1 F_law_moved (ok_law_moved F_law_moved T) (PySem.W.mg_of X G a_law_moved) b_law_moved
  have D_law_nearest : Def l.prog w K mg base 1 "_law_nearest" ["_law_grain_here", "_law_spot"] (spNearestX K) := .mk1 F_law_nearest (ok_law_nearest F_law_nearest T) (PySem.W.mg_of X G a_law_nearest) b_law_nearest
  have D_law_far : Def l.prog w K mg base 2 "_law_far" ["_law_deck_here"] spFarW := .mk1 F_law_far (ok_law_far F_law_far T D_law_draw) (PySem.W.mg_of X G a_law_far) b_law_far
  have D_law_some_line : Def l.prog w K mg base 5 "_law_some_line" ["_law_deck_here", "_law_grain_here"] (spSomeW K) := .mk1 F_law_some_line (ok_law_some_line F_law_some_line T D_law_draw D_law_lines D_law_far D_law_moved) (PySem.W.mg_of X G a_law_some_line) b_law_some_line
  have D_law_near : Def l.prog w K mg base 2 "_law_near" ["_law_deck_here", "_law_grain_here", "_law_line_here"] (spNearW K) := .mk1 F_law_near (ok_law_near F_law_near T D_law_draw D_law_nearest) (PySem.W.mg_of X G a_law_near) b_law_near
  have Dgreatest_parting : Def l.prog w K mg base 1 "greatest_parting" ["n", "m"] spGp := .mk1 Fgreatest_parting (okgreatest_parting Fgreatest_parting T) (PySem.W.mg_of X G agreatest_parting) bgreatest_parting
  have Dnearest : Def l.prog w K mg base 1 "nearest" ["n", "d"] spNear := .mk1 Fnearest (oknearest Fnearest T) (PySem.W.mg_of X G anearest) bnearest
  have Drims_of : Def l.prog w K mg base 1 "rims_of" ["grain", "number"] (spRims K) := .mk1 Frims_of (okrims_of Frims_of T) (PySem.W.mg_of X G arims_of) brims_of
  have Dspot_of : Def l.prog w K mg base 2 "spot_of" ["n", "m", "d"] spSpotOf := .mk1 Fspot_of (okspot_of Fspot_of T Dgreatest_parting) (PySem.W.mg_of X G aspot_of) bspot_of
  have Dstep_of : Def l.prog w K mg base 1 "step_of" ["line"] (spStep K) := .mk1 Fstep_of (okstep_of Fstep_of T) (PySem.W.mg_of X G astep_of) bstep_of
  have Dspot_at : Def l.prog w K mg base 3 "spot_at" ["line", "k", "m"] (spSpotAt K) := .mk1 Fspot_at (okspot_at Fspot_at T Dstep_of Dspot_of) (PySem.W.mg_of X G aspot_at) bspot_at
  have Dcorner_at : Def l.prog w K mg base 2 "corner_at" ["grain", "spot"] (spCornerAt K) := .mk1 Fcorner_at (okcorner_at Fcorner_at T Dnearest) (PySem.W.mg_of X G acorner_at) bcorner_at
  have Dlowest : Def l.prog w K mg base 2 "lowest" ["n", "d"] (spLowG K) := .mk1 Flowest (oklowest Flowest T Dgreatest_parting) (PySem.W.mg_of X G alowest) blowest
  have Dis_less : Def l.prog w K mg base 1 "is_less" ["one", "other"] (spSooner K) := .mk1 Fis_less (okis_less Fis_less T) (PySem.W.mg_of X G ais_less) bis_less
  have Dgreater_of : Def l.prog w K mg base 2 "greater_of" ["one", "other"] (spLater K later) := .mk1 Fgreater_of (okgreater_of Fgreater_of T Dis_less) (PySem.W.mg_of X G agreater_of) bgreater_of
  have Dlesser_of : Def l.prog w K mg base 2 "lesser_of" ["one", "other"] (spLater K soon) := .mk1 Flesser_of (oklesser_of Flesser_of T Dis_less) (PySem.W.mg_of X G alesser_of) blesser_of
  have Dshares_within : Def l.prog w K mg base 3 "shares_within" ["grain", "line", "corner"] (spWithin K) := .mk1 Fshares_within (okshares_within Fshares_within T Drims_of Dstep_of Dgreater_of Dlesser_of Dis_less) (PySem.W.mg_of X G ashares_within) bshares_within
  have Dshare_in : Def l.prog w K mg base 4 "share_in" ["grain", "line", "corner"] (spShareF K) := .mk1 Fshare_in (okshare_in Fshare_in T Dshares_within Dlowest Dcorner_at Dspot_at) (PySem.W.mg_of X G ashare_in) bshare_in
  have Dways_across : Def l.prog w K mg base 2 "ways_across" ["line"] (spWaysA K) := .mk1 Fways_across (okways_across Fways_across T Dstep_of) (PySem.W.mg_of X G aways_across) bways_across
  have Dleast_by : Def l.prog w K mg base 1 "least_by" ["line", "p", "q"] (spLeast K) := .mk1 Fleast_by (okleast_by Fleast_by T) (PySem.W.mg_of X G aleast_by) bleast_by
  have Dare_wholes : Def l.prog w K mg base 3 "are_wholes" ["thing", "many"] (spAre K Pt0) := .mk1 Fare_wholes (okare_wholes Fare_wholes hcd0 (hB (c0, Pt0) (by simp)) T (qw_is_whole Fis_whole T bis_whole) (PySem.W.mg_of X G ais_whole) Fis_whole.kp) (PySem.W.mg_of X G aare_wholes) bare_wholes
  have Dis_share : Def l.prog w K mg base 1 "is_share" ["k", "m"] spShareQ := .mk1 Fis_share (okis_share Fis_share T) (PySem.W.mg_of X G ais_share) bis_share
  have Dgreatest_in : Def l.prog w K mg base 2 "greatest_in" ["grain", "corner", "p", "q"] (spGreat K) := .mk1 Fgreatest_in (okgreatest_in Fgreatest_in T Drims_of) (PySem.W.mg_of X G agreatest_in) bgreatest_in
  have Dkeeps_below : Def l.prog w K mg base 3 "keeps_below" ["grain", "corner", "p", "q", "r"] (spKeeps K) := .mk1 Fkeeps_below (okkeeps_below Fkeeps_below T Dgreatest_in) (PySem.W.mg_of X G akeeps_below) bkeeps_below
  have Dlies_beyond : Def l.prog w K mg base 4 "lies_beyond" ["grain", "line", "corner", "way"] (spByd K) := .mk1 Flies_beyond (oklies_beyond Flies_beyond T Dleast_by Dkeeps_below) (PySem.W.mg_of X G alies_beyond) blies_beyond
  have Dmisses_paper : Def l.prog w K mg base 5 "misses_paper" ["grain", "line", "corner"] (spMissP K) := .mk1 Fmisses_paper (okmisses_paper Fmisses_paper T Dways_across Dlies_beyond Dleast_by) (PySem.W.mg_of X G amisses_paper) bmisses_paper
  have Dmeets_paper : Def l.prog w K mg base 6 "meets_paper" ["grain", "line", "corner"] (spMP K) := .mk1 Fmeets_paper (okmeets_paper Fmeets_paper T Dshare_in Dmisses_paper) (PySem.W.mg_of X G ameets_paper) bmeets_paper
  have D_law_is_whole : Def l.prog w K mg base 1 "_law_is_whole" ["_law_thing"] (spWhole K) := .mk1 F_law_is_whole (ok_law_is_whole F_law_is_whole T) (PySem.W.mg_of X G a_law_is_whole) b_law_is_whole
  have DXnearest : Def l.prog w K mg base 1 "nearest" ["n", "d"] spNearX := .mk1 Fnearest (okXnearest Fnearest T) (PySem.W.mg_of X G anearest) bnearest
  have DXcorner_at : Def l.prog w K mg base 2 "corner_at" ["grain", "spot"] (spCornerX K) := .mk1 Fcorner_at (okXcorner_at Fcorner_at T DXnearest) (PySem.W.mg_of X G acorner_at) bcorner_at
  have Dis_paper : Def l.prog w K mg base 4 "is_paper" ["thing", "word", "many"] (spPaperQ K Pt0) := .mk1 Fis_paper (okGis_paper Fis_paper T Dare_wholes) (PySem.W.mg_of X G ais_paper) bis_paper
  have Dmet_holds : Def l.prog w K mg base 5 "met_holds" ["grain", "line", "corner", "thing"] (spMetG K Pt0) := .mk1 Fmet_holds (okGmet_holds Fmet_holds T Dis_paper Dis_share Dspot_at DXcorner_at) (PySem.W.mg_of X G amet_holds) bmet_holds
  have Dmissed_holds : Def l.prog w K mg base 5 "missed_holds" ["grain", "line", "corner", "thing"] (spMisG K Pt0 Pt1) := .mk1 Fmissed_holds (okGmissed_holds Fmissed_holds hcd1 (hB (c1, Pt1) (by simp)) T Dis_paper Dkeeps_below) (PySem.W.mg_of X G amissed_holds) bmissed_holds
  have Dmeets_holds : Def l.prog w K mg base 6 "meets_holds" ["grain", "line", "corner", "thing"] (spHoldsD K Pt0 Pt1) := .mk1 Fmeets_holds (okGmeets_holds Fmeets_holds T Dmet_holds Dmissed_holds) (PySem.W.mg_of X G ameets_holds) bmeets_holds
  have D_law_is_paper : Def l.prog w K mg base 2 "_law_is_paper" ["_law_grain_here", "_law_line_here", "_law_corner", "_law_thing"] (spCPapG K) := .mk1 F_law_is_paper (okG_law_is_paper F_law_is_paper T D_law_is_whole) (PySem.W.mg_of X G a_law_is_paper) b_law_is_paper
  have D_law_spots : Def l.prog w K mg base 1 "_law_spots" ["_law_thing"] (spSpots K 0) := .mk1 F_law_spots (spots_zero) (PySem.W.mg_of X G a_law_spots) b_law_spots
  have D_law_with : Def l.prog w K mg base 1 "_law_with" ["_law_thing", "_law_spot", "_law_part"] (spWith K 0) := .mk1 F_law_with (with_zero) (PySem.W.mg_of X G a_law_with) b_law_with
  have D_law_spots : Def l.prog w K mg base 2 "_law_spots" ["_law_thing"] (spSpots K 1) := .mk1 F_law_spots (ok_law_spots F_law_spots T D_law_spots) (PySem.W.mg_of X G a_law_spots) b_law_spots
  have D_law_with : Def l.prog w K mg base 2 "_law_with" ["_law_thing", "_law_spot", "_law_part"] (spWith K 1) := .mk1 F_law_with (ok_law_with F_law_with T D_law_with) (PySem.W.mg_of X G a_law_with) b_law_with
  have D_law_spots : Def l.prog w K mg base 3 "_law_spots" ["_law_thing"] (spSpots K 2) := .mk1 F_law_spots (ok_law_spots F_law_spots T D_law_spots) (PySem.W.mg_of X G a_law_spots) b_law_spots
  have D_law_with : Def l.prog w K mg base 3 "_law_with" ["_law_thing", "_law_spot", "_law_part"] (spWith K 2) := .mk1 F_law_with (ok_law_with F_law_with T D_law_with) (PySem.W.mg_of X G a_law_with) b_law_with
  have D_law_spots : Def l.prog w K mg base 4 "_law_spots" ["_law_thing"] (spSpots K 3) := .mk1 F_law_spots (ok_law_spots F_law_spots T D_law_spots) (PySem.W.mg_of X G a_law_spots) b_law_spots
  have D_law_with : Def l.prog w K mg base 4 "_law_with" ["_law_thing", "_law_spot", "_law_part"] (spWith K 3) := .mk1 F_law_with (ok_law_with F_law_with T D_law_with) (PySem.W.mg_of X G a_law_with) b_law_with
  have D_law_bent : Def l.prog w K mg base 5 "_law_bent" ["_law_thing", "_law_spoil"] (spBentC K) := .mk1 F_law_bent (ok_law_bent F_law_bent T D_law_spots D_law_with) (PySem.W.mg_of X G a_law_bent) b_law_bent
  have D_law_told : Def l.prog w K mg base 7 "_law_told" ["_law_grain_here", "_law_line_here", "_law_corner", "_law_thing"] (spTold K Pt0 Pt1) := .mk1 F_law_told (ok_law_told F_law_told T Dmeets_holds D_law_is_paper) (PySem.W.mg_of X G a_law_told) b_law_told
  have D_law_spoils : Def l.prog w K mg base 2 "_law_spoils" ["_law_deck_here", "_law_many"] (spSpoils K) := .mk1 F_law_spoils (ok_law_spoils F_law_spoils T D_law_draw) (PySem.W.mg_of X G a_law_spoils) b_law_spoils
  exact oklaw Flaw T D_law_deck D_law_draw D_law_spoils D_law_grain D_law_some_line D_law_near Dmeets_paper D_law_bent D_law_told
end Cl
open PySem PySem.W PyProof.Rows
set_option maxHeartbeats 0 in
theorem PySem.Challenge.cw_cornerlines_k19_papers_of_cells_spoilt_holds : PySem.Challenge.rw_cornerlines_k19_papers_of_cells_spoilt.Holds := by
  w_on; o_law; k_head; (case hw => w_witness2)
  k_fill
  refine Cl.endGT (l := PySem.Challenge.rw_cornerlines_k19_papers_of_cells_spoilt) (n := 63) (k := 8) (x := "_law_script") (ts := ["are_wholes", "missed_holds"]) (sp := fun K cs => Cl.spLawTs K cs) rfl (by decide) rfl ⟨⟨rfl, by decide, by decide⟩, rfl⟩ (by rfl) (fun w h Y => PySem.W.kIn_of Y) ?F ?hsp
  case F =>
    intro w mg fa h KX G hmg tn
    refine' Cl.all_mk KX G hmg ?a0 ?l0 ?c0 ?k0 ?a1 ?l1 ?c1 ?k1 ?a2 ?l2 ?c2 ?k2 ?a3 ?l3 ?c3 ?k3 ?a4 ?l4 ?c4 ?k4 ?a5 ?l5 ?c5 ?k5 ?a6 ?l6 ?c6 ?k6 ?a7 ?l7 ?c7 ?k7 ?a8 ?l8 ?c8 ?k8 ?a9 ?l9 ?c9 ?k9 ?a10 ?l10 ?c10 ?k10 ?a11 ?l11 ?c11 ?k11 ?a12 ?l12 ?c12 ?k12 ?a13 ?l13 ?c13 ?k13 ?a14 ?l14 ?c14 ?k14 ?a15 ?l15 ?c15 ?k15 ?a16 ?l16 ?c16 ?k16 ?a17 ?l17 ?c17 ?k17 ?a18 ?l18 ?c18 ?k18 ?a19 ?l19 ?c19 ?k19 ?a20 ?l20 ?c20 ?k20 ?a21 ?l21 ?c21 ?k21 ?a22 ?l22 ?c22 ?k22 ?a23 ?l23 ?c23 ?k23 ?a24 ?l24 ?c24 ?k24 ?a25 ?l25 ?c25 ?k25 ?a26 ?l26 ?c26 ?k26 ?a27 ?l27 ?c27 ?k27 ?a28 ?l28 ?c28 ?k28 ?a29 ?l29 ?c29 ?k29 ?a30 ?l30 ?c30 ?k30 ?a31 ?l31 ?c31 ?k31 ?a32 ?l32 ?c32 ?k32 ?a33 ?l33 ?c33 ?k33 ?a34 ?l34 ?c34 ?k34 ?a35 ?l35 ?c35 ?k35 ?a36 ?l36 ?c36 ?k36 ?a37 ?l37 ?c37 ?k37 ?a38 ?l38 ?c38 ?k38 ?a39 ?l39 ?c39 ?k39 ?a40 ?l40 ?c40 ?k40 ?a41 ?l41 ?c41 ?k41 ?a42 ?l42 ?c42 ?k42 ?a43 ?l43 ?c43 ?k43 ?a44 ?l44 ?c44 ?k44 ?a45 ?l45 ?c45 ?k45 ?a46 ?l46 ?c46 ?k46 ?z0 ?z1 ?z2 ?z3 ?z4 ?z5 ?z6 ?z7 ?z8 ?z9 ?z10 ?z11 ?z12 ?z13 ?z14 ?z15 ?nt (tn _ (by simp)) (tn _ (by simp))
    (case nt => first | (with_unfolding_all exact rfl) | (unfold Cl.noTab; with_unfolding_all rfl))
    (case a0 => k_is); (case l0 => k_is); (case c0 => k_is); (case k0 => k_is); (case a1 => k_is); (case l1 => k_is); (case c1 => k_is); (case k1 => k_is); (case a2 => k_is); (case l2 => k_is); (case c2 => k_is); (case k2 => k_is); (case a3 => k_is); (case l3 => k_is); (case c3 => k_is); (case k3 => k_is); (case a4 => k_is); (case l4 => k_is); (case c4 => k_is); (case k4 => k_is); (case a5 => k_is); (case l5 => k_is); (case c5 => k_is); (case k5 => k_is); (case a6 => k_is); (case l6 => k_is); (case c6 => k_is); (case k6 => k_is); (case a7 => k_is); (case l7 => k_is); (case c7 => k_is); (case k7 => k_is); (case a8 => k_is); (case l8 => k_is); (case c8 => k_is); (case k8 => k_is); (case a9 => k_is); (case l9 => k_is); (case c9 => k_is); (case k9 => k_is); (case a10 => k_is); (case l10 => k_is); (case c10 => k_is); (case k10 => k_is); (case a11 => k_is); (case l11 => k_is); (case c11 => k_is); (case k11 => k_is); (case a12 => k_is); (case l12 => k_is); (case c12 => k_is); (case k12 => k_is); (case a13 => k_is); (case l13 => k_is); (case c13 => k_is); (case k13 => k_is); (case a14 => k_is); (case l14 => k_is); (case c14 => k_is); (case k14 => k_is); (case a15 => k_is); (case l15 => k_is); (case c15 => k_is); (case k15 => k_is); (case a16 => k_is); (case l16 => k_is); (case c16 => k_is); (case k16 => k_is); (case a17 => k_is); (case l17 => k_is); (case c17 => k_is); (case k17 => k_is); (case a18 => k_is); (case l18 => k_is); (case c18 => k_is); (case k18 => k_is); (case a19 => k_is); (case l19 => k_is); (case c19 => k_is); (case k19 => k_is); (case a20 => k_is); (case l20 => k_is); (case c20 => k_is); (case k20 => k_is); (case a21 => k_is); (case l21 => k_is); (case c21 => k_is); (case k21 => k_is); (case a22 => k_is); (case l22 => k_is); (case c22 => k_is); (case k22 => k_is); (case a23 => k_is); (case l23 => k_is); (case c23 => k_is); (case k23 => k_is); (case a24 => k_is); (case l24 => k_is); (case c24 => k_is); (case k24 => k_is); (case a25 => k_is); (case l25 => k_is); (case c25 => k_is); (case k25 => k_is); (case a26 => k_is); (case l26 => k_is); (case c26 => k_is); (case k26 => k_is); (case a27 => k_is); (case l27 => k_is); (case c27 => k_is); (case k27 => k_is); (case a28 => k_is); (case l28 => k_is); (case c28 => k_is); (case k28 => k_is); (case a29 => k_is); (case l29 => k_is); (case c29 => k_is); (case k29 => k_is); (case a30 => k_is); (case l30 => k_is); (case c30 => k_is); (case k30 => k_is); (case a31 => k_is); (case l31 => k_is); (case c31 => k_is); (case k31 => k_is); (case a32 => k_is); (case l32 => k_is); (case c32 => k_is); (case k32 => k_is); (case a33 => k_is); (case l33 => k_is); (case c33 => k_is); (case k33 => k_is); (case a34 => k_is); (case l34 => k_is); (case c34 => k_is); (case k34 => k_is); (case a35 => k_is); (case l35 => k_is); (case c35 => k_is); (case k35 => k_is); (case a36 => k_is); (case l36 => k_is); (case c36 => k_is); (case k36 => k_is); (case a37 => k_is); (case l37 => k_is); (case c37 => k_is); (case k37 => k_is); (case a38 => k_is); (case l38 => k_is); (case c38 => k_is); (case k38 => k_is); (case a39 => k_is); (case l39 => k_is); (case c39 => k_is); (case k39 => k_is); (case a40 => k_is); (case l40 => k_is); (case c40 => k_is); (case k40 => k_is); (case a41 => k_is); (case l41 => k_is); (case c41 => k_is); (case k41 => k_is); (case a42 => k_is); (case l42 => k_is); (case c42 => k_is); (case k42 => k_is); (case a43 => k_is); (case l43 => k_is); (case c43 => k_is); (case k43 => k_is); (case a44 => k_is); (case l44 => k_is); (case c44 => k_is); (case k44 => k_is); (case a45 => k_is); (case l45 => k_is); (case c45 => k_is); (case k45 => k_is); (case a46 => k_is); (case l46 => k_is); (case c46 => k_is); (case k46 => k_is); (case z0 => k_is); (case z1 => k_is); (case z2 => k_is); (case z3 => k_is); (case z4 => k_is); (case z5 => k_is); (case z6 => k_is); (case z7 => k_is); (case z8 => k_is); (case z9 => k_is); (case z10 => k_is); (case z11 => k_is); (case z12 => k_is); (case z13 => k_is); (case z14 => k_is); (case z15 => k_is)
  case hsp =>
    intro w cs H a ns hl _ hc hS
    match cs, hc with
    | [], _ => exact fun _ => rfl
    | [_], _ => exact fun _ => rfl
    | [p, p2], hc => exact ⟨a, ns, rfl, hS, hl, ⟨⟨#[], hc p (by simp), by trivial⟩, ⟨#[], hc p2 (by simp), by trivial⟩⟩, fun _ => rfl⟩
    | _ :: _ :: _ :: _, _ => exact fun _ => rfl

