import PyProof.Rows.All
import Wide.All
import OpenK.AllK
import Wide.FinOn
import PySem.Challenge.RW_floorcurves_k70_shades_of_counts
import Lean
import PyProof.EqAt
import PyProof.EqKinds
import PyProof.TupleCall
set_option compiler.extract_closed false
local macro_rules(kind:=choice)|s=>match s.getArgs.find? (·.isOfKind `«term{_}») with|some x=>pure x|_=>Lean.Macro.throwUnsupported
local macro_rules(kind:=«term{_}»)|s=>do
 let mut r:=#[]
 for x in s[1].getSepArgs do
  match (⟨x⟩:Lean.Term) with
  |`(0)=>r:=r.push (←`(rfl))
  |`(1)=>r:=r++#[←`(_),←`(rfl)]
  |`(2)=>r:=r++#[←`(_),←`(_),←`(rfl),←`(rfl)]
  |`(3)=>r:=r++#[←`(_),←`(_),←`(rfl)]
  |`(4)=>r:=r.push (←`(by lia))
  |`(5)=>r:=r.push (←`(by decide))
  |`(7)=>r:=r.push (←`(by simp))
  |x=>r:=r.push x
 `(⟨$r,*⟩)
local macro_rules|`(tactic|show $t)=>`(tactic|refine $t)
local macro_rules(kind:=Lean.Parser.Tactic.tacticHave__)|s=>do
 let d:=s[2][0]
 if !d.isOfKind `Lean.Parser.Term.letPatDecl then Lean.Macro.throwUnsupported
 let n (k:String) (a:Array Lean.Syntax):Lean.Syntax:=Lean.mkNode (`Lean.Parser.Tactic++k.toName) a
 let w (e:Lean.Syntax):Lean.Syntax:=n "rcasesPatMed" #[Lean.mkNullNode #[e]]
 let p:=d[0].rewriteBottomUp λx=>if x.isOfKind `choice then (x.getArgs.find? (·.getKind==`Lean.Parser.Tactic.rcasesPat.tuple)).getD x else if x.isOfKind `«term{_}» then n "rcasesPat.tuple" #[Lean.mkAtom "⟨",Lean.mkNullNode (Lean.mkSepArray (x[1].getSepArgs.map λe=>n "rcasesPatLo" #[w (if e.isIdent then n "rcasesPat.one" #[e] else if e.isOfKind `Lean.Parser.Term.hole then n "rcasesPat.ignore" #[Lean.mkAtom "_"] else if e.isOfKind `num then n "rcasesPat.one" #[Lean.mkIdent `rfl] else e),Lean.mkNullNode]) (Lean.mkAtom ",")),Lean.mkAtom "⟩"] else x
 `(tactic|obtain $(⟨w p⟩):rcasesPatMed:=$(⟨d[4]⟩))
local macro_rules(kind:=Lean.Parser.Command.declaration)|s=>if s.getPos?.isNone then Lean.Macro.throwUnsupported else pure (s.rewriteBottomUp (·.setInfo .none))
local macro_rules|`(command|def $n:declId $s:optDeclSig $v:declVal)=>do
 let q:Lean.TSyntax ``Lean.Parser.Command.declSig:=⟨Lean.mkNode ``Lean.Parser.Command.declSig #[s.raw[0],s.raw[1][0]]⟩
 Lean.MonadRef.withRef .missing<|if v.raw[1].isOfKind ``Lean.Parser.Term.byTactic then `(command|theorem $n:declId $q:declSig $v:declVal) else `(command|noncomputable def $n:declId $s:optDeclSig $v:declVal)
local macro_rules | `(command|abbrev $n:declId $s:optDeclSig $v:declVal)=>Lean.MonadRef.withRef .missing `(command|noncomputable abbrev $n:declId $s:optDeclSig $v:declVal)
local macro_rules | `(tactic| and_intros) => `(tactic| exact ⟨rfl,rfl,rfl,by decide +kernel,rfl,by decide +kernel,by decide +kernel⟩)
local macro_rules | `(tactic| lia) => `(tactic| first | lia -verbose | omega)
local macro_rules | `(tactic| ac_nf) => `(tactic| decide +kernel)
local macro_rules | `(tactic| trivial) => `(tactic| first|exact Or.inl rfl|exact Or.inr rfl|exact Or.inr (Or.inl rfl)|exact Or.inr (Or.inr rfl))
abbrev PP:=@PySem.Value
abbrev Sc:=@PySem.Shared
abbrev Se:=@PySem.Addr
abbrev Sf:=@PySem.Program
abbrev Sg:=@PySem.FuncData
abbrev Si:=@PySem.World
abbrev Sj:=@PySem.Around
abbrev Sk:=@List
abbrev Sl:=@PySem.Expr
abbrev Sm:=@PySem.Heap
abbrev Sn:=@Option
abbrev So:=@PySem.Stmt
abbrev A0:=@PySem.wpAny_bind
abbrev A1:=@List.length_map
abbrev A2:=@List.getElem?_eq_getElem
abbrev A3:=@PySem.wpAny_pure
abbrev A4:=@PySem.Heap.get?_push_of_some
abbrev A5:=@List.getD_eq_getElem?_getD
abbrev A6:=@if_neg
abbrev A7:=@List.map_append
abbrev A8:=@if_pos
abbrev A9:=@Bool.and_eq_true
abbrev A':=@Option.map_eq_some_iff
abbrev AA:=@Option.bind_eq_some_iff
abbrev AB:=@Nat.le_refl
abbrev AC:=@List.getElem?_map
abbrev AD:=@List.length_append
abbrev AE:=@List.mem_cons_self
abbrev AF:=@List.getElem?_eq_some_iff
abbrev AG:=@List.mem_cons_of_mem
abbrev AH:=@List.size_toArray
abbrev AI:=@List.mem_cons
abbrev AJ:=@PySem.Heap.get?_push_size
abbrev AK:=@List.map_cons
abbrev AL:=@PySem.PassesOwn.never
abbrev AM:=@PySem.Heap.lt_size
abbrev AN:=@Bool.false_eq_true
abbrev AO:=@Bool.false_ne_true
abbrev AQ:=@decide_eq_true_eq
abbrev AR:=@List.mem_of_getElem?
abbrev AS:=@List.take_length
abbrev AT:=@List.mem_singleton
abbrev AU:=@Nat.ne_of_lt
abbrev AV:=@List.all_eq_true
abbrev AW:=@Nat.zero_le
abbrev AX:=@List.take_add_one
abbrev AY:=@List.mem_range
abbrev AZ:=@Nat.le_of_lt
abbrev Aa:=@PyProof.Rows.wpS_bind
abbrev Ab:=@List.sum_cons
abbrev Ac:=@Array.getElem?_eq_getElem
abbrev Ad:=@PySem.F.plainAttrs_list
abbrev Ae:=@List.mem_map
abbrev Af:=@List.length_cons
abbrev Ag:=@Int.toNat_natCast
abbrev Ah:=@List.length_replicate
abbrev Ai:=@List.length_take
abbrev Aj:=@List.replicate_succ
abbrev Ak:=@List.mem_append_right
abbrev Al:=@PySem.wpAny_call_entry
abbrev Am:=@Nat.lt_succ_of_lt
abbrev An:=@decide_eq_false
abbrev Ao:=@Option.some.inj
abbrev Ap:=@Option.bind_some
abbrev Aq:=@Nat.lt_of_lt_of_le
abbrev Ar:=@List.pairwise_cons
abbrev As:=@List.drop_eq_getElem_cons
abbrev At:=@List.not_mem_nil
abbrev Au:=@if_false
abbrev Av:=@PyProof.Rows.wpS_pure
abbrev Aw:=@List.range_succ
abbrev Ax:=@PySem.wpAny_newObj_type
abbrev Ay:=@decide_eq_true
abbrev Az:=@PySem.W.mg_none_of
abbrev B0:=@Array.length_toList
abbrev B1:=@PySem.sizeLine_eq
abbrev B2:=@PySem.wpAny_holding
abbrev B3:=@PySem.Heap.size_push
abbrev B4:=@Int.eq_ofNat_of_zero_le
abbrev B5:=@PySem.wpAny_callSpecial?_slot
abbrev B6:=@of_decide_eq_true
abbrev B7:=@PyProof.Rows.callWith_type1
abbrev B8:=@List.append_assoc
abbrev B9:=@List.mem_flatMap
abbrev B':=@List.mem_append
abbrev BA:=@List.map_congr_left
abbrev BB:=@congrArg
abbrev BC:=@PySem.F.type_list_append
abbrev BD:=@PySem.F.slot_list_append
abbrev BE:=@PySem.Heap.SameBut.update
abbrev BF:=@List.getElem?_append_right
abbrev BG:=@Nat.le_trans
abbrev BH:=@List.flatMap_append
abbrev BI:=@PySem.Heap.size_update
abbrev BJ:=@PySem.Heap.get?_push_ne
abbrev BK:=@PySem.wpAny_Call_Name_kw
abbrev BL:=@Bool.not_true
abbrev BM:=@Nat.ne_of_gt
abbrev BN:=@List.map_map
abbrev BO:=@Int.mul_comm
abbrev BP:=@Array.getElem?_eq_none
abbrev BQ:=@List.sum_append
abbrev BR:=@List.append_nil
abbrev BS:=@List.take_succ_cons
abbrev BU:=@Array.getElem?_toList
abbrev BV:=@List.length_eq_zero_iff
abbrev BW:=@PyProof.Rows.slot_tuple_getitem
abbrev BX:=@PySem.wpAny_setState_of
abbrev BY:=@List.foldl_cons
abbrev BZ:=@Nat.lt_succ_self
abbrev Ba:=@List.getElem?_append_left
abbrev Bb:=@PySem.F.slot_dict_valueiterator_next
abbrev Bc:=@List.length_singleton
abbrev Bd:=@PySem.W.kia_one
abbrev Be:=@Nat.lt_or_ge
abbrev Bf:=@List.nodup_cons
abbrev Bg:=@List.find?_cons
abbrev Bh:=@PySem.wpAny_field
abbrev Bi:=@PySem.F.slot_dict_keyiterator_next
abbrev Bj:=@PySem.wpAny_seqItems
abbrev Bk:=@Int.le_refl
abbrev Bl:=@List.length_range
abbrev Bm:=@List.flatMap_cons
abbrev Bn:=@Int.mul_nonneg
abbrev Bo:=@PySem.wpAny_truthy_bool
abbrev Bp:=@PySem.wpAny_mono
abbrev Bq:=@or_false
abbrev Br:=@List.take_append_drop
abbrev Bs:=@List.length_drop
abbrev Bt:=@Nat.lt_irrefl
abbrev Bu:=@Nat.pow_le_pow_right
abbrev Bv:=@List.mem_append_left
abbrev Bw:=@PySem.Heap.get?_update_self
abbrev Bx:=@PySem.wpAny_isInstance
abbrev By:=@PySem.Obj.data_mapFields
abbrev Bz:=@List.foldl_append
abbrev C0:=@Option.map_some
abbrev C1:=@List.length_set
abbrev C2:=@PySem.mem_of_lookup
abbrev C3:=@PySem.Around.under_plainId
abbrev C4:=@Nat.zero_add
abbrev C5:=@List.take_of_length_le
abbrev C6:=@PySem.wpAny_specialOf
abbrev C7:=@Array.getElem?_eq_none_iff
abbrev C8:=@PySem.Paired.length
abbrev C9:=@PySem.wpAny_forIn_list
abbrev C':=@PyProof.Rows.size_push'
abbrev CA:=@Bool.or_eq_true
abbrev CC:=@PySem.wpAny_setField
abbrev CD:=@PySem.wpAny_rule
abbrev CF:=@if_true
abbrev CG:=@PySem.F.type_list_extend
abbrev CH:=@PySem.F.slot_list_extend
abbrev CI:=@PySem.codeAny_builtin
abbrev CJ:=@List.lookup_cons
abbrev CK:=@PySem.wpAny_attempt
abbrev CL:=@Int.mul_le_mul_of_nonneg_left
abbrev CM:=@List.map_replicate
abbrev CN:=@List.drop_of_length_le
abbrev CO:=@List.length_nil
abbrev CP:=@List.cons.injEq
abbrev CQ:=@List.getElem?_eq_none
abbrev CS:=@PySem.wpAny_typeNameOfWhole_valiter
abbrev CT:=@PySem.wpAny_typeNameOfWhole_keyiter
abbrev CU:=@List.flatten_cons
abbrev CV:=@PySem.Calls.spliced_cons
abbrev CW:=@PySem.wpAny_passesOwn
abbrev CY:=@PySem.wpAny_loadPart'
abbrev CZ:=@PySem.boot_len
abbrev Ca:=@List.mem_of_mem_take
abbrev Cb:=@List.getElem?_set_ne
abbrev Cc:=@Int.mul_le_mul
abbrev Cd:=@Bool.and_false
abbrev Ce:=@Array.perm_iff_toList_perm
abbrev Cf:=@Nat.succ_mul
abbrev Cg:=@List.cons_append
abbrev Ch:=@PySem.wpAny_dictEntries
abbrev Ci:=@List.reverse_append
abbrev Cj:=@List.length_pos_iff
abbrev Ck:=@List.filterMap_cons
abbrev Cm:=@PyProof.Rows.wpS_modify
abbrev Cn:=@PySem.F.slot_tuple_iterator_next
abbrev Co:=@PyProof.Rows.boot_isinstance
abbrev Cp:=@List.forIn_cons
abbrev Cq:=@of_decide_eq_false
abbrev Cr:=@List.filter_append
abbrev Cs:=@PySem.F.called_set
abbrev Ct:=@Array.forIn_toList
abbrev Cu:=@Nat.le_succ
abbrev Cv:=@List.getElem?_replicate
abbrev Cw:=@Int.mul_add
abbrev Cy:=@PySem.wpAny_typeNameOf_valiter
abbrev Cz:=@PySem.wpAny_typeNameOf_keyiter
abbrev D0:=@PySem.plainId_quiet
abbrev D1:=@Nat.pow_succ
abbrev D2:=@Nat.mul_le_mul
abbrev D3:=@Int.zero_add
abbrev D4:=@Bool.not_false
abbrev D5:=@Bool.false_and
abbrev D6:=@PySem.wpAny_ite_split
abbrev D7:=@PySem.wpAny_dictEpoch
abbrev D8:=@PySem.wpAny_setField_rec
abbrev D9:=@PySem.wpAny_pyIter_tuple
abbrev D':=@beq_iff_eq
abbrev DA:=@PyProof.Rows.callWith_builtin1
abbrev DB:=@List.isEmpty_iff
abbrev DC:=@List.getElem_mem
abbrev DD:=@List.ext_getElem
abbrev DE:=@Ne.symm
abbrev DF:=@Nat.add_assoc
abbrev DH:=@List.map_drop
abbrev DI:=@PySem.wpAny_typeOf
abbrev DJ:=@PySem.wpAny_fieldsOf
abbrev DK:=@List.replicate_succ'
abbrev DL:=@List.mem_of_mem_drop
abbrev DO:=@List.mem_iff_getElem
abbrev DP:=@PySem.F.slot_tuple_hash
abbrev DQ:=@PySem.Calls.callWith_builtin
abbrev DR:=@PyProof.Rows.get?_update_seq
abbrev DS:=@Nat.min_eq_left
abbrev DT:=@List.nil_append
abbrev DU:=@List.mem_filter
abbrev DV:=@Bool.eq_iff_iff
abbrev DW:=@PySem.builtinLookup_eq_fast
abbrev DX:=@PyProof.Rows.boot_tuple
abbrev DY:=@beq_eq_false_iff_ne
abbrev DZ:=@PySem.Obj.isFreed_of_fields
abbrev Da:=@List.getD_cons_succ
abbrev Db:=@PySem.wpAny_askSetting
abbrev Dc:=@PySem.call_meets
abbrev Dd:=@List.map_nil
abbrev De:=@PySem.wpAny_standAt
abbrev Df:=@PySem.wpAny_of_eq
abbrev Dg:=@List.drop_zero
abbrev Dh:=@PySem.Heap.get?_update_ne
abbrev Di:=@PyProof.Rows.wpS_get
abbrev Dj:=@PyProof.Rows.listUpdate_at
abbrev Dk:=@PySem.isSubtype_type
abbrev Dl:=@PyProof.Rows.boot_sum
abbrev Dm:=@PyProof.Rows.boot_list
set_option Elab.async false
set_option linter.all false
set_option maxRecDepth 100000
set_option maxHeartbeats 4000000
namespace L2
open PySem PySem.Spec PyProof.Rows
variable{A:Sj}{E Q:PP->Sc->Prop}{K:W.Frag}{M:Model}{M6:Sk (Se×Obj)}{N ps:Sk Str}{Nf x:Str}{P:Sf}{a b dx f it:Se}{base h:Sm}{body:Sk So}{c e l tg:Sl}{ch fp:Sk Se}{es:Sk Sl}{fd:Sg}{i j k n:Nat}{lo:Int}{mA mg:Str->Sn PP}{o:Obj}{op:CmpOp}{s:Sc}{scope:Scope}{u:PP}{us:Sk PP}{w:Si}
abbrev Key:=Sum Int Str
def g7:Key->PP->Bool
 |.inl k,v=>Value.isInt k v
 |.inr x,v=>Value.isStrOf x v
def zN(w:Si):Key->Int
 |.inl k=>hashInt k
 |.inr x=>hashStr w x
theorem eV:∀{k:Key}{v:PP},g7 k v=true->(∃i t,k=Sum.inl i/\v=Value.int i t)\/(∃x t,k=Sum.inr x/\v=Value.str x t)
 |.inl i,v,h=>by
  have{t,e}:=Value.isInt_shape (k:=i) (v:=v) h;show .inl {i,t,0,e}
 |.inr x,v,h=>by
  have{t,e}:=Value.isStrOf_shape (x:=x) (v:=v) h;show .inr {x,t,0,e}
def zO(i:Int)(t:Tok):g7 (.inl i) (.int i t)=true:=by simp[g7,Value.isInt]
def zQ(x:Str)(t:Tok):g7 (.inr x) (.str x t)=true:=by simp[g7,Value.isStrOf]
def zR(a b:Int):decide ((Sum.inl a:Key)=Sum.inl b)=(a==b):=by
 by_cases e:a=b
 .subst e;simp
 .have h:¬(Sum.inl a:Key)=Sum.inl b:=λq=>e (Sum.inl.inj q);rw[An h];show(DY.mpr e).symm
def zS(a b:Str):decide ((Sum.inr a:Key)=Sum.inr b)=decide (a=b):=by
 by_cases e:a=b
 .subst e;simp
 .have h:¬(Sum.inr a:Key)=Sum.inr b:=λq=>e (Sum.inr.inj q);rw[An h,An e]
def zT(a:Int)(b:Str):decide ((Sum.inl a:Key)=Sum.inr b)=false:=An (λq=>nomatch q)
def zU(a:Str)(b:Int):decide ((Sum.inr a:Key)=Sum.inl b)=false:=An (λq=>nomatch q)
def bY(prog:Sf)(w:Si):PySem.KeyKind prog w Key where
 is:=g7
 hash:=zN w
 inj:=λv a b ha hb=>by
  rcases eV ha with⟨i,t,rfl,rfl⟩|⟨x,t,rfl,rfl⟩
  .rcases eV hb with⟨j,u,rfl,e⟩|⟨y,u,rfl,e⟩
   .injection e with e1 _;rw[e1]
   .show nomatch e
  .rcases eV hb with⟨j,u,rfl,e⟩|⟨y,u,rfl,e⟩
   .show nomatch e
   .injection e with e1 _;rw[e1]
 byValue:=λk v h=>by
  rcases eV h with⟨i,t,rfl,rfl⟩|⟨x,t,rfl,rfl⟩<;>rfl
 pyHash:=λhv h=>by
  rcases eV hv with⟨i,t,rfl,rfl⟩|⟨x,t,rfl,rfl⟩
  .show wpAny_pyHash_int h
  .show wpAny_pyHash_str h
 eqBool:=λhu hv h=>by
  rcases eV hu with⟨i,t,rfl,rfl⟩|⟨x,t,rfl,rfl⟩
  .rcases eV hv with⟨j,u,rfl,rfl⟩|⟨y,u,rfl,rfl⟩
   .rw[zR] at h;show wpAny_eqBool_int h
   .rw[zT] at h;show SeqAt.EqAt.int_str i t y u _ _ _ _ h
  .rcases eV hv with⟨j,u,rfl,rfl⟩|⟨y,u,rfl,rfl⟩
   .rw[zU] at h;show SeqAt.EqAt.str_int x t j u _ _ _ _ h
   .rw[zS] at h;show wpAny_eqBool_str h
 «strs»:=λk x t v h=>by
  rcases eV h with⟨i,u,rfl,e⟩|⟨y,u,rfl,e⟩
  .show nomatch e
  .injection e with e1 _;subst e1;cases v<;>rfl
def zV(prog:Sf)(w:Si)(i:Int)(t:Tok):(bY prog w).is (.inl i) (.int i t)=true:=zO i t
def zW(prog:Sf)(w:Si)(x:Str)(t:Tok):(bY prog w).is (.inr x) (.str x t)=true:=zQ x t
inductive V where
 |non|bl (b:Bool)|int (i:Int)|str (x:Str)|byt (b:Array UInt8)|flt (b:UInt64)|ref (a:Addr)|ty (n:String)
 deriving DecidableEq
variable{v:V}{vs xs:Sk V}
def aw:V->PP->Prop
 |.non,u=>u=Value.none
 |.bl b,u=>u=Value.bool b
 |.int i,u=>∃t,u=Value.int i t
 |.str x,u=>∃t,u=Value.str x t
 |.byt b,u=>∃t,u=Value.bytes b t
 |.flt b,u=>∃t,u=Value.float b t
 |.ref a,u=>u=Value.ref a
 |.ty n,u=>u=Value.type n
abbrev au:Sk V->Sk PP->Prop:=Paired aw
theorem au.length{xs:Sk V}{us:Sk PP}(r:au xs us):xs.length=us.length:=C8 r
def au.get:∀{xs:Sk V}{us:Sk PP}{i:Nat}{x:V},au xs us->xs[i]? =some x->∃u,us[i]? =some u/\aw x u:=by
 intro xs us i x h e;induction h generalizing i with
 |nil=>simp at e
 |cons r t ih=>
  cases i with
  |zero=>simp at e;subst e;show{1,r}
  |succ i=>show ih (i:=i) (by simpa using e)
theorem au.set{x:V}{u:PP}(r:aw x u):∀{xs:Sk V}{us:Sk PP} (i:Nat),au xs us->au (xs.set i x) (us.set i u)
 |_,_,_,.nil=>.nil
 |_,_,0,.cons _ t=>.cons r t
 |_,_,i+1,.cons q t=>.cons q (au.set r i t)
def au.append:∀{xs ys:Sk V}{us ws:Sk PP},au xs us->au ys ws->au (xs++ys) (us++ws):=by
 intro xs ys us ws h s;induction h with
 |nil=>show s
 |cons r t ih=>show .cons r ih
theorem au.take:∀{xs:Sk V}{us:Sk PP} (n:Nat),au xs us->au (xs.take n) (us.take n)
 |_,_,0,_=>.nil
 |_,_,_+1,.nil=>.nil
 |_,_,n+1,.cons r t=>.cons r (au.take n t)
theorem au.drop:∀{xs:Sk V}{us:Sk PP} (n:Nat),au xs us->au (xs.drop n) (us.drop n)
 |_,_,0,r=>r
 |_,_,_+1,.nil=>.nil
 |_,_,n+1,.cons _ t=>au.drop n t
def cE:Sn V->Sn PP->Prop
 |some v,some u=>aw v u
 |none,none=>True
 |_,_=>False
def KV{κ:Type}:Sk (κ×V)->Sk (κ×PP)->Prop:=Paired fun(p:κ×V) (q:κ×PP)=>p.1=q.1/\aw p.2 q.2
def kV:Key->V
 |.inl i=>.int i
 |.inr x=>.str x
inductive HO where
  |lst (xs:List V)
  |tup (xs:List V)
  |dK (M7:List (Key×V))|dT (M7:List (List Key×V))
  |set (S:Int->Bool) (n:Nat)
  |ins (C dx:Addr) (fs:List (Str×V))
  |own (x:Addr)
  |xd (fs:List (Str×V))
  |met (f x:Addr)
  |rng (lo hi:Int)
  |frz (o:Obj) (u:HO)
  |tbl (ps:Array Value)
  |ext (φ:Heap->Prop)
abbrev Hp:=Se->Sn HO
variable{H:Hp}
def upd(H:Hp)(a:Se)(o:HO):Hp:=λb=>if b=a then some o else H b
def ak{o:HO}:upd H a o a=some o:=by unfold upd;rw[A8 rfl]
def av{o:HO}(h:b≠a):upd H a o b=H b:=by unfold upd;rw[A6 h]
def zX{o u:HO}:upd (upd H a o) a u=upd H a u:=by
 funext b;unfold upd;split<;>rfl
def kt{o u:HO}(h:H a=some o)(h':H b=some u)(d:o≠u):a≠b:=by
 intro e;subst e;rw[h] at h';show d (Ao h')
def bi{o:HO}(h:H a=some o)(h':H b=none):a≠b:=by
 intro e;subst e;rw[h] at h';cases h'
section
variable(P:Sf)(w:Si)
def aG(H:Hp)(h:Sm)(a:Se):HO->Prop
 |.lst xs=>xs.length<=sizeLine/\∃(M9:Sk PP) (n:Nat),au xs M9/\h.get? a=some {cls:= .type "list",data:= .seq M9.toArray n}
 |.tup xs=>xs.length<=sizeLine/\∃M9:Sk PP,au xs M9/\IsTup h a M9.toArray
 |.dK M7=>M7.length<=sizeLine/\(a==sysModules)=false/\∃vs,KV M7 vs/\h.DictOf (bY P w) a vs
 |.dT M7=>M7.length<=sizeLine/\(a==sysModules)=false/\∃xs:Sk (Sk Key×Se×PP),
   Paired (fun(p:Sk Key×V) (q:Sk Key×Se×PP)=>p.1=q.1/\H q.2.1=some (.tup (p.1.map kV))/\aw p.2 q.2.2) M7 xs/\
   ∃o es ep,h.get? a=some o/\o.ExactDict/\o.data=.dict es ep/\es.toList=xs.map (entryOfKey (tupleKind (bY P w)))/\(xs.map (·.1)).Nodup
 |.set S n=>h.SetOf (intKind P w) a S n
 |.ins C dx fs=>H dx=some (.own a)/\fs.length<=1000/\dx≠a/\h.get? a=some (W.instObj C dx)/\
   ∃mA,h.Ns1 dx mA/\(∀f,cE (fs.lookup f) (mA f))/\PySem.Within mA (fs.map (·.1))
 |.own _=>∃o,h.get? a=some o
 |.xd fs=>∃mA,h.Ns1 a mA/\∀f,cE (fs.lookup f) (mA f)
 |.rng lo hi=>∃t u v,h.get? a=some {cls:= .type "range",data:= .fields #[.int lo t,.int hi u,.int 1 v]}
 |.frz o u=>h.get? a=some o/\aG H h a u
 |.tbl ps=>h.get? a=some {cls:= .none,data:= .fields ps}
 |.met f x=>h.get? a=some (W.methodObj (.ref f) (.ref x))
 |.ext φ=>φ h/\(∃o,h.get? a=some o)/\∀h1 h2:Sm,φ h1->(∀o,h1.get? a=some o->h2.get? a=some o)->φ h2
def HOk(H:Hp)(h:Sm):Prop:=∀a o,H a=some o->aG P w H h a o
end
section
variable{P:Sf}{w:Si}{H H':Hp}{h h':Sm}{a:Se}{o:HO}
def aG.lt(x:aG P w H h a o):a<h.objs.size:=by
 cases o with
 |lst xs=>have{_,_,_,_,e}:=x;show AM e
 |tup xs=>have{_,_,_,p}:=x;show p.lt
 |dK M7=>have{_,_,_,_,o,_,_,e,_}:=x;show AM e
 |dT M7=>have{_,_,_,_,o,_,_,e,_}:=x;show AM e
 |set S n=>have{o,_,_,_,e,_}:=x;show AM e
 |ins C dx fs=>have{_,_,_,e,_}:=x;show AM e
 |own y=>have{_,e}:=x;show AM e
 |xd fs=>have{_,{_,_,_,e,_},_}:=x;show AM e
 |rng lo hi=>have{_,_,_,e}:=x;show AM e
 |frz ob u=>have{e,_}:=x;show AM e
 |tbl ps=>show AM (show h.get? a=some _ from x)
 |met f y=>show AM (show h.get? a=some _ from x)
 |ext φ=>have{_,{_,e},_}:=x;show AM e
def Paired.mapP{α β:Type}{F G:α->β->Prop}:∀{l₁:Sk α}{l₂:Sk β},Paired F l₁ l₂->(∀a b,F a b->G a b)->Paired G l₁ l₂:=by
 intro l₁ l₂ h f;induction h with
 |nil=>show .nil
 |cons r t ih=>show .cons (f _ _ r) ih
def aG.stay(x:aG P w H h a o)(k:∀b u,(b=a\/H b=some (.own a))->h.get? b=some u->h'.get? b=some u)
  (ho:∀b,H b=some (.own a)->H' b=some (.own a)) (ht:∀b xs,H b=some (.tup xs)->H' b=some (.tup xs)):aG P w H' h' a o:=by
 induction o with
 |lst xs=>have{z,M9,n,r,e}:=x;show{z,M9,n,r,k _ _ (.inl rfl) e}
 |tup xs=>have{z,M9,r,ob,e,c}:=x;show{z,M9,r,ob,k _ _ (.inl rfl) e,c}
 |dK M7=>have{z,y,vs,r,ob,es,ep,e,c}:=x;show{z,y,vs,r,ob,es,ep,k _ _ (.inl rfl) e,c}
 |dT M7=>
  have{z,y,xs,r,ob,es,ep,e,c}:=x;show{z,y,xs,Paired.mapP r λp q z=>{z.1,ht _ _ z.2.1,z.2.2},ob,es,ep,k _ _ (.inl rfl) e,c}
 |set S n=>have{ob,es,ep,t,e,c}:=x;show{ob,es,ep,t,k _ _ (.inl rfl) e,c}
 |ins C dx fs=>
  have{d,z,ne,e,mA,{od,es,ep,e2,c},r}:=x;show{ho _ d,z,ne,k _ _ (.inl rfl) e,mA,{od,es,ep,k _ _ (.inr d) e2,c},r}
 |own y=>have{ob,e}:=x;show{ob,k _ _ (.inl rfl) e}
 |xd fs=>have{mA,{od,es,ep,e,c},r}:=x;show{mA,{od,es,ep,k _ _ (.inl rfl) e,c},r}
 |rng lo hi=>have{t,u,v,e}:=x;show{t,u,v,k _ _ (.inl rfl) e}
 |frz ob u ih=>have{e,q}:=x;show{k _ _ (.inl rfl) e,ih q}
 |tbl ps=>
  have e:h.get? a=some {cls:= .none,data:= .fields ps}:=x;change h'.get? a=some {cls:= .none,data:= .fields ps};show k a _ (.inl rfl) e
 |met f y=>
  have e:h.get? a=some (W.methodObj (.ref f) (.ref y)):=x;change h'.get? a=some (W.methodObj (.ref f) (.ref y));show k a _ (.inl rfl) e
 |ext φ=>have{p,{o,e},st}:=x;show{st _ _ p λo q=>k _ _ (.inl rfl) q,{o,k _ _ (.inl rfl) e},st}
theorem HOk.lt(x:HOk P w H h)(e:H a=some o):a<h.objs.size:=(x a o e).lt
def HOk.fresh(x:HOk P w H h)(e:h.objs.size<=a):H a=none:=by
 cases q:H a with
 |none=>rfl
 |some u=>show absurd (Aq (x.lt q) e) (Bt _)
def HOk.kept(x:HOk P w H h)(k:∀b u,h.get? b=some u->h'.get? b=some u):HOk P w H h':=λa o e=>
 (x a o e).stay (λb u _ q=>k b u q) (λ_ q=>q) λ_ _ q=>q
theorem HOk.laid(x:HOk P w H h)(k:∀b u,h.get? b=some u->h'.get? b=some u)(hp:h.objs.size<=a)(new:aG P w (upd H a o) h' a o):HOk P w (upd H a o) h':=λb u e=>by
 have hn:=x.fresh hp;by_cases hb:b=a
 .subst hb;rw[ak] at e;cases e;show new
 .rw[av hb] at e;show(x b u e).stay (λc v _ q=>k c v q) (λc q=>by rw[av (bi q hn)];show q) λc xs q=>by rw[av (bi q hn)];show q
end
def Rd(H:Hp)(a:Se)(u:HO):Prop:=H a=some u\/∃o,H a=some (.frz o u)
def Rd.ok{u:HO}(r:Rd H a u)(x:HOk P w H h):aG P w H h a u:=by
 rcases r with r|⟨o,r⟩
 .show x a u r
 .have{_,q}:=x a _ r;show q
def Mut:Sn HO->Prop
 |some (.lst _)=>True
 |some (.dK _)=>True
 |some (.dT _)=>True
 |some (.set _ _)=>True
 |some (.ins _ _ _)=>True
 |some (.ext _)=>True
 |_=>False
section
variable{P:Sf}{w:Si}{H:Hp}{h h':Sm}{x e:Se}{o':HO}
theorem HOk.write(ok:HOk P w H h)(mu:Mut (H x))(he:e=x\/H e=some (.own x))(k:∀b u,b≠e->h.get? b=some u->h'.get? b=some u)(heo:∃u,h'.get? e=some u)
  (new:aG P w (upd H x o') h' x o'):HOk P w (upd H x o') h':=λb u q=>by
 have nown:∀c y,H c=some (.own y)->c≠x:=λc y r z=>by subst z;rw[r] at mu;show mu
 have ntup:∀c xs,H c=some (.tup xs)->c≠x:=λc xs r z=>by subst z;rw[r] at mu;show mu
 by_cases hb:b=x
 .subst hb;rw[ak] at q;cases q;show new
 .rw[av hb] at q;by_cases Rb:b=e
  .have q':H b=some (.own x):=by
    rcases he with z|z
    .show absurd (Rb.trans z) hb
    .rw[Rb];show z
   rw[q] at q';cases q';have{v,hv}:=heo;show{v,by rw[Rb];show hv}
  .show(ok b u q).stay (λc v hc r=>k c v ?_ r) (λc r=>by rw[av (nown c b r)];show r) λc xs r=>by rw[av (ntup c xs r)];show r
   rcases hc with rfl|hc
   .show Rb
   .rintro rfl;rcases he with z|z
    .show nown c b hc z
    .rw[hc] at z;cases z;show hb rfl
end
structure Un(fs ex:Sk Se)(H H':Hp)(h h':Sm):Prop where
 keep:∀b o,h.get? b=some o->H b=none->b∉fs->b∉ex->h'.get? b=some o
 slot:∀b o,h.get? b=some o->H b=none->b∈fs->b∉ex->∃sl,h'.get? b=some {o with slots:=sl}
 free:∀b o,h.get? b=some o->H b=none->b∉ex->H' b=none
 there:∀b o,h.get? b=some o->b∉ex->∃o',h'.get? b=some o'
 tups:∀b xs,H b=some (.tup xs)->H' b=some (.tup xs)
 frzs:∀b o u,H b=some (.frz o u)->H' b=some (.frz o u)
 tbls:∀b ps,H b=some (.tbl ps)->∃more,H' b=some (.tbl (ps++more))
section
variable{fs fs' ex ex':Sk Se}{H H1 H2:Hp}{h h1 h2 h':Sm}{a x e:Se}{o:HO}
def Un.any(u:Un fs ex H H1 h h1){ob:Obj}(q:h.get? b=some ob)(n:H b=none)(hx:b∉ex):∃sl,h1.get? b=some {ob with slots:=sl}:=by
 by_cases hb:b∈fs
 .show u.slot b ob q n hb hx
 .show{ob.slots,u.keep b ob q n hb hx}
theorem Un.kept(k:∀b u,h.get? b=some u->h'.get? b=some u):Un fs ex H H h h':=
 {λb ob q _ _ _=>k b ob q,λb ob q _ _ _=>{ob.slots,k b ob q},λ_ _ _ n _=>n,λb ob q _=>{ob,k b ob q},λ_ _ q=>q,λ_ _ _ q=>q,λ_ ps q=>{#[],by rw[q];simp}}
def Un.refl:Un fs ex H H h h:=Un.kept λ_ _ q=>q
theorem Un.laid(k:∀b u,h.get? b=some u->h'.get? b=some u)(hp:h.objs.size<=a)(hn:H a=none):Un fs ex H (upd H a o) h h' where
 keep:=λb u q _ _ _=>k b u q
 slot:=λb u q _ _ _=>{u.slots,k b u q}
 free:=λb u q n _=>by rw[av (AU (Aq (AM q) hp))];show n
 there:=λb u q _=>{u,k b u q}
 tups:=λb xs q=>by rw[av (bi q hn)];show q
 frzs:=λb u xs q=>by rw[av (bi q hn)];show q
 tbls:=λb ps q=>{#[],by rw[av (bi q hn),q];simp}
def Un.write(mu:Mut (H x))(he:e=x\/H e=some (.own x))(k:∀b u,b≠e->h.get? b=some u->h'.get? b=some u)(heo:∃u,h'.get? e=some u):Un fs ex H (upd H x o) h h':=by
 have hx:∀b,H b=none->b≠x:=λb n z=>by subst z;rw[n] at mu;show mu
 have hb:∀b,H b=none->b≠e:=λb n z=>by
  subst z;rcases he with r|r
  .show hx b n r
  .rw[n] at r;cases r
 have hm:∀b u,H b=some u->¬Mut (some u)->b≠x:=λb u q nm z=>by subst z;rw[q] at mu;show nm mu
 show{λb u q n _ _=>k b u (hb b n) q,λb u q n _ _=>{u.slots,k b u (hb b n) q},λb u q n _=>by rw[av (hx b n)];show n,λb u q _=>?_,
  λb xs q=>by rw[av (hm b _ q λz=>z)];show q,λb u xs q=>by rw[av (hm b _ q λz=>z)];show q,λb ps q=>{#[],by rw[av (hm b _ q λz=>z),q];simp}}
 by_cases Rb:b=e
 .subst Rb;show heo
 .show{u,k b u Rb q}
end
def trk(h:Sm)(H:Hp):Sk Se:=(List.range h.objs.size).filter λa=>(H a).isSome
def eW(h:Sm)(H:Hp):Sm:=W.hideAll h (trk h H)
def zY(h:Sm)(H:Hp):(eW h H).objs.size=h.objs.size:=W.hideAll_size _ _
theorem zZ(e:h.get? b=some o)(n:H b=none):(eW h H).get? b=some o:=
 W.hideAll_get _ e λhm=>by
  have q:(H b).isSome=true:=(DU.mp hm).2;rw[n] at q;simp at q
def z9(e:(eW h H).get? b=some o):h.get? b=some o/\H b=none:=by
 have e':h.get? b=some o:=W.of_hideAll (trk h H) e;show{e',?_};cases q:H b with
 |none=>rfl
 |some x=>
  have hm:b∈trk h H:=DU.mpr {AY.mpr (AM e'),by simp[q]};have z:(eW h H).get? b=none:=W.hideAll_none (trk h H) hm;rw[z] at e;cases e
def Do(g h:Sm)(L:Se):Sk (Se×Obj):=(List.range h.objs.size).filterMap λa=>if a=L\/(g.get? a).isSome=true then none else(h.get? a).map λo=>(a,o)
def aW(g h:Sm)(L d:Se):Sk (Se×Obj):=(Do g h L).filter λp=>decide (p.1≠d)
structure Mod(K:W.Frag)(mg:Str->Sn PP)(base:Sm):Prop where
 kin:K.In base
 glob:base.Ns mainGlobals mg
 blt:∃mb,base.Ns builtinsNs mb/\∀x:Str,x≠"__name__"->mb x=bootBuiltins x
 nolimit:base.NoLimit
structure Cx where
 prog:Program
 w:World
 K:W.Frag
 mg:Str->Option Value
 base:Heap
 A:Around
 N:List Str
 s₀:Shared
 H₀:Hp
 env:Env
 outer:List Env
 stack:List Env
 ex:List Addr
 fn:Str->Bool
 calm:Bool
 pn:List (Addr×Obj)
 xe:Value->Shared->Prop
variable{X:Cx}
def frs(l:Sk Env):Sk Se:=l.filterMap (·.frame)
abbrev Cx.fs(X:Cx):Sk Se:=frs X.outer
def Vis(sc:Scope)(x:Str):Prop:=sc.names.lookup x=some .local\/sc.names.lookup x=some .cell\/sc.names.lookup x=some .free
def Loc(sc:Scope)(x:Str):Prop:=sc.names.lookup x=some .local\/sc.names.lookup x=some .cell
def Dp(env:Env)(h:Sm)(m:Str->Sn PP)(x:Str)(u:PP):Prop:=
 (env.kindOf x=some .local/\m x=some u)\/((env.kindOf x=some .cell\/env.kindOf x=some .free)/\∃c,env.cells.lookup x=some c/\h.IsCell c (some u))
structure Cx.Ok(X:Cx):Prop where
 mod:Mod X.K X.mg X.base
 kind:X.env.scope.kind=.function
 glob:X.env.globals=mainGlobals
 blt:X.env.builtins=builtinsNs
 above:X.s₀.heap.objs.size<=X.env.locals
 inj:∀x y c,X.env.cells.lookup x=some c->X.env.cells.lookup y=some c->x=y
 has:∀x,(X.env.kindOf x=some .cell\/X.env.kindOf x=some .free)->∃c,X.env.cells.lookup x=some c
 cab:∀x c,X.fn x=true->X.env.cells.lookup x=some c->X.s₀.heap.objs.size<=c
 hd:X.calm=true->X.A.handled=none
 frames:X.A.frames=some X.stack
 stk:X.stack=X.outer\/(X.stack=X.env::X.outer/\X.env.frame=some X.env.locals)
 exf:∀b∈X.ex,b≠X.env.locals/\∀x c,X.env.cells.lookup x=some c->c≠b
 bs:∀b o,X.base.get? b=some o->X.s₀.heap.get? b=some o/\X.H₀ b=none
 bsz:X.base.objs.size<=X.s₀.heap.objs.size
 noex:∀b o,X.base.get? b=some o->b∉X.ex
 exfs:∀b∈X.ex,b∉X.fs
 funs:X.s₀.heap.FunFrames X.base X.outer
 frf:∀b∈X.fs,X.H₀ b=none
structure Inv(X:Cx)(M6:Sk (Se×Obj))(σ:Sk (Sn V))(H:Hp)(s:Sc):Prop where
 ok:X.Ok
 os:s.os=X.s₀.os
 bare:AllBare s.gens
 base:Un X.fs X.ex X.H₀ H X.s₀.heap s.heap
 loc:∃m,s.heap.Ns X.env.locals m/\∀(i:Nat) (x:Str) (v:V),X.N[i]? =some x->σ[i]? =some (some v)->Vis X.env.scope x->∃u,aw v u/\Dp X.env s.heap m x u
 cell:∀x c,X.env.cells.lookup x=some c->∃v,s.heap.IsCell c v
 free:H X.env.locals=none
 freeC:∀x c,X.env.cells.lookup x=some c->H c=none
 pin:∀p∈X.pn++M6,s.heap.get? p.1=some p.2/\H p.1=none/\p.1≠X.env.locals/\p.1∉X.fs/\∀v,p.2.data≠ .cell v
 hok:HOk X.prog X.w H s.heap
 len:σ.length=X.N.length
section
variable{X:Cx}{M6:Sk (Se×Obj)}{σ:Sk (Sn V)}{H H':Hp}{s:Sc}{h':Sm}
theorem Cx.Ok.nofr(ok:X.Ok)(e:X.base.get? b=some o):b∉X.fs:=λhb=>by
 have:=(ok.funs.mem hb).1;rw[e] at this;cases this
theorem Inv.bs(I:Inv X M6 σ H s):∀b o,X.base.get? b=some o->s.heap.get? b=some o/\H b=none:=λb o e=>
 {I.base.keep b o (I.ok.bs b o e).1 (I.ok.bs b o e).2 (I.ok.nofr e) (I.ok.noex b o e),I.base.free b o (I.ok.bs b o e).1 (I.ok.bs b o e).2 (I.ok.noex b o e)}
def Inv.bk(I:Inv X M6 σ H s):∀b o,X.base.get? b=some o->s.heap.get? b=some o:=λb o e=>(I.bs b o e).1
theorem Inv.mod(I:Inv X M6 σ H s):Mod X.K X.mg X.base:=I.ok.mod
def Inv.kIn(I:Inv X M6 σ H s):X.K.In s.heap:=I.ok.mod.kin.keeps I.bk
def Inv.lt(I:Inv X M6 σ H s):X.env.locals<s.heap.objs.size:=by have{_,hn,_}:=I.loc;show hn.lt
def Inv.sz(I:Inv X M6 σ H s):X.s₀.heap.objs.size<=s.heap.objs.size:=BG I.ok.above (AZ I.lt)
theorem Inv.nofs(I:Inv X M6 σ H s)(h:s.heap.objs.size<=a):a∉X.fs:=λhb=>by
 have{_,o,ho,_}:=I.ok.funs.mem hb;show absurd (Aq (AM ho) (BG I.sz h)) (Bt _)
theorem Inv.cne(I:Inv X M6 σ H s):∀x c,X.env.cells.lookup x=some c->c≠X.env.locals:=λx c e z=>by
 have{v,o,ho,hd}:=I.cell x c e;have{m,{o',es,ep,Ol,Pf,_},_}:=I.loc;rw[z,Ol] at ho;cases ho;rw[Pf] at hd;cases hd
def Inv.funs(I:Inv X M6 σ H s):s.heap.FunFrames X.base X.outer:=by
 have all:∀(l:Sk Env),(∀b∈frs l,b∈X.fs)->X.s₀.heap.FunFrames X.base l->s.heap.FunFrames X.base l:=by
  intro l;induction l with
  |nil=>intro _ _;trivial
  |cons env r ih=>
   intro hs hl;have{hk,{L,o,hf,hn,ho,hd},hr}:=hl;have hL:L∈X.fs:=hs L (by unfold frs;rw[Ck,hf];show AE);have{sl,e}:=I.base.slot L o ho (I.ok.frf L hL) hL λz=>I.ok.exfs L z hL;show{hk,{L,_,hf,hn,e,hd},ih (λb hb=>hs b (by unfold frs;rw[Ck,hf];show AG _ hb)) hr}
 show all X.outer (λ_ hb=>hb) I.ok.funs
def Inv.stack(I:Inv X M6 σ H s):s.heap.FunFrames X.base X.stack:=by
 rcases I.ok.stk with e|⟨e,hf⟩
 .rw[e];show I.funs
 .rw[e];have{m,hn,_}:=I.loc;show .cons (by rw[I.ok.kind];decide) hf hn ?_ I.funs;show Heap.get?_none_of_le (BG I.ok.bsz I.ok.above)
theorem Inv.stkSub(I:Inv X M6 σ H s):∀b∈frs X.stack,b∈X.env.locals::X.fs:=λb hb=>by
 rcases I.ok.stk with e|⟨e,hf⟩
 .rw[e] at hb;show AG _ hb
 .rw[e] at hb;unfold frs at hb;rw[Ck,hf] at hb;show hb
theorem Inv.stkFree(I:Inv X M6 σ H s):∀b∈frs X.stack,H b=none:=λb hb=>by
 rcases AI.mp (I.stkSub b hb) with e|hb
 .rw[e];show I.free
 .have{_,o,ho,_}:=I.ok.funs.mem hb;show I.base.free b o ho (I.ok.frf b hb) λz=>I.ok.exfs b z hb
def Inv.step{g':Array GenState}{t':Nat}{d':Drawn}(I:Inv X M6 σ H s)
  (OI:∀b∈ch,(b∈X.ex\/X.s₀.heap.objs.size<=b)/\b≠X.env.locals/\(∀x c,X.env.cells.lookup x=some c->c≠b)/\∀p∈X.pn++M6,p.1≠b)
  (keep:∀b o,b≠X.env.locals->b∉X.fs->b∉ch->s.heap.get? b=some o->H b=none->h'.get? b=some o)
  (slot:∀b o,b≠X.env.locals->b∈X.fs->b∉ch->s.heap.get? b=some o->H b=none->∃sl,h'.get? b=some {o with slots:=sl}) (free:∀b o,b∉ch->s.heap.get? b=some o->H b=none->H' b=none)
  (there:∀b o,b∉ch->s.heap.get? b=some o->∃o',h'.get? b=some o')
  (tups:∀b xs,H b=some (.tup xs)->H' b=some (.tup xs)) (frzs:∀b o u,H b=some (.frz o u)->H' b=some (.frz o u)) (tbls:∀b ps,H b=some (.tbl ps)->∃more,H' b=some (.tbl (ps++more)))
  (ns:∀m,s.heap.Ns X.env.locals m->h'.Ns X.env.locals m) (hok:HOk X.prog X.w H' h') (hg:AllBare g'):
  Inv X M6 σ H' {s with heap:=h',gens:=g',drawn:=d',toks:=t'}:=by
 have neL:∀b o,X.s₀.heap.get? b=some o->b≠X.env.locals:=λb o e=>AU (Aq (AM e) I.ok.above);have neC:∀b o,X.s₀.heap.get? b=some o->b∉X.ex->b∉ch:=λb o e hx hb=>by
  rcases(OI b hb).1 with z|z
  .show hx z
  .show absurd (Aq (AM e) z) (Bt _)
 have QN:∀x c,X.env.cells.lookup x=some c->∀v,s.heap.IsCell c v->h'.IsCell c v:=λx c e v Pm=>by
  have{o,ho,hd}:=Pm;have nch:c∉ch:=λz=>(OI c z).2.2.1 x c e rfl;by_cases hc:c∈X.fs
  .have{sl,q}:=slot c o (I.cne x c e) hc nch ho (I.freeC x c e);show{_,q,hd}
  .show{o,keep c o (I.cne x c e) hc nch ho (I.freeC x c e),hd}
 show{I.ok,I.os,hg,{λb o e n hb hx=>?_,λb o e n hb hx=>?_,λb o e n hx=>?_,λb o e hx=>?_,λb xs e=>tups b xs (I.base.tups b xs e),λb o xs e=>frzs b o xs (I.base.frzs b o xs e),λb ps e=>?_},?_,λx c e=>?_,?_,λx c e=>?_,λp hp=>?_,hok,I.len}
 .show keep b o (neL b o e) hb (neC b o e hx) (I.base.keep b o e n hb hx) (I.base.free b o e n hx)
 .have{sl,e1}:=I.base.slot b o e n hb hx;have{sl',e2}:=slot b _ (neL b o e) hb (neC b o e hx) e1 (I.base.free b o e n hx);show{sl',e2}
 .have{o',e1}:=I.base.there b o e hx;show free b o' (neC b o e hx) e1 (I.base.free b o e n hx)
 .have{o',e1}:=I.base.there b o e hx;show there b o' (neC b o e hx) e1
 .have{m1,e1}:=I.base.tbls b ps e;have{m2,e2}:=tbls b _ e1;show{m1++m2,by rw[e2,Array.append_assoc]}
 .have{m,hn,hl}:=I.loc;show{m,ns m hn,λi x v e1 e2 e3=>?_};have{u,r,l}:=hl i x v e1 e2 e3;show{u,r,?_};rcases l with l|⟨k,c,e,z⟩
  .show .inl l
  .show .inr {k,c,e,QN x c e _ z}
 .have{v,z}:=I.cell x c e;show{v,QN x c e v z}
 .have{m,{o,_,_,ho,_},_}:=I.loc;show free _ o (λz=>(OI _ z).2.1 rfl) ho I.free
 .have{v,o,ho,hd}:=I.cell x c e;show free c o (λz=>(OI c z).2.2.1 x c e rfl) ho (I.freeC x c e)
 .have{e,n,ne,nf,d}:=I.pin p hp;have nch:p.1∉ch:=λz=>(OI p.1 z).2.2.2 p hp rfl;show{keep p.1 p.2 ne nf nch e n,free p.1 p.2 nch e n,ne,nf,d}
def Inv.un{t':Nat}(I:Inv X M6 σ H s)(u:Un X.fs [] H H' s.heap h')(hok:HOk X.prog X.w H' h'):Inv X M6 σ H' {s with heap:=h',toks:=t'}:=by
 have{m,{o,es,ep,ho,r},_}:=id I.loc;have{sl,hL}:=u.any ho I.free (by simp);show I.step (g':=s.gens) (d':=s.drawn) (ch:=[]) (λ_ z=>nomatch z) (λb o _ hb _ e n=>u.keep b o e n hb (by simp)) (λb o _ hb _ e n=>u.slot b o e n hb (by simp)) (λb o _ e n=>u.free b o e n (by simp)) (λb o _ e=>u.there b o e (by simp)) u.tups u.frzs u.tbls (λm' hm=>by
  have{o',NH,PD,Ol,r'}:=hm;rw[ho] at Ol;cases Ol;show{_,NH,PD,hL,r'}) hok I.bare
def Inv.call{g':Array GenState}{t':Nat}{d':Drawn}(I:Inv X M6 σ H s)(u:Un (frs X.stack) ch H H' s.heap h')(hok:HOk X.prog X.w H' h')(hg:AllBare g')
  (OI:∀b∈ch,(b∈X.ex\/X.s₀.heap.objs.size<=b)/\b≠X.env.locals/\(∀x c,X.env.cells.lookup x=some c->c≠b)/\∀p∈X.pn++M6,p.1≠b):
  Inv X M6 σ H' {s with heap:=h',gens:=g',drawn:=d',toks:=t'}:=by
 have{m,{o,es,ep,ho,r},_}:=id I.loc;have{sl,hL}:=u.any ho I.free λz=>(OI _ z).2.1 rfl;show I.step (ch:=ch) OI (λb o hL hb hc e n=>u.keep b o e n (λz=>(AI.mp (I.stkSub b z)).elim hL hb) hc) (λb o _ _ hc e n=>u.any e n hc) (λb o hc e n=>u.free b o e n hc) (λb o hc e=>u.there b o e hc) u.tups u.frzs u.tbls (λm' hm=>by
  have{o',NH,PD,Ol,r'}:=hm;rw[ho] at Ol;cases Ol;show{_,NH,PD,hL,r'}) hok hg
def Inv.turned{t':Nat}(I:Inv X M6 σ H s)(k:∀b o,b≠it->s.heap.get? b=some o->h'.get? b=some o)(hn:H it=none)(hL:it≠X.env.locals)
  (h1:it∈X.ex\/X.s₀.heap.objs.size<=it) (h2:∀x c,X.env.cells.lookup x=some c->c≠it) (h3:∀p∈X.pn++M6,p.1≠it):Inv X M6 σ H {s with heap:=h',toks:=t'}:=by
 have nit:∀b u,H b=some u->b≠it:=λb u e z=>by rw[z,hn] at e;cases e
 show I.step (g':=s.gens) (d':=s.drawn) (ch:=[it]) (λb hb=>?_) (λb o _ _ hc e _=>k b o (λz=>hc (by simp[z])) e) (λb o _ _ hc e _=>{o.slots,k b o (λz=>hc (by simp[z])) e}) (λ_ _ _ _ n=>n)
  (λb o hc e=>{o,k b o (λz=>hc (by simp[z])) e}) (λ_ _ e=>e) (λ_ _ _ e=>e) (λb ps e=>{#[],by rw[e];simp}) (λm hm=>?_) (λb u e=>?_) I.bare
 .have e:b=it:=by simpa using hb
  subst e;show{h1,hL,h2,h3}
 .have{o,es,ep,ho,r}:=hm;show{o,es,ep,k _ o (DE hL) ho,r}
 .show(I.hok b u e).stay (λc v hc q=>k c v ?_ q) (λ_ q=>q) λ_ _ q=>q;rcases hc with z|z
  .rw[z];show nit b u e
  .show nit c _ z
def Inv.tok(I:Inv X M6 σ H s)(t:Nat):Inv X M6 σ H {s with toks:=t}:=I.un (h':=s.heap) (t':=t) Un.refl I.hok
theorem Inv.kept{t':Nat}(I:Inv X M6 σ H s)(k:∀b u,s.heap.get? b=some u->h'.get? b=some u):Inv X M6 σ H {s with heap:=h',toks:=t'}:=I.un (Un.kept k) (I.hok.kept k)
theorem Inv.laid{a:Se}{o:HO}{t':Nat}(I:Inv X M6 σ H s)(k:∀b u,s.heap.get? b=some u->h'.get? b=some u)(hp:s.heap.objs.size<=a)(new:aG X.prog X.w (upd H a o) h' a o):
  Inv X M6 σ (upd H a o) {s with heap:=h',toks:=t'}:=I.un (Un.laid k hp (I.hok.fresh hp)) (I.hok.laid k hp new)
theorem Inv.write{x e:Se}{o:HO}{t':Nat}(I:Inv X M6 σ H s)(mu:Mut (H x))(he:e=x\/H e=some (.own x))(k:∀b u,b≠e->s.heap.get? b=some u->h'.get? b=some u)(heo:∃u,h'.get? e=some u)
  (new:aG X.prog X.w (upd H x o) h' x o):Inv X M6 σ (upd H x o) {s with heap:=h',toks:=t'}:=I.un (Un.write mu he k heo) (I.hok.write mu he k heo new)
def Inv.weak{σ':Sk (Sn V)}(I:Inv X M6 σ H s)(hl:σ'.length=σ.length)(w:∀(i:Nat) v,σ'[i]? =some (some v)->σ[i]? =some (some v)):Inv X M6 σ' H s:=
 {I.ok,I.os,I.bare,I.base,let ⟨m,hn,ND⟩:=I.loc;{m,hn,λi x v e1 e2 e3=>ND i x v e1 (w i v e2) e3},I.cell,I.free,I.freeC,I.pin,I.hok,hl.trans I.len}
def Inv.pins_of{QO:Sk (Se×Obj)}(I:Inv X M6 σ H s)(h:∀p∈QO,s.heap.get? p.1=some p.2/\H p.1=none/\p.1≠X.env.locals/\p.1∉X.fs/\∀v,p.2.data≠ .cell v):Inv X QO σ H s:=
 {I.ok,I.os,I.bare,I.base,I.loc,I.cell,I.free,I.freeC,λp hp=>(B'.mp hp).elim (λz=>I.pin p (Bv _ z)) (h p),I.hok,I.len}
def rO(hN:N.Nodup)(a:N[i]? =some x)(b:N[j]? =some x):i=j:=by
 have{h1,e1}:=AF.mp a;have{h2,e2}:=AF.mp b;show(List.getElem_inj hN).mp (e1.trans e2.symm)
def Dq{M:Model}{A:Sj}{E:PP->Sc->Prop}{Q:Unit->Sc->Prop}(I:Inv X M6 σ H s)(hN:X.N.Nodup)(hi:X.N[i]? =some x)(hx:Loc X.env.scope x)(r:aw v u)
  (h:∀s',Inv X M6 (σ.set i (some v)) H s'->(∃a,Heap.SameBut a s.heap s'.heap/\(a=X.env.locals\/X.env.cells.lookup x=some a))->Q () s') (hf:X.fn x=true\/X.env.scope.names.lookup x=some .local:=by trivial):wpAny M A (storeName X.env x u) Q E s:=by
 have{m,hn,hl}:=id I.loc;have hcls:(X.env.scope.kind== .class||(X.env.scope.kind== .module&&X.env.locals !=X.env.globals))=false:=by rw[I.ok.kind];rfl
 have hiσ:i<σ.length:=by rw[I.len];show(AF.mp hi).1
 have cne:=I.cne;have Pg:∀{a:Se}{h':Sm},(∃o,s.heap.get? a=some o/\H a=none)->Heap.SameBut a s.heap h'->HOk X.prog X.w H h':=fun{a h'} ha hs b ob e=>by
  have{_,_,NV}:=ha;show(I.hok b ob e).stay (λc w' hc q=>(hs.2 c ?_).trans q) (λ_ q=>q) λ_ _ q=>q;rintro rfl;rcases hc with rfl|hc
  .rw[NV] at e;cases e
  .rw[NV] at hc;cases hc
 rcases hx with hk|hk
 .show wpAny_storeName_local hk hn (λh' QP hs=>?_) hcls;have{oL,_,_,Rc,_}:=id hn;show h _ {I.ok,I.os,I.bare,{λb o e n hb hx=>?_,λb o e n hb hx=>?_,I.base.free,λb o e hx=>?_,I.base.tups,I.base.frzs,I.base.tbls},{_,QP,λj y v' e1 e2 e3=>?_},λy c e=>?_,I.free,I.freeC,λp hp=>?_,Pg {oL,Rc,I.free} hs,by simpa using I.len} {_,hs,.inl rfl}
  .show(hs.2 b (AU (Aq (AM e) I.ok.above))).trans (I.base.keep b o e n hb hx)
  .have{sl,e1}:=I.base.slot b o e n hb hx;show{sl,(hs.2 b (AU (Aq (AM e) I.ok.above))).trans e1}
  .have{o',e1}:=I.base.there b o e hx;show{o',(hs.2 b (AU (Aq (AM e) I.ok.above))).trans e1}
  .by_cases hj:j=i
   .subst hj;rw[hi] at e1;cases e1;rw[List.getElem?_set_self hiσ] at e2;cases e2;show{u,r,.inl {hk,7}}
   .rw[Cb (DE hj)] at e2;have{u',r',q}:=hl j y v' e1 e2 e3;show{u',r',?_};rcases q with⟨k,e⟩|⟨k,c,e,z⟩
    .show .inl {k,?_};have:y≠x:=λe=>hj (rO hN e1 (e▸hi));simp[this,e]
    .show .inr {k,c,e,z.sameBut hs (cne y c e)}
  .have{w',z}:=I.cell y c e;show{w',z.sameBut hs (cne y c e)}
  .have{e,n,ne,nf,d}:=I.pin p hp;show{(hs.2 p.1 ne).trans e,n,ne,nf,d}
 .have hfn:X.fn x=true:=by
   rcases hf with z|z
   .show z
   .rw[z] at hk;cases hk
  have{c,hc}:=I.ok.has x (.inl hk);have{w',z}:=I.cell x c hc;show wpAny_storeName_cell I.ok.kind hk hc z (λh' hc' hs=>?_);have{oc,hoc,hocd}:=id z;show h {s with heap:=h'} {I.ok,I.os,I.bare,{λb o e n hb hx=>?_,λb o e n hb hx=>?_,I.base.free,λb o e hx=>?_,I.base.tups,I.base.frzs,I.base.tbls},{m,hn.sameBut hs (DE (cne x c hc)),λj y v' e1 e2 e3=>?_},λy c' e=>?_,I.free,I.freeC,λp hp=>?_,Pg {oc,hoc,I.freeC x c hc} hs,by simpa using I.len} {c,hs,.inr hc}
  .show(hs.2 b (AU (Aq (AM e) (I.ok.cab x c hfn hc)))).trans (I.base.keep b o e n hb hx)
  .have{sl,e1}:=I.base.slot b o e n hb hx;show{sl,(hs.2 b (AU (Aq (AM e) (I.ok.cab x c hfn hc)))).trans e1}
  .have{o',e1}:=I.base.there b o e hx;show{o',(hs.2 b (AU (Aq (AM e) (I.ok.cab x c hfn hc)))).trans e1}
  .by_cases hj:j=i
   .subst hj;rw[hi] at e1;cases e1;rw[List.getElem?_set_self hiσ] at e2;cases e2;show{u,r,.inr {.inl hk,c,hc,hc'}}
   .rw[Cb (DE hj)] at e2;have{u',r',q}:=hl j y v' e1 e2 e3;show{u',r',?_};rcases q with q|⟨k,c',e,z'⟩
    .show .inl q
    .show .inr {k,c',e,z'.sameBut hs ?_};rintro rfl;show hj (rO hN e1 (I.ok.inj _ _ _ e hc▸hi))
  .by_cases hcc:c'=c
   .subst hcc;show{_,hc'}
   .have{w2,z2}:=I.cell y c' e;show{w2,z2.sameBut hs hcc}
  .have{e,n,ne,nf,d}:=I.pin p hp;show{(hs.2 p.1 ?_).trans e,n,ne,nf,d};intro q;rw[q,hoc] at e;have q':oc=p.2:=Ao e;show d w' (by rw[<-q'];show hocd)
theorem kw{M:Model}{A:Sj}{E:PP->Sc->Prop}{Q:Unit->Sc->Prop}(I:Inv X M6 σ H s)(hN:X.N.Nodup)(hi:X.N[i]? =some x)(hx:Loc X.env.scope x)(r:aw v u)
  (h:∀s',Inv X M6 (σ.set i (some v)) H s'->Q () s') (hf:X.fn x=true\/X.env.scope.names.lookup x=some .local:=by trivial):wpAny M A (storeName X.env x u) Q E s:=
 Dq I hN hi hx r (λs' I' _=>h s' I') hf
def Inv.call'{s':Sc}(I:Inv X M6 σ H s)(ho:s'.os=s.os)(u:Un (frs X.stack) ch H H' s.heap s'.heap)(hok:HOk X.prog X.w H' s'.heap)(hg:AllBare s'.gens)
  (OI:∀b∈ch,(b∈X.ex\/X.s₀.heap.objs.size<=b)/\b≠X.env.locals/\(∀x c,X.env.cells.lookup x=some c->c≠b)/\∀p∈X.pn++M6,p.1≠b):Inv X M6 σ H' s':=by
 have{h',g',d',t',o'}:=s';have e:o'=s.os:=ho;subst e;show I.call (g':=g') (t':=t') (d':=d') u hok hg OI
end
abbrev XK:=PP->Sn Se->Hp->Prop
abbrev St:=Sk (Sn V)
abbrev VK:=V->Hp->Prop
abbrev TE:=St->Hp->VK->Prop
variable{te tl to:TE}
abbrev TT:=St->Hp->(Bool->Hp->Prop)->Prop
variable{tc:TT}
abbrev TA:=St->Hp->(Sk V->Hp->Prop)->Prop
variable{ta:TA}
structure Ends where
 nx:St->Hp->Prop
 rt:VK
 bk:St->Hp->Prop:=λ_ _=>False
 ct:St->Hp->Prop:=λ_ _=>False
abbrev TS:=Ends->St->Hp->Prop
variable{tb:TS}
abbrev eTo(D:Ends)(n:St->Hp->Prop):Ends:={n,D.rt,D.bk,D.ct}
abbrev eLp(D:Ends)(n:St->Hp->Prop):Ends:={n,D.rt,D.nx,n}
inductive rP(X:Cx)(M6:List (Addr×Obj))(σ:St)(Q:VK)(u:Value)(s':Shared):Prop
 |mk v H':Inv X M6 σ H' s'->aw v u->Q v H'->rP X M6 σ Q u s'
def EP(X:Cx)(M6:Sk (Se×Obj))(σ:St)(Q:VK)(u:PP)(s':Sc):Prop:=rP X M6 σ Q u s'
inductive rQ(X:Cx)(M6:List (Addr×Obj))(σ:St)(Q:Bool->Hp->Prop)(b:Bool)(s':Shared):Prop
 |mk H':Inv X M6 σ H' s'->Q b H'->rQ X M6 σ Q b s'
def TP(X:Cx)(M6:Sk (Se×Obj))(σ:St)(Q:Bool->Hp->Prop)(b:Bool)(s':Sc):Prop:=rQ X M6 σ Q b s'
inductive rR(X:Cx)(M6:List (Addr×Obj))(σ:St)(Q:List V->Hp->Prop)(us:List Value)(s':Shared):Prop
 |mk vs H':Inv X M6 σ H' s'->au vs us->Q vs H'->rR X M6 σ Q us s'
def AP(X:Cx)(M6:Sk (Se×Obj))(σ:St)(Q:Sk V->Hp->Prop)(us:Sk PP)(s':Sc):Prop:=rR X M6 σ Q us s'
def SP(X:Cx)(M6:Sk (Se×Obj))(D:Ends)(f:Flow)(s':Sc):Prop:=
 match f with
 |.next=>∃σ' H',Inv X M6 σ' H' s'/\D.nx σ' H'
 |.brk=>∃σ' H',Inv X M6 σ' H' s'/\D.bk σ' H'
 |.cont=>∃σ' H',Inv X M6 σ' H' s'/\D.ct σ' H'
 |.ret u=>∃v σ' H',Inv X M6 σ' H' s'/\aw v u/\D.rt v H'
def PE(X:Cx)(e:Sl)(t:TE):Prop:=
 ∀(M6:Sk (Se×Obj)) (s:Sc) (σ:St) (H:Hp) (Q:VK),Inv X M6 σ H s->t σ H Q->wpAny (model X.prog X.w) X.A (eval e X.env) (EP X M6 σ Q) X.xe s
def PT(X:Cx)(e:Sl)(t:TT):Prop:=
 ∀(M6:Sk (Se×Obj)) (s:Sc) (σ:St) (H:Hp) (Q:Bool->Hp->Prop),Inv X M6 σ H s->t σ H Q->wpAny (model X.prog X.w) X.A (isTrue e X.env (eval e X.env)) (TP X M6 σ Q) X.xe s
def PW(X:Cx)(e:Sl)(t:TT):Prop:=
 ∀(N4:Sem PP) (M6:Sk (Se×Obj)) (s:Sc) (σ:St) (H:Hp) (Q:Bool->Hp->Prop),Inv X M6 σ H s->t σ H Q->wpAny (model X.prog X.w) X.A (isTrue e X.env N4) (TP X M6 σ Q) X.xe s
def PW.pt{t:TT}(h:PW X e t):PT X e t:=h _
def PA(X:Cx)(es:Sk Sl)(t:TA):Prop:=
 ∀(pos:Pos) (M6:Sk (Se×Obj)) (s:Sc) (σ:St) (H:Hp) (Q:Sk V->Hp->Prop),Inv X M6 σ H s->t σ H Q->wpAny (model X.prog X.w) X.A (spliced (backTo pos (starEach es X.env))) (AP X M6 σ Q) X.xe s
def PS(X:Cx)(st:So)(t:TS):Prop:=
 ∀(M6:Sk (Se×Obj)) (s:Sc) (σ:St) (H:Hp) (D:Ends),Inv X M6 σ H s->t D σ H->wpAny (model X.prog X.w) X.A (exec st X.env) (SP X M6 D) X.xe s
def PSs(X:Cx)(st:Sk So)(t:TS):Prop:=
 ∀(M6:Sk (Se×Obj)) (s:Sc) (σ:St) (H:Hp) (D:Ends),Inv X M6 σ H s->t D σ H->wpAny (model X.prog X.w) X.A (execs st X.env) (SP X M6 D) X.xe s
def thn{α:Type}{t:Sem α}{Q Q':α->Sc->Prop}(h:wpAny M A t Q E s)(hQ:∀a s,Q a s->Q' a s):wpAny M A t Q' E s:=Bp h hQ λ_ _ x=>x
section
variable{X:Cx}
inductive tVar(i:Nat)(σ:St)(H:Hp)(Q:VK):Prop
 |mk v:σ[i]? =some (some v)->Q v H->tVar i σ H Q
def tC(v:V):TE:=λ_ H Q=>Q v H
def Dr{pos:Pos}(hN:X.N[i]? =some x)(hv:Vis X.env.scope x)(hd:(x==("__debug__":Str))=false:=by decide)(PF:(x==("__classdict__":Str))=false:=by decide):PE X (.Name x pos) (tVar i):=by
 intro M6 s σ H Q I h;have{v,e,h}:=h;have{m,hn,hl}:=I.loc;have{u,r,l}:=hl i x v hN e hv;have fin:EP X M6 σ Q u s:={v,H,I,r,h};rcases l with⟨hk,hm⟩|⟨hk,c,hc,Nx⟩
 .show wpAny_Name (wpAny_loadName_local I.ok.kind hk hn hm fin) hd
 .rcases hk with hk|hk
  .show wpAny_Name (wpAny_loadName_cell I.ok.kind hk hc Nx fin) hd
  .show wpAny_Name (wpAny_loadName_free I.ok.kind hk hc Nx fin PF) hd
def ag{i j pos}:PE X (.Constant (.int i) j pos) (tC (.int i)):=λ_ _ _ H _ I h=>wpAny_Constant_int {.int i,H,I.tok _,{1},h}
def eX{b j pos}:PE X (.Constant (.bool b) j pos) (tC (.bl b)):=λ_ _ _ H _ I h=>Constant_bool {.bl b,H,I,0,h}
def rS{j pos}:PE X (.Constant .none j pos) (tC .non):=λ_ _ _ H _ I h=>Constant_none {.non,H,I,0,h}
def Gl(X:Cx)(x:Str):Prop:=X.env.kindOf x=some .globalImplicit
theorem mT{E:PP->Sc->Prop}{σ:St}{pos:Pos}(I:Inv X M6 σ H s)(hg:Gl X x)(hm:X.mg x=some u)(h:Q u s)
  (hd:(x==("__debug__":Str))=false:=by decide):wpAny (model X.prog X.w) X.A (eval (.Name x pos) X.env) Q E s:=
 Calls.Name_function_global I.ok.kind hg (Calls.loadGlobal_global (by rw[I.ok.glob];show I.mod.glob.keeps I.bk) hm h) hd
def cR{E:PP->Sc->Prop}{σ:St}{pos:Pos}(I:Inv X M6 σ H s)(hg:Gl X x)(hm:X.mg x=none)(hv:bootBuiltins x=some u)(h:Q u s)
  (hn:x≠"__name__":=by decide) (hd:(x==("__debug__":Str))=false:=by decide):wpAny (model X.prog X.w) X.A (eval (.Name x pos) X.env) Q E s:=by
 have{mb,h1,h2}:=I.mod.blt;show Calls.Name_function_global I.ok.kind hg (Calls.loadGlobal_builtin (by rw[I.ok.glob];show I.mod.glob.keeps I.bk) hm (by rw[I.ok.blt];show h1.keeps I.bk) ((h2 x hn).trans hv) h) hd
theorem g8{pos:Pos}(hg:Gl X x)(hm:X.mg x=some u)(r:aw v u)(hd:(x==("__debug__":Str))=false:=by decide):PE X (.Name x pos) (tC v):=
 λ_ _ _ H _ I h=>mT I hg hm {v,H,I,r,h} hd
theorem gi{pos:Pos}(hg:Gl X x)(hm:X.mg x=none)(hv:bootBuiltins x=some u)(r:aw v u)(hn:x≠"__name__":=by decide)(hd:(x==("__debug__":Str))=false:=by decide):PE X (.Name x pos) (tC v):=
 λ_ _ _ H _ I h=>cR I hg hm hv {v,H,I,r,h} hn hd
variable{a b:Sl}{ta tb:TE}{pos:Pos}
def PC(X:Cx)(op:CmpOp)(a b:Sl)(t:TE):Prop:=
 ∀(M6:Sk (Se×Obj)) (s:Sc) (σ:St) (H:Hp) (Q:VK),Inv X M6 σ H s->t σ H Q->
  wpAny (model X.prog X.w) X.A (eval a X.env) (λv s₁=>wpAny (model X.prog X.w) X.A (eval b X.env) (λu s₂=>wpAny (model X.prog X.w) X.A (compareOp op v u) (EP X M6 σ Q) X.xe s₂) X.xe s₁) X.xe s
def Ds(b:Sl)(h:op≠ .In)(h2:op≠ .NotIn):behindInMarks op b=false:=by
 have e1:(op==CmpOp.In)=false:=by cases op<;>first|rfl|show absurd rfl h
 have e2:(op==CmpOp.NotIn)=false:=by cases op<;>first|rfl|show absurd rfl h2
 cases b<;>first|rfl|(show(_&&(op==CmpOp.In||op==CmpOp.NotIn)&&_)=false;rw[e1,e2,Bool.or_self,Cd,D5])
inductive rT(Q:(Bool->Hp->Prop))(x:V)(H1:Hp):Prop
 |mk c:x=.bl c->Q c H1->rT Q x H1
def tB(t:TE):TT:=λσ H Q=>t σ H λx H1=>rT Q x H1
local macro_rules | `(tactic| rfl') => `(tactic| first|exact Ds _ (by decide) (by decide)|rfl)
def kx{t:TE}(h:PC X op a b t)(h1:behindInMarks op b=false:=by rfl'):PT X (.Compare a [op] [b] pos) (tB t):=by
 intro M6 s σ H Q I hw;show wpAny_isTrue_Compare1 (thn (h M6 s σ H _ I hw) λv s1 h1=>thn h1 λu s2 h2=>thn h2 λc s3 zu0=>?_) h1;have{x,H1,I1,r1,q1}:=zu0;have{d,0,q}:=q1;cases r1;show Bo {H1,I1,q}
def cZ{e:Expr}{t:TE}(h:PE X e t)(he:∀N4,isTrue e X.env N4=(do let v<-N4;standAt e.pos;holding [v] (truthy v)):=by intro _;rfl):PT X e (tB t):=by
 intro M6 s σ H Q I hw;show isTrue_plain (thn (h M6 s σ H _ I hw) λv s1 zu1=>?_) (he _);have{x,H1,I1,r1,q1}:=zu1;have{d,0,q}:=q1;cases r1;show Bo {H1,I1,q}
variable{tA tB':TT}{aW:Sk Sl}
def Dt(t u:TT):TT:=λσ H Q=>t σ H λc H1=>if c=true then u σ H1 Q else Q false H1
def tOr(t u:TT):TT:=λσ H Q=>t σ H λc H1=>if c=true then Q true H1 else u σ H1 Q
def Du(t:TT):TT:=λσ H Q=>t σ H λc H1=>Q (!c) H1
def ky(ha:PT X a tA):PW X (.BoolOp .And [a] pos) tA:=by
 intro wh M6 s σ H Q I h;show isTrue_and (thn (ha M6 s σ H Q I h) λc s1 e=>?_);cases c with
 |true=>show isTrue_and_nil e
 |false=>show e
def eY(ha:PT X a tA):PW X (.BoolOp .Or [a] pos) tA:=by
 intro wh M6 s σ H Q I h;show isTrue_or (thn (ha M6 s σ H Q I h) λc s1 e=>?_);cases c with
 |false=>show isTrue_or_nil e
 |true=>show e
def kz(ha:PT X a tA)(hb:PW X (.BoolOp .And (b::aW) pos) tB'):PW X (.BoolOp .And (a::b::aW) pos) (Dt tA tB'):=by
 intro wh M6 s σ H Q I h;show isTrue_and (thn (ha M6 s σ H _ I h) λc s1 zu2=>?_);have{H1,I1,q1}:=zu2;cases c with
 |true=>show hb wh M6 s1 σ H1 Q I1 q1
 |false=>show{H1,I1,q1}
def cS(ha:PT X a tA)(hb:PW X (.BoolOp .Or (b::aW) pos) tB'):PW X (.BoolOp .Or (a::b::aW) pos) (tOr tA tB'):=by
 intro wh M6 s σ H Q I h;show isTrue_or (thn (ha M6 s σ H _ I h) λc s1 zu3=>?_);have{H1,I1,q1}:=zu3;cases c with
 |true=>show{H1,I1,q1}
 |false=>show hb wh M6 s1 σ H1 Q I1 q1
def cG(ha:PT X a tA):PT X (.UnaryOp .Not a pos) (Du tA):=by
 intro M6 s σ H Q I h;show isTrue_not (thn (ha M6 s σ H _ I h) λc s1 No=>by have{H1,I1,q}:=No;show{H1,I1,q})
inductive tAndV_(tb:TE)(σ:St)(Q:VK)(x:V)(H1:Hp):Prop
 |mk c:x=.bl c->(if c=true then tb σ H1 Q else Q (.bl false) H1)->tAndV_ tb σ Q x H1
def Dv(ta tb:TE):TE:=λσ H Q=>ta σ H λx H1=>tAndV_ tb σ Q x H1
inductive tOrV_(tb:TE)(σ:St)(Q:VK)(x:V)(H1:Hp):Prop
 |mk c:x=.bl c->(if c=true then Q (.bl true) H1 else tb σ H1 Q)->tOrV_ tb σ Q x H1
def Dw(ta tb:TE):TE:=λσ H Q=>ta σ H λx H1=>tOrV_ tb σ Q x H1
inductive tNotV_(Q:VK)(x:V)(H1:Hp):Prop
 |mk c:x=.bl c->Q (.bl (!c)) H1->tNotV_ Q x H1
def Dx(ta:TE):TE:=λσ H Q=>ta σ H λx H1=>tNotV_ Q x H1
def g9{op}{t:TE}(h:PE X a t):PE X (.BoolOp op [a] pos) t:=λM6 s σ H Q I hw=>BoolOp_one (h M6 s σ H Q I hw)
def fG(ha:PE X a ta)(hb:PE X (.BoolOp .And (b::aW) pos) tb):PE X (.BoolOp .And (a::b::aW) pos) (Dv ta tb):=by
 intro M6 s σ H Q I h;show BoolOp_and (thn (ha M6 s σ H _ I h) λv s1 zu4=>?_);have{x,H1,I1,r1,q1}:=zu4;have{c,0,q1}:=q1;cases r1;show Bo ?_;cases c with
 |true=>show hb M6 s1 σ H1 Q I1 q1
 |false=>show{.bl false,H1,I1,0,q1}
def Dy(ha:PE X a ta)(hb:PE X (.BoolOp .Or (b::aW) pos) tb):PE X (.BoolOp .Or (a::b::aW) pos) (Dw ta tb):=by
 intro M6 s σ H Q I h;show BoolOp_or (thn (ha M6 s σ H _ I h) λv s1 zu5=>?_);have{x,H1,I1,r1,q1}:=zu5;have{c,0,q1}:=q1;cases r1;show Bo ?_;cases c with
 |false=>show hb M6 s1 σ H1 Q I1 q1
 |true=>show{.bl true,H1,I1,0,q1}
def rV(ha:PE X a ta):PE X (.UnaryOp .Not a pos) (Dx ta):=by
 intro M6 s σ H Q I h;show UnaryOp_ (thn (ha M6 s σ H _ I h) λv s1 zu6=>?_);have{x,H1,I1,r1,q1}:=zu6;have{c,0,q1}:=q1;cases r1;show not_of (Bo {.bl (!c),H1,I1,0,q1})
def tIf(t:TT)(ta tb:TE):TE:=λσ H Q=>t σ H λc H1=>if c=true then ta σ H1 Q else tb σ H1 Q
def rW(hc:PT X c tA)(ha:PE X a ta)(hb:PE X b tb):PE X (.IfExp c a b pos) (tIf tA ta tb):=by
 intro M6 s σ H Q I h;show wpAny_IfExp (thn (hc M6 s σ H _ I h) λd s1 zu7=>?_);have{H1,I1,q1}:=zu7;cases d with
 |true=>show ha M6 s1 σ H1 Q I1 q1
 |false=>show hb M6 s1 σ H1 Q I1 q1
end
def SqL(K:W.Frag)(H:Hp)(a:Se)(xs:Sk V):Prop:=
 Rd H a (.lst xs)\/
  ∃(o:Obj) (M9:Array PP) (n:Nat),K.lookup a=some o/\o.cls=.type "list"/\o.dict=none/\o.data=.seq M9 n/\M9.size<=sizeLine/\au xs M9.toList
def SqT(K:W.Frag)(H:Hp)(a:Se)(xs:Sk V):Prop:=
 Rd H a (.tup xs)\/
  ∃(o:Obj) (M9:Array PP) (n:Nat),K.lookup a=some o/\o.cls=.type "tuple"/\o.data=.seq M9 n/\M9.size<=sizeLine/\au xs M9.toList
def Dz:PP->Sn V
 |.none=>some .non
 |.bool b=>some (.bl b)
 |.int i _=>some (.int i)
 |.str x _=>some (.str x)
 |.bytes b _=>some (.byt b)
 |.float b _=>some (.flt b)
 |.ref a=>some (.ref a)
 |.type n=>some (.ty n)
 |_=>none
def aw.abs{x:V}(r:aw x u):Dz u=some x:=by
 cases x with
 |non=>cases r;rfl
 |bl _=>cases r;rfl
 |int _=>have{t,0}:=r;rfl
 |str _=>have{t,0}:=r;rfl
 |byt _=>have{t,0}:=r;rfl
 |flt _=>have{t,0}:=r;rfl
 |ref _=>cases r;rfl
 |ty _=>cases r;rfl
def aw.inj{x y:V}{u:PP}(r:aw x u)(q:aw y u):x=y:=Ao (r.abs.symm.trans q.abs)
def au.inj:∀{xs ys:Sk V}{us:Sk PP},au xs us->au ys us->xs=ys:=by
 intro xs ys us h;induction h generalizing ys with
 |nil=>intro k;cases k;rfl
 |cons r t ih=>intro k;cases k with|cons r' t'=>rw[r.inj r',ih t']
section
variable{X:Cx}{M6:Sk (Se×Obj)}{σ:St}{H:Hp}{s:Sc}{a:Se}{xs ys:Sk V}
def SqL.of(h:H a=some (.lst xs)):SqL K H a xs:= .inl (.inl h)
def SqT.of(h:H a=some (.tup xs)):SqT K H a xs:= .inl (.inl h)
def Inv.list(I:Inv X M6 σ H s)(h:SqL X.K H a xs):∃M9:Sk PP,au xs M9/\PlainL s.heap a M9.toArray/\xs.length<=sizeLine:=by
 rcases h with h|⟨o,M9,n,hk,hc,hd,hs,hz,r⟩
 .have{z,M9,n,r,e}:=h.ok I.hok;show{M9,r,{_,n,e,0,0,0},z}
 .show{M9.toList,r,{o,n,I.kIn a o hk,hc,hd,by simpa using hs},?_};have e:=r.length;simp only[B0] at e;lia
def Inv.tuple(I:Inv X M6 σ H s)(h:SqT X.K H a xs):∃M9:Sk PP,au xs M9/\IsTup s.heap a M9.toArray/\xs.length<=sizeLine:=by
 rcases h with h|⟨o,M9,n,hk,hc,hs,hz,r⟩
 .have{z,M9,r,p}:=h.ok I.hok;show{M9,r,p,z}
 .show{M9.toList,r,{o,I.kIn a o hk,hc,n,by simpa using hs},?_};have e:=r.length;simp only[B0] at e;lia
def Inv.list_inj(I:Inv X M6 σ H s)(h:SqL X.K H a xs)(h':SqL X.K H a ys):xs=ys:=by
 have{M9,r,{o,n,e,_,_,d},_}:=I.list h;have{its',r',{o',n',e',_,_,d'},_}:=I.list h';rw[e] at e';cases e';rw[d] at d';injection d' with d1 _;have:M9=its':=by simpa using congrArg Array.toList d1
 subst this;show r.inj r'
def Inv.tuple_inj(I:Inv X M6 σ H s)(h:SqT X.K H a xs)(h':SqT X.K H a ys):xs=ys:=by
 have{M9,r,{o,e,_,n,d},_}:=I.tuple h;have{its',r',{o',e',_,n',d'},_}:=I.tuple h';rw[e] at e';cases e';rw[d] at d';injection d' with d1 _;have:M9=its':=by simpa using congrArg Array.toList d1
 subst this;show r.inj r'
end
abbrev Cx.wish(X:Cx)(E:PP->Sc->Prop):Cx:={X with xe:=E}
abbrev Cx.nox(X:Cx):Cx:=X.wish λ_ _=>False
theorem Cx.Ok.wish{X:Cx}(ok:X.Ok)(E:PP->Sc->Prop):(X.wish E).Ok:=
 {ok.mod,ok.kind,ok.glob,ok.blt,ok.above,ok.inj,ok.has,ok.cab,ok.hd,ok.frames,ok.stk,ok.exf,ok.bs,ok.bsz,ok.noex,ok.exfs,ok.funs,ok.frf}
def Cx.Ok.unwish(ok:(X.wish E).Ok):X.Ok:=
 {ok.mod,ok.kind,ok.glob,ok.blt,ok.above,ok.inj,ok.has,ok.cab,ok.hd,ok.frames,ok.stk,ok.exf,ok.bs,ok.bsz,ok.noex,ok.exfs,ok.funs,ok.frf}
section
variable{X:Cx}{M6:Sk (Se×Obj)}{σ:St}{H:Hp}{s:Sc}{E:PP->Sc->Prop}
theorem Inv.wish(I:Inv X M6 σ H s)(E:PP->Sc->Prop):Inv (X.wish E) M6 σ H s:={I.ok.wish E,I.os,I.bare,I.base,I.loc,I.cell,I.free,I.freeC,I.pin,I.hok,I.len}
theorem Inv.unwish(I:Inv (X.wish E) M6 σ H s):Inv X M6 σ H s:={I.ok.unwish,I.os,I.bare,I.base,I.loc,I.cell,I.free,I.freeC,I.pin,I.hok,I.len}
def SP.unwish{D:Ends}{f:Flow}{s':Sc}(h:SP (X.wish E) M6 D f s'):SP X M6 D f s':=by
 cases f with
 |next=>have{σ',H',I,q}:=h;show{σ',H',I.unwish,q}
 |brk=>have{σ',H',I,q}:=h;show{σ',H',I.unwish,q}
 |cont=>have{σ',H',I,q}:=h;show{σ',H',I.unwish,q}
 |ret u=>have{v,σ',H',I,r,q}:=h;show{v,σ',H',I.unwish,r,q}
theorem PSs.nox{st:Sk So}{t:TS}(h:PSs X.nox st t):PSs X st t:=λM6 s σ H D I hw=>
 Bp (h M6 s σ H D (I.wish _) hw) (λ_ _ q=>q.unwish) λ_ _ z=>False.elim z
end
section
variable{X:Cx}{st:So}{aW:Sk So}{t u:TS}{e:Sl}{te:TE}{pos:Pos}
def Ea:TS:=λD σ H=>D.nx σ H
def Eb(t u:TS):TS:=λD σ H=>t (eTo D (u D)) σ H
def aQ:PSs X [] Ea:=λ_ _ σ H _ I h=>wpAny_execs_nil {σ,H,I,h}
def ai(h1:PS X st t)(h2:PSs X aW u):PSs X (st::aW) (Eb t u):=by
 intro M6 s σ H D I h;show wpAny_execs_cons (thn (h1 M6 s σ H (eTo D (u D)) I h) λf s1 q=>?_);cases f with
 |next=>
  have{σ',H',I',q}:=q;show h2 M6 s1 σ' H' D I' q
 |ret v=>show q
 |brk=>show q
 |cont=>show q
def aj(h1:PS X st t):PSs X [st] t:=by
 intro M6 s σ H D I h;show wpAny_execs_cons (thn (h1 M6 s σ H D I h) λf s1 q=>?_);cases f with
 |next=>show wpAny_execs_nil q
 |ret v=>show q
 |brk=>show q
 |cont=>show q
def Inv.quiet{σ:St}(I:Inv X M6 σ H s):interactive X.env=false:=by simp[interactive,I.ok.kind]
def Ec(te:TE):TS:=λD σ H=>te σ H λ_ H1=>D.nx σ H1
def aX(he:PE X e te)(hs:swapsWith e none pos.line X.env=pure false:=by rfl):PS X (.Expr e pos) (Ec te):=by
 intro M6 s σ H D I h;show wpAny_Expr_any (thn (he M6 s σ H _ I h) λv s1 No=>by have{x,H1,I1,r1,q1}:=No;show{σ,H1,I1,q1}) I.quiet hs
def Ed(te:TE):TS:=λD σ H=>te σ H D.rt
def am(he:PE X e te):PS X (.Return (some e) pos) (Ed te):=by
 intro M6 s σ H D I h;show wpAny_Return_some (thn (he M6 s σ H _ I h) λv s1 No=>by have{x,H1,I1,r1,q1}:=No;show{x,σ,H1,I1,r1,q1})
def Ee(c:TT)(t u:TS):TS:=λD σ H=>c σ H λb H1=>if b=true then t D σ H1 else u D σ H1
def aR{a b:Sk So}(hc:PT X c tc)(ha:PSs X a t)(hb:PSs X b u):PS X (.If c a b pos) (Ee tc t u):=by
 intro M6 s σ H D I h;show wpAny_If (thn (hc M6 s σ H _ I h) λd s1 zu8=>?_);have{H1,I1,q1}:=zu8;cases d with
 |true=>show ha M6 s1 σ H1 D I1 q1
 |false=>show hb M6 s1 σ H1 D I1 q1
def Ef:TS:=λ_ _ _=>False
def kA:PS X st Ef:=λ_ _ _ _ _ _ h=>h.elim
end
abbrev TG:=V->St->Hp->(St->Hp->Prop)->Prop
variable{g:TG}
abbrev TGs:=Sk V->St->Hp->(St->Hp->Prop)->Prop
def PG(X:Cx)(NO:Sl)(t:TG):Prop:=
 ∀(M6:Sk (Se×Obj)) (s:Sc) (σ:St) (H:Hp) (v:V) (u:PP) (Q:St->Hp->Prop),Inv X M6 σ H s->aw v u->t v σ H Q->
  wpAny (model X.prog X.w) X.A (assign NO X.env u) (λ_ s'=>∃σ' H',Inv X M6 σ' H' s'/\Q σ' H') X.xe s
def PGs(X:Cx)(ts:Sk Sl)(t:TGs):Prop:=
 ∀(M6:Sk (Se×Obj)) (s:Sc) (σ:St) (H:Hp) (vs:Sk V) (us:Sk PP) (Q:St->Hp->Prop),Inv X M6 σ H s->au vs us->t vs σ H Q->
  wpAny (model X.prog X.w) X.A (assignInOrder ((assignEach ts X.env).map (·.2)) us) (λ_ s'=>∃σ' H',Inv X M6 σ' H' s'/\Q σ' H') X.xe s
abbrev i9:=V->V->V->Hp->(Hp->Prop)->Prop
def mU(X:Cx)(t:i9):Prop:=
 ∀(M6:Sk (Se×Obj)) (s:Sc) (σ:St) (H:Hp) (o i v:V) (ov iv u:PP) (Q:Hp->Prop),Inv X M6 σ H s->aw o ov->aw i iv->aw v u->t o i v H Q->
  wpAny (model X.prog X.w) X.A (setItem ov iv u) (λ_ s'=>∃H',Inv X M6 σ H' s'/\Q H') X.xe s
abbrev TIp:=V->V->Hp->VK->Prop
def PIp(X:Cx)(op:Operator)(t:TIp):Prop:=
 ∀(M6:Sk (Se×Obj)) (s:Sc) (σ:St) (H:Hp) (x y:V) (v u:PP) (Q:VK),Inv X M6 σ H s->aw x v->aw y u->t x y H Q->
  wpAny (model X.prog X.w) X.A (inplaceOp op v u) (EP X M6 σ Q) X.xe s
section
variable{X:Cx}{pos:Pos}
def cw(i:Nat):TG:=λv σ H Q=>Q (σ.set i (some v)) H
def bZ(hN:X.N.Nodup)(hi:X.N[i]? =some x)(hx:Loc X.env.scope x)(hf:X.fn x=true\/X.env.scope.names.lookup x=some .local:=by trivial):PG X (.Name x pos) (cw i):=by
 intro M6 s σ H v u Q I r h;show wpAny_assign_Name (kw I hN hi hx r (λs' I'=>{_,H,I',h}) hf)
def kB:TGs:=λvs σ H Q=>vs=[]/\Q σ H
inductive gCons(t:TG)(u:TGs)(vs:List V)(σ:St)(H:Hp)(Q:(St->Hp->Prop)):Prop
 |mk v r:vs=v::r->(t v σ H λσ' H'=>u r σ' H' Q)->gCons t u vs σ H Q
def bJ:PGs X [] kB:=by
 intro M6 s σ H vs us Q I r h;have{e,h}:=h;subst e;cases r;show assignInOrder_nil {σ,H,I,h}
def aL{t:TG}{u:TGs}(h1:PG X e t)(h2:PGs X es u)
  (hs:(assignEach (e::es) X.env).map (·.2)=assign e X.env::(assignEach es X.env).map (·.2):=by rfl):PGs X (e::es) (gCons t u):=by
 intro M6 s σ H vs us Q I r h;have{v,vr,e1,h}:=h;subst e1;cases r with
 |cons r rr=>
  rw[hs];show assignInOrder_cons (thn (h1 M6 s σ H _ _ _ I r h) λ_ s1 zu9=>?_);have{σ1,H1,I1,q1}:=zu9;show h2 M6 s1 σ1 H1 _ _ Q I1 rr q1
inductive gTup(K:W.Frag)(n:Nat)(t:TGs)(v:V)(σ:St)(H:Hp)(Q:(St->Hp->Prop)):Prop
 |mk a xs:v=.ref a->SqT K H a xs->xs.length=n->t xs σ H Q->gTup K n t v σ H Q
def bV{k:Nat}{t:TGs}(hc:X.calm=true)(h:PGs X es t)
  (hn:(assignEach es X.env).length=n:=by rfl) (Os:(assignEach es X.env).findIdx? (·.1)=none:=by rfl):PG X (.Tuple es k pos) (gTup X.K n t):=by
 intro M6 s σ H v u Q I r hw;have{a,xs,e1,hq,hl,hw}:=hw;subst e1;cases r;have{M9,rv,ht,hz}:=I.tuple hq;show assign_Tuple_tuple (I.ok.hd hc) ht (by simp[hn,<-hl,rv.length]) Os λh' hx=>?_;have I1:Inv X M6 σ H {s with heap:=h'}:=I.kept (t':=s.toks) λb o e=>hx b o (AU (AM e)) e;show h M6 _ σ H xs _ Q I1 (by simpa using rv) hw
def Eg(to ti:TE)(t:i9):TG:=λv σ H Q=>to σ H λo H1=>ti σ H1 λi H2=>t o i v H2 λH3=>Q σ H3
def Eh{o i:Expr}{ti:TE}{t:i9}(ho:PE X o to)(hi:PE X i ti)(hs:mU X t)
  (ha:∀v,assign (.Subscript o i pos) X.env v=(do
   let ov<-holding [v] (eval o X.env)
   let iv<-holding [v,ov] (eval i X.env)
   standAt pos
   holding [v,ov,iv] (setItem ov iv v)
   release [v,ov,iv] []):=by intro _;rfl):PG X (.Subscript o i pos) (Eg to ti t):=by
 intro M6 s σ H v u Q I r h;rw[ha];show A0 (B2 (thn (ho M6 s σ H _ I h) λov s1 zu10=>?_));have{x,H1,I1,r1,q1}:=zu10;show A0 (B2 (thn (hi M6 s1 σ H1 _ I1 q1) λiv s2 zu11=>?_));have{y,H2,I2,r2,q2}:=zu11;show A0 (De (A0 (B2 (thn (hs M6 s2 σ H2 x y v ov iv u _ I2 r1 r2 r q2) λ_ s3 zu12=>?_))));have{H3,I3,q3}:=zu12;show wpAny_release {σ,H3,I3,q3}
def ja(te:TE)(g:TG):TS:=λD σ H=>te σ H λx H1=>g x σ H1 D.nx
def kC(he:PE X e te)(hg:PG X tg g)(hs:swapsWithSole [tg] e pos.line X.env=pure false:=by rfl)(hw:swappedStores [tg] e X.env=pure none:=by rfl)
  (h1:(assignEach [tg] X.env).map (·.2)=[assign tg X.env]:=by rfl):PS X (.Assign [tg] e pos) (ja te g):=by
 intro M6 s σ H D I h;show wpAny_Assign_stores (thn (he M6 s σ H _ I h) λv s1 zu13=>?_) hs hw;have{x,H1,I1,r1,q1}:=zu13;rw[h1];show thn (hg M6 s1 σ H1 x v _ I1 r1 q1) λ_ s2 q=>q
def Ei{Nq:Pos}(hN:X.N.Nodup)(hi:X.N[i]? =some x)(hx:Loc X.env.scope x)(he:PE X e te)(hs:swapsWith e (some (.Name x Nq)) pos.line X.env=pure false:=by rfl)(hf:X.fn x=true\/X.env.scope.names.lookup x=some .local:=by trivial):
  PS X (.Assign [.Name x Nq] e pos) (ja te (cw i)):=by
 intro M6 s σ H D I h;show wpAny_Assign_Name (thn (he M6 s σ H _ I h) λv s1 zu14=>?_) hs;have{y,H1,I1,r1,q1}:=zu14;show kw I1 hN hi hx r1 (λs2 I2=>{_,H1,I2,q1}) hf
inductive tAug(i:Nat)(te:TE)(ti:TIp)(D:Ends)(σ:St)(H:Hp):Prop
 |mk x:σ[i]? =some (some x)->(te σ H λy H1=>ti x y H1 λz H2=>D.nx (σ.set i (some z)) H2)->tAug i te ti D σ H
def gj{op:Operator}{ti:TIp}{Nq:Pos}(hN:X.N.Nodup)(hi:X.N[i]? =some x)(hx:Loc X.env.scope x)(he:PE X e te)(ho:PIp X op ti)(hf:X.fn x=true\/X.env.scope.names.lookup x=some .local:=by trivial):
  PS X (.AugAssign (.Name x Nq) op e pos) (tAug i te ti):=by
 intro M6 s σ H D I h;have{v,e1,h}:=h;have{m,hn,hl}:=I.loc;have vis:Vis X.env.scope x:=by rcases hx with k|k;show .inl k;show .inr (.inl k)
 have{u,r,l}:=hl i x v hi e1 vis;show wpAny_AugAssign_Name ?_;have go:wpAny (model X.prog X.w) X.A (eval e X.env) (λw s₂=>wpAny (model X.prog X.w) X.A (inplaceOp op u w) (λr s₃=>wpAny (model X.prog X.w) X.A (storeName X.env x r) (λ_=>SP X M6 D .next) X.xe s₃) X.xe s₂) X.xe s:=by
  show thn (he M6 s σ H _ I h) λw s1 zu15=>?_;have{y,H1,I1,r1,q1}:=zu15;show thn (ho M6 s1 σ H1 v y u w _ I1 r r1 q1) λz s2 zu16=>?_;have{zv,H2,I2,r2,q2}:=zu16;show kw I2 hN hi hx r2 (λs3 I3=>{_,H2,I3,q2}) hf
 rcases l with⟨hk,hm⟩|⟨hk,c,hc,Nx⟩
 .show wpAny_loadName_local I.ok.kind hk hn hm go
 .rcases hk with hk|hk
  .show wpAny_loadName_cell I.ok.kind hk hc Nx go
  .rcases hx with k|k
   .have:X.env.scope.names.lookup x=some .free:=hk;rw[k] at this;cases this
   .have:X.env.scope.names.lookup x=some .free:=hk;rw[k] at this;cases this
def Ej(to ti te:TE)(Qn:V->V->Hp->VK->Prop)(tip:TIp)(Qo:i9):TS:=λD σ H=>to σ H λo H1=>ti σ H1 λi H2=>Qn o i H2 λx H3=>te σ H3 λy H4=>tip x y H4 λz H5=>Qo o i z H5 λH6=>D.nx σ H6
def rX(X:Cx)(t:V->V->Hp->VK->Prop):Prop:=
 ∀(M6:Sk (Se×Obj)) (s:Sc) (σ:St) (H:Hp) (o i:V) (ov iv:PP) (Q:VK),Inv X M6 σ H s->aw o ov->aw i iv->t o i H Q->
  wpAny (model X.prog X.w) X.A (getItem ov iv) (EP X M6 σ Q) X.xe s
def kD{o i:Sl}{ti:TE}{Qn:V->V->Hp->VK->Prop}{tip:TIp}{Qo:i9}{op:Operator}{Oe:Pos}(ho:PE X o to)(hi:PE X i ti)(hg:rX X Qn)(he:PE X e te)(hp:PIp X op tip)(hs:mU X Qo)
  (ha:∀ov iv new,augStore i ov iv new=(do holding [new,ov,iv] (setItem ov iv new);release [new,ov,iv] [];pure .next):=by intros;rfl):PS X (.AugAssign (.Subscript o i Oe) op e pos) (Ej to ti te Qn tip Qo):=by
 intro M6 s σ H D I h;show wpAny_AugAssign_SubscriptAny (thn (ho M6 s σ H _ I h) λov s1 zu17=>?_) ha;have{x1,H1,I1,r1,q1}:=zu17;show thn (hi M6 s1 σ H1 _ I1 q1) λiv s2 zu18=>?_;have{x2,H2,I2,r2,q2}:=zu18;show thn (hg M6 s2 σ H2 x1 x2 ov iv _ I2 r1 r2 q2) λOt s3 zu19=>?_;have{x3,H3,I3,r3,q3}:=zu19;show thn (he M6 s3 σ H3 _ I3 q3) λv s4 zu20=>?_;have{x4,H4,I4,r4,q4}:=zu20;show thn (hp M6 s4 σ H4 x3 x4 Ot v _ I4 r3 r4 q4) λnew s5 zu21=>?_;have{x5,H5,I5,r5,q5}:=zu21;show thn (hs M6 s5 σ H5 x1 x2 x5 ov iv new _ I5 r1 r2 r5 q5) λ_ s6 No=>by have{H6,I6,q6}:=No;show{σ,H6,I6,q6}
inductive ipI(f:Int->Int->Int)(x:V)(y:V)(H:Hp)(Q:VK):Prop
 |mk i j:x=.int i->y=.int j->Q (.int (f i j)) H->ipI f x y H Q
def gk:PIp X .Add (ipI λi j=>i+j):=by
 intro M6 s σ H x y v u Q I r1 r2 h;have{i,j,e1,e2,q}:=h;subst e1;subst e2;have{t,0}:=r1;have{t',0}:=r2;show iadd_int {.int _,H,I.tok _,{1},q}
def Ek:PIp X .Sub (ipI λi j=>i-j):=by
 intro M6 s σ H x y v u Q I r1 r2 h;have{i,j,e1,e2,q}:=h;subst e1;subst e2;have{t,0}:=r1;have{t',0}:=r2;show isub_int {.int _,H,I.tok _,{1},q}
end
section
variable{X:Cx}{pos:Pos}
def rY(c:TT)(tb:TS):TS:=λD σ H=>∃Wq:Nat->St->Hp->Prop,(∃m,Wq m σ H)/\∀m σ H,Wq m σ H->
 c σ H λb H1=>if b=true then∃N:St->Hp->Prop,(∀σ' H',N σ' H'->∃m',m'<m/\Wq m' σ' H')/\tb (eLp D (N)) σ H1 else D.nx σ H1
def kE(hp:PassesOwn (model X.prog X.w) X.A X.env X.xe)(hc:PT X c tc)(hb:PSs X body tb):PS X (.While c body [] pos) (rY tc tb):=by
 intro M6 s σ H D I h;have{Wq,{m0,w0},turn}:=h;show wpAny_While (codeAny_whileLoop (λn s'=>∃σ' H',Inv X M6 σ' H' s'/\Wq n σ' H') ?_ m0 {σ,H,I,w0});rintro n s1 ⟨σ1,H1,I1,w1⟩;show CW hp (thn (hc M6 s1 σ1 H1 _ I1 (turn n σ1 H1 w1)) λb s2 zu22=>?_);have{H2,I2,q2}:=zu22;cases b with
 |true=>
  have{N,hN,q2}:=q2;rw[A8 rfl];show CW hp (thn (hb M6 s2 σ1 H2 _ I2 q2) λf s3 q3=>?_);cases f with
  |next=>
   have{σ3,H3,I3,n3}:=q3;have{m',hm,w3}:=hN σ3 H3 n3;show{m',hm,σ3,H3,I3,w3}
  |cont=>
   have{σ3,H3,I3,n3}:=q3;have{m',hm,w3}:=hN σ3 H3 n3;show{m',hm,σ3,H3,I3,w3}
  |brk=>show q3
  |ret v=>show q3
 |false=>
  rw[A6 AO];show wpAny_execs_nil {σ1,H2,I2,q2}
end
structure It where
 go:Nat->Hp->Prop
 yld:Nat->Hp->V->Hp->Prop
 stop:Nat->Hp->Prop
def cx(X:Cx)(M6:Sk (Se×Obj))(H:Hp)(b:Se):Prop:=
 H b=none/\b≠X.env.locals/\b∉X.fs/\(b∈X.ex\/X.s₀.heap.objs.size<=b)/\(∀x c,X.env.cells.lookup x=some c->c≠b)/\∀p∈X.pn++M6,p.1≠b
def Inv.fpOk{σ:St}{H':Hp}(I:Inv X M6 σ H s)(hb:s.heap.objs.size<=b)(hn:H' b=none):cx X M6 H' b:=by
 show{hn,BM (Aq I.lt hb),I.nofs hb,.inr (BG I.sz hb),λx c e z=>?_,λp hp z=>?_}
 .have{v,q}:=I.cell x c e;show absurd (Aq q.lt (by rw[z];show hb)) (Bt _)
 .show absurd (Aq (AM (I.pin p hp).1) (by rw[z];show hb)) (Bt _)
structure Turn(P:Sf)(w:Si)(K:W.Frag)(tg:Sl)(J:It)(fp:Sk Se)(it:Se)(tn:Nat->Sm->Prop):Prop where
 mem:it∈fp
 obj:∀i h,tn i h->∀b∈fp,∃o,h.get? b=some o/\∀v,o.data≠ .cell v
 keep:∀i h h',tn i h->(∀b∈fp,∀o,h.get? b=some o->h'.get? b=some o)->tn i h'
 item:∀(X:Cx),X.prog=P->X.w=w->X.K=K->X.calm=true->∀(i:Nat) (M6:List (Addr×Obj)) (s:Shared) (σ:St) (H:Hp) (E:Value->Shared->Prop),Inv X M6 σ H s->(∀b∈fp,cx X M6 H b)->tn i s.heap->J.go i H->
  wpAny (model P w) X.A (pyNext (.ref it)) (λr s1=>∃u,r=some u/\
   wpAny (model P w) X.A (letOwnedTupleGo tg (.ref it) u) (λ_ s2=>∃x H',Inv X M6 σ H' s2/\aw x u/\J.yld i H x H'/\tn (i+1) s2.heap/\∀b∈fp,H' b=none) E s1) E s
 done:∀(X:Cx),X.prog=P->X.w=w->X.K=K->X.calm=true->∀(i:Nat) (M6:List (Addr×Obj)) (s:Shared) (σ:St) (H:Hp) (E:Value->Shared->Prop),Inv X M6 σ H s->(∀b∈fp,cx X M6 H b)->tn i s.heap->J.stop i H->
  wpAny (model P w) X.A (pyNext (.ref it)) (λr s1=>r=none/\Inv X M6 σ H s1) E s
 self:∀(A:Around) (i:Nat) (s:Shared) (Q:Value->Shared->Prop) (E:Value->Shared->Prop),tn i s.heap->Q (.ref it) s->wpAny (model P w) A (pyIter (.ref it)) Q E s
abbrev TI:=St->Hp->(It->Hp->Prop)->Prop
def PIE(X:Cx)(M6:Sk (Se×Obj))(σ:St)(tg:Sl)(R:It->Hp->Prop)(itv:PP)(s2:Sc):Prop:=
 ∃(it:Se) (fp:Sk Se) (tn:Nat->Sm->Prop) (J:It) (H':Hp),itv=.ref it/\Inv X M6 σ H' s2/\Turn X.prog X.w X.K tg J fp it tn/\tn 0 s2.heap/\(∀b∈fp,cx X M6 H' b)/\R J H'
def PI(X:Cx)(tg ay:Sl)(wi:TI):Prop:=
 ∀(M6:Sk (Se×Obj)) (s:Sc) (σ:St) (H:Hp) (R:It->Hp->Prop),Inv X M6 σ H s->wi σ H R->
  wpAny (model X.prog X.w) X.A (eval ay X.env) (λv s1=>wpAny (model X.prog X.w) X.A (pyIter v) (PIE X M6 σ tg R) X.xe s1) X.xe s
def go_of{E : PP -> Sc -> Prop}{n : String}{vs : Array PP}{Q : Unit -> Sc -> Prop}(ho : s.heap.get? it = some o)(hc : o.cls = .type n)(hd : o.data = .fields vs)
    (hn : ["enumerate", "zip", "dict_itemiterator", "dict_reverseitemiterator", "odict_iterator", "itertools.zip_longest", "itertools.pairwise"].contains n = false) (hQ : Q () s) : wpAny M A (letOwnedTupleGo tg (.ref it) u) Q E s := by
  unfold letOwnedTupleGo;cases tg <;> first
    |show A3 hQ
    | (cases u <;> first
        |show A3 hQ
        | (show A0 (wpAny_load ho ?_)
           rw[hc, hd];change wpAny M A (if (["enumerate", "zip", "dict_itemiterator", "dict_reverseitemiterator", "odict_iterator", "itertools.zip_longest", "itertools.pairwise"].contains n && vs[0]? == some (rawInt _)) = true then _ else _) Q E s;rw[A6 (by intro h; rw[hn, D5] at h; cases h)];show A3 hQ))
def Itl(K:W.Frag)(a:Se):It:=
 {λi H=>∃xs x,SqL K H a xs/\xs[i]? =some x,λi H x H'=>H'=H/\∀xs,SqL K H a xs->xs[i]? =some x,λi H=>∃xs,SqL K H a xs/\xs.length<=i}
def Itt(K:W.Frag)(a:Se):It:=
 {λi H=>∃xs x,SqT K H a xs/\xs[i]? =some x,λi H x H'=>H'=H/\∀xs,SqT K H a xs->xs[i]? =some x,λi H=>∃xs,SqT K H a xs/\xs.length<=i}
def Itr(lo:Int)(n:Nat):It:={λi _=>i<n,λi H x H'=>H'=H/\x=.int (lo+i),λi _=>n<=i}
def El(a it:Se):Turn P w K tg (Itl K a) [it] it (λi h=>h.IsListIter it a i) where
 mem:=by simp
 obj:=λi h st b hb=>by
  have e:b=it:=by simpa using hb
  subst e;have{o,e,c,d}:=st;show{o,e,λv z=>by rw[d] at z;cases z}
 keep:=λi h h' st k=>st.at λo e=>k it (by simp) o e
 item:=by
  intro X hP hw hK hc i M6 s σ H E I hf st hg;subst hP hw hK;have{xs,x,hq,hx}:=hg;have{M9,rv,p,hz}:=I.list hq;have{u,hu,ru}:=rv.get hx;have{f0,f1,f2,f3,f4,f5}:=hf it (by simp);show wpAny_pyNext_list_item st p.isList (x:=u) (by simpa using hu) λh' NP sb=>?_;have I1:Inv X M6 σ H {s with heap:=h'}:=I.turned (t':=s.toks) (λb o hb e=>(sb.2 b hb).trans e) f0 f1 f3 f4 f5;have{o,e,c,d}:=id NP;show{u,0,go_of (s:={s with heap:=h'}) e c d (by decide) {x,H,I1,ru,{0,λys hy=>by rw[I.list_inj hy hq];show hx},NP,λb hb=>(hf b hb).1}}
 done:=by
  intro X hP hw hK hc i M6 s σ H E I hf st hg;subst hP hw hK;have{xs,hq,hx}:=hg;have{M9,rv,p,hz}:=I.list hq;have{f0,f1,f2,f3,f4,f5}:=hf it (by simp);have hl:=rv.length;show wpAny_pyNext_list_end (I.ok.hd hc) st p.isList (by simp;lia) λh' eb=>{0,I.turned (t':=s.toks) (λb o hb e=>eb b o hb e) f0 f1 f3 f4 f5}
 self:=λ_ _ _ _ _ st h=>wpAny_pyIter_listiter st h
def Em(a it:Se):Turn P w K tg (Itt K a) [it] it (λi h=>h.IsTupleIter it a i) where
 mem:=by simp
 obj:=λi h st b hb=>by
  have e:b=it:=by simpa using hb
  subst e;have{o,e,c,d}:=st;show{o,e,λv z=>by rw[d] at z;cases z}
 keep:=λi h h' st k=>st.at λo e=>k it (by simp) o e
 item:=by
  intro X hP hw hK hc i M6 s σ H E I hf st hg;subst hP hw hK;have{xs,x,hq,hx}:=hg;have{M9,rv,p,hz}:=I.tuple hq;have{u,hu,ru}:=rv.get hx;have{f0,f1,f2,f3,f4,f5}:=hf it (by simp);show wpAny_pyNext_tuple_item st (show s.heap.IsTuple a M9.toArray from p) (x:=u) (by simpa using hu) λh' NP sb=>?_;have I1:Inv X M6 σ H {s with heap:=h'}:=I.turned (t':=s.toks) (λb o hb e=>(sb.2 b hb).trans e) f0 f1 f3 f4 f5;have{o,e,c,d}:=id NP;show{u,0,go_of (s:={s with heap:=h'}) e c d (by decide) {x,H,I1,ru,{0,λys hy=>by rw[I.tuple_inj hy hq];show hx},NP,λb hb=>(hf b hb).1}}
 done:=by
  intro X hP hw hK hc i M6 s σ H E I hf st hg;subst hP hw hK;have{xs,hq,hx}:=hg;have{M9,rv,p,hz}:=I.tuple hq;have{f0,f1,f2,f3,f4,f5}:=hf it (by simp);have hl:=rv.length;show wpAny_pyNext_tuple_end (I.ok.hd hc) st (show s.heap.IsTuple a M9.toArray from p) (by simp;lia) λh' eb=>{0,I.turned (t':=s.toks) (λb o hb e=>eb b o hb e) f0 f1 f3 f4 f5}
 self:=λ_ _ _ _ _ st h=>wpAny_pyIter_tupleiter st h
def En(it:Se)(lo:Int)(n:Nat):Turn P w K tg (Itr lo n) [it] it (λi h=>IsRangeIter h it (lo+(i:Nat)*1) ((n:Int)-(i:Nat)) 1) where
 mem:=by simp
 obj:=λi h st b hb=>by
  have e:b=it:=by simpa using hb
  subst e;show{_,st,λv z=>by
   have z':Data.fields _=Data.cell v:=z;cases z'}
 keep:=λi h h' st k=>k it (by simp) _ st
 item:=by
  intro X hP hw hK hc i M6 s σ H E I hf st hg;subst hP hw hK;have{f0,f1,f2,f3,f4,f5}:=hf it (by simp);have Wq:=Walks.range (prog:=X.prog) (w:=X.w) (I.ok.hd hc) it lo 1 n;show Wq.item i s _ _ hg st λv h' tk hv NP kk=>?_;have{t,0}:=hv;have I1:Inv X M6 σ H {s with heap:=h',toks:=tk}:=I.turned (λb o hb e=>kk b o (by simpa using hb) e) f0 f1 f3 f4 f5;show{1,go_of (s:={s with heap:=h',toks:=tk}) (n:="range_iterator") NP rfl rfl (by decide) {.int (lo+i),H,I1,{t,?_},{0,0},NP,λb hb=>(hf b hb).1}};rw[Int.mul_one]
 done:=by
  intro X hP hw hK hc i M6 s σ H E I hf st hg;subst hP hw hK;have{f0,f1,f2,f3,f4,f5}:=hf it (by simp);show wpAny_pyNext_range_end (I.ok.hd hc) st (by have:n<=i:=hg;lia) λh' eb=>{0,I.turned (t':=s.toks) (λb o hb e=>eb b o hb e) f0 f1 f3 f4 f5}
 self:=λ_ _ _ _ _ st h=>wpAny_pyIter_rangeiter st h
section
variable{X:Cx}{tg:Sl}
inductive iList_(K:W.Frag)(R:(It->Hp->Prop))(x:V)(H1:Hp):Prop
 |mk a:x=.ref a->((∃xs,SqL K H1 a xs))->R (Itl K a) H1->iList_ K R x H1
def Eo(K:W.Frag)(tl:TE):TI:=λσ H R=>tl σ H λx H1=>iList_ K R x H1
inductive iTup_(K:W.Frag)(R:(It->Hp->Prop))(x:V)(H1:Hp):Prop
 |mk a:x=.ref a->((∃xs,SqT K H1 a xs))->R (Itt K a) H1->iTup_ K R x H1
def Ep(K:W.Frag)(tl:TE):TI:=λσ H R=>tl σ H λx H1=>iTup_ K R x H1
def bh(hl:PE X l tl):PI X tg l (Eo X.K tl):=by
 intro M6 s σ H R I h;show thn (hl M6 s σ H _ I h) λv s1 zu23=>?_;have{x,H1,I1,r1,q1}:=zu23;have{a,e,{xs,hq},q}:=q1;subst e;cases r1;have{M9,rv,p,hz}:=I1.list hq;show wpAny_pyIter_list p.isList ?_;show{s1.heap.objs.size,[s1.heap.objs.size],_,_,H1,0,I1.kept (t':=s1.toks) λb o e=>A4 _ e,El a _,{_,AJ _ rfl,0,0},λb hb=>?_,q};have e:b=s1.heap.objs.size:=by simpa using hb
 subst e;show I1.fpOk (AB _) (I1.hok.fresh (AB _))
def rZ(hl:PE X l tl):PI X tg l (Ep X.K tl):=by
 intro M6 s σ H R I h;show thn (hl M6 s σ H _ I h) λv s1 zu24=>?_;have{x,H1,I1,r1,q1}:=zu24;have{a,e,{xs,hq},q}:=q1;subst e;cases r1;have{M9,rv,p,hz}:=I1.tuple hq;show D9 (show s1.heap.IsTuple a M9.toArray from p) ?_;show{s1.heap.objs.size,[s1.heap.objs.size],_,_,H1,0,I1.kept (t':=s1.toks) λb o e=>A4 _ e,Em a _,{_,AJ _ rfl,0,0},λb hb=>?_,q};have e:b=s1.heap.objs.size:=by simpa using hb
 subst e;show I1.fpOk (AB _) (I1.hok.fresh (AB _))
def r0{σ:St}{R:It->Hp->Prop}{hi:Int}{t u v:Tok}{tk:Nat}(I:Inv X M6 σ H s)(h1: -(2^62)<=lo)(h2:lo<2^62)(h3: -(2^62)<=hi)(h4:hi<2^62)
  (q:R (Itr lo (hi-lo).toNat) H):wpAny (model X.prog X.w) X.A (pyIter (.ref s.heap.objs.size)) (PIE X M6 σ tg R) E {s with heap:=s.heap.push {cls:= .type "range",data:= .fields #[.int lo t,.int hi u,.int 1 v]},toks:=tk}:=by
 show wpAny_pyIter_range (IsRange.new ..) (small_one h1 h2 h3 h4) ?_;have I1:Inv X M6 σ H {s with heap:=s.heap.push {cls:= .type "range",data:= .fields #[.int lo t,.int hi u,.int 1 v]},toks:=tk}:=I.kept λb o e=>A4 _ e;show{(s.heap.push {cls:= .type "range",data:= .fields #[.int lo t,.int hi u,.int 1 v]}).objs.size,[(s.heap.push {cls:= .type "range",data:= .fields #[.int lo t,.int hi u,.int 1 v]}).objs.size],_,_,H,0,
  I1.kept (t':=tk) λb o e=>A4 _ e,En _ lo (hi-lo).toNat,?_,λb hb=>?_,q}
 .have e1:lo+((0:Nat):Int)*1=lo:=by simp
  have e2:(((hi-lo).toNat:Nat):Int)-((0:Nat):Int)=Builtin.Range.rangeSize lo hi 1:=by rw[rangeSize_one];split<;>lia
  change IsRangeIter _ _ (lo+((0:Nat):Int)*1) ((((hi-lo).toNat:Nat):Int)-((0:Nat):Int)) 1;rw[e1,e2];show AJ _ rfl
 .have e:b=(s.heap.push {cls:= .type "range",data:= .fields #[.int lo t,.int hi u,.int 1 v]}).objs.size:=by simpa using hb
  subst e;show I1.fpOk (AB _) (I1.hok.fresh (AB _))
inductive iRng1_(R:(It->Hp->Prop))(vs:List V)(H1:Hp):Prop
 |mk (j:Int):vs=[.int j]->-(2^62)<=j->j<2^62->R (Itr 0 j.toNat) H1->iRng1_ R vs H1
def Er(ta:TA):TI:=λσ H R=>ta σ H λvs H1=>iRng1_ R vs H1
inductive iRng2_(R:(It->Hp->Prop))(vs:List V)(H1:Hp):Prop
 |mk (i j:Int):vs=[.int i,.int j]->(-(2^62)<=i/\i<2^62/\-(2^62)<=j/\j<2^62)->R (Itr i (j-i).toNat) H1->iRng2_ R vs H1
def Es(ta:TA):TI:=λσ H R=>ta σ H λvs H1=>iRng2_ R vs H1
def eZ{a:Sl}{p pos:Pos}(hg:Gl X "range")(hm:X.mg "range"=none)(ha:PA X [a] ta)(hs:starEach [a] X.env=[(false,eval a X.env)]:=by rfl):PI X tg (.Call (.Name "range" p) [a] [] pos) (Er ta):=by
 intro M6 s σ H R I h;show Call_ (cR I hg hm boot_range (B7 (thn (ha pos M6 s σ H _ I h) λus s1 zu25=>?_) hs rfl));have{vs,H1,I1,r1,q1}:=zu25;have{j,e,q1,q2,q}:=q1;subst e;cases r1 with
 |cons r rr=>
  cases rr;have{t,0}:=r;show call_range_1 (r0 I1 (by lia) (by lia) q1 q2 (by simpa using q))
def gm{a b:Sl}{p pos:Pos}(hg:Gl X "range")(hm:X.mg "range"=none)(ha:PA X [a,b] ta)(hs:starEach [a,b] X.env=[(false,eval a X.env),(false,eval b X.env)]:=by rfl)(hs2:starEach [b] X.env=[(false,eval b X.env)]:=by rfl):
  PI X tg (.Call (.Name "range" p) [a,b] [] pos) (Es ta):=by
 intro M6 s σ H R I h;show Call_ (cR I hg hm boot_range (B7 (thn (ha pos M6 s σ H _ I h) λus s1 ⟨vs,H1,I1,r1,q1⟩=>?_) (by rw[hs,hs2]) (by rw[hs2];rfl)));have{i,j,e,{q1,q2,q3,q4},q}:=q1;subst e;cases r1 with
 |cons r rr=>
  cases rr with
  |cons r' rr=>
   cases rr;have{t,0}:=r;have{t',0}:=r';show call_range_2 (r0 I1 q1 q2 q3 q4 q)
def Et(wi:TI)(g:TG)(tb:TS):TS:=λD σ H=>wi σ H λJ H1=>∃Wq:Nat->Nat->St->Hp->Prop,(∃m,Wq 0 m σ H1)/\∀i m σ H,Wq i m σ H->
 (J.stop i H/\D.nx σ H)\/(J.go i H/\∃N:St->Hp->Prop,(∀σ' H',N σ' H'->∃m',m'<m/\Wq (i+1) m' σ' H')/\∀x H',J.yld i H x H'->g x σ H' λσ2 H2=>tb (eLp D (N)) σ2 H2)
def jb(fp:Sk Se)(h:Sm):Sk (Se×Obj):=fp.filterMap λb=>(h.get? b).map λo=>(b,o)
theorem kF(hb:b∈fp)(e:h.get? b=some o):(b,o)∈jb fp h:=List.mem_filterMap.mpr {b,hb,by rw[e];rfl}
def Eu{p:Se×Obj}(hp:p∈jb fp h):p.1∈fp/\h.get? p.1=some p.2:=by
 have{b,hb,e}:=List.mem_filterMap.mp hp;cases q:h.get? b with
 |none=>rw[q] at e;cases e
 |some o=>
  rw[q] at e;have e':(b,o)=p:=Ao e;subst e';show{hb,q}
theorem Inv.pinned{σ:St}(I:Inv X M6 σ H s)(hf:∀b∈fp,cx X M6 H b)(ho:∀b∈fp,∃o,s.heap.get? b=some o/\∀v,o.data≠ .cell v):Inv X (M6++jb fp s.heap) σ H s:=
 I.pins_of λp hp=>(B'.mp hp).elim (λz=>I.pin p (Ak _ z)) λz=>by
  have{hb,e}:=Eu z;have{f0,f1,f2,_}:=hf p.1 hb;have{o,e',d}:=ho p.1 hb;rw[e] at e';cases e';show{e,f0,f1,f2,d}
def Inv.unpinned{pl:Sk (Se×Obj)}{σ:St}(I:Inv X (M6++pl) σ H s):Inv X M6 σ H s:=I.pins_of λp hp=>I.pin p (Ak _ (Bv _ hp))
def aN{ay:Sl}{wi:TI}{pos:Pos}(hp:PassesOwn (model X.prog X.w) X.A X.env X.xe)(hc:X.calm=true)(hi:PI X tg ay wi)(hg:PG X tg g)(hb:PSs X body tb)
  (hs:∀x,foldedSetIterable ay X.env x=pure x:=by intro _;rfl):PS X (.For tg ay body [] pos) (Et wi g tb):=by
 intro M6 s σ H D I h;show wpAny_For (thn (hi M6 s σ H _ I h) λv s1 h1=>thn h1 λitv s2 h2=>?_) hs;have{it,fp,tn,J,H2,e,I2,T,Pn,f2,Wq,{m0,w0},turn}:=h2;subst e;have OZ:∀{H':Hp},(∀b∈fp,H' b=none)->∀b∈fp,cx X M6 H' b:=λhn b hb=>{hn b hb,(f2 b hb).2};show codeAny_forLoop_any (λn s'=>∃i σ' H',Inv X M6 σ' H' s'/\tn i s'.heap/\(∀b∈fp,H' b=none)/\Wq i n σ' H') ?_ m0 {(0),σ,H2,I2,Pn,λb hb=>(f2 b hb).1,w0};rintro n s3 ⟨i,σ3,H3,I3,st3,fr3,w3⟩;rcases turn i n σ3 H3 w3 with⟨stop,qn⟩|⟨go,N,hN,step⟩
 .show CW hp (thn (T.done X rfl rfl rfl hc i M6 s3 σ3 H3 X.xe I3 (OZ fr3) st3 stop) λr s4 zu26=>?_);have{hr,I4}:=zu26;subst hr;show wpAny_execs_nil {σ3,H3,I4,qn}
 .show CW hp (thn (T.item X rfl rfl rfl hc i M6 s3 σ3 H3 X.xe I3 (OZ fr3) st3 go) λr s4 zu27=>?_);have{u,hr,h4}:=zu27;subst hr;show CW hp (thn h4 λ_ s5 zu28=>?_);have{x,H5,I5,r5,y5,st5,fr5}:=zu28;have I5':=I5.pinned (OZ fr5) (T.obj _ _ st5);show CW hp (thn (hg _ s5 σ3 H5 x u _ I5' r5 (step x H5 y5)) λ_ s6 zu29=>?_);have{σ6,H6,I6,q6}:=zu29;show CW hp (thn (hb _ s6 σ6 H6 _ I6 q6) λf s7 q7=>?_);have again:∀{σ7:St}{H7:Hp},Inv X (M6++jb fp s5.heap) σ7 H7 s7->N σ7 H7->∃m,m<n/\∃i σ' H',Inv X M6 σ' H' s7/\tn i s7.heap/\(∀b∈fp,H' b=none)/\Wq i m σ' H':=fun{σ7 H7} I7 n7=>by
   have{m',hm,w7}:=hN σ7 H7 n7;show{m',hm,i+1,σ7,H7,I7.unpinned,T.keep _ _ _ st5 λb hb o e=>(I7.pin (b,o) (Ak _ (Ak _ (kF hb e)))).1,λb hb=>?_,w7};have{o,e,d}:=T.obj _ _ st5 b hb;show(I7.pin (b,o) (Ak _ (Ak _ (kF hb e)))).2.1
  cases f with
  |next=>have{σ7,H7,I7,n7}:=q7;show again I7 n7
  |cont=>have{σ7,H7,I7,n7}:=q7;show again I7 n7
  |brk=>have{σ7,H7,I7,q7}:=q7;show{σ7,H7,I7.unpinned,q7}
  |ret v=>have{x7,σ7,H7,I7,r7,q7}:=q7;show{x7,σ7,H7,I7.unpinned,r7,q7}
end
def bF{D:Ends}{σ:St}(Pv:Nat->St->Hp->Prop)(h0:Pv 0 σ H)(hl:∀i σ H,i<=xs.length->Pv i σ H->SqL K H a xs)
  (hs:∀i x σ H,xs[i]? =some x->Pv i σ H->g x σ H λσ2 H2=>tb (eLp D (Pv (i+1))) σ2 H2) (hd:∀σ H,Pv xs.length σ H->D.nx σ H):
  ∃Wq:Nat->Nat->St->Hp->Prop,(∃m,Wq 0 m σ H)/\∀i m σ H,Wq i m σ H->
   ((Itl K a).stop i H/\D.nx σ H)\/((Itl K a).go i H/\∃N:St->Hp->Prop,(∀σ' H',N σ' H'->∃m',m'<m/\Wq (i+1) m' σ' H')/\∀x H',(Itl K a).yld i H x H'->g x σ H' λσ2 H2=>tb (eLp D (N)) σ2 H2):=by
 show{λi m σ H=>m=xs.length-i/\i<=xs.length/\Pv i σ H,{xs.length,7,AW _,h0},?_};rintro i m σ H ⟨rfl,hi,p⟩;have q:=hl i σ H hi p;by_cases Nb:i<xs.length
 .show .inr {{xs,xs[i],q,by simp[Nb]},Pv (i+1),λσ' H' p'=>{xs.length-(i+1),4,0,Nb,p'},λx H' y=>?_};have{e,y}:=y;subst e;show hs i x σ _ (y xs q) p
 .have e:i=xs.length:=by lia
  subst e;show .inl {{xs,q,AB _},hd σ H p}
def r6{D:Ends}{σ:St}(Pv:Nat->St->Hp->Prop)(h0:Pv 0 σ H)(hl:∀i σ H,i<=xs.length->Pv i σ H->SqT K H a xs)
  (hs:∀i x σ H,xs[i]? =some x->Pv i σ H->g x σ H λσ2 H2=>tb (eLp D (Pv (i+1))) σ2 H2) (hd:∀σ H,Pv xs.length σ H->D.nx σ H):
  ∃Wq:Nat->Nat->St->Hp->Prop,(∃m,Wq 0 m σ H)/\∀i m σ H,Wq i m σ H->
   ((Itt K a).stop i H/\D.nx σ H)\/((Itt K a).go i H/\∃N:St->Hp->Prop,(∀σ' H',N σ' H'->∃m',m'<m/\Wq (i+1) m' σ' H')/\∀x H',(Itt K a).yld i H x H'->g x σ H' λσ2 H2=>tb (eLp D (N)) σ2 H2):=by
 show{λi m σ H=>m=xs.length-i/\i<=xs.length/\Pv i σ H,{xs.length,7,AW _,h0},?_};rintro i m σ H ⟨rfl,hi,p⟩;have q:=hl i σ H hi p;by_cases Nb:i<xs.length
 .show .inr {{xs,xs[i],q,by simp[Nb]},Pv (i+1),λσ' H' p'=>{xs.length-(i+1),4,0,Nb,p'},λx H' y=>?_};have{e,y}:=y;subst e;show hs i x σ _ (y xs q) p
 .have e:i=xs.length:=by lia
  subst e;show .inl {{xs,q,AB _},hd σ H p}
def dG{D:Ends}{σ:St}(Pv:Nat->St->Hp->Prop)(h0:Pv 0 σ H)
  (hs:∀i σ H,i<n->Pv i σ H->g (.int (lo+i)) σ H λσ2 H2=>tb (eLp D (Pv (i+1))) σ2 H2) (hd:∀σ H,Pv n σ H->D.nx σ H):
  ∃Wq:Nat->Nat->St->Hp->Prop,(∃m,Wq 0 m σ H)/\∀i m σ H,Wq i m σ H->
   ((Itr lo n).stop i H/\D.nx σ H)\/((Itr lo n).go i H/\∃N:St->Hp->Prop,(∀σ' H',N σ' H'->∃m',m'<m/\Wq (i+1) m' σ' H')/\∀x H',(Itr lo n).yld i H x H'->g x σ H' λσ2 H2=>tb (eLp D (N)) σ2 H2):=by
 show{λi m σ H=>m=n-i/\i<=n/\Pv i σ H,{n,7,AW _,h0},?_};rintro i m σ H ⟨rfl,hi,p⟩;by_cases Nb:i<n
 .show .inr {Nb,Pv (i+1),λσ' H' p'=>{n-(i+1),4,0,Nb,p'},λx H' y=>?_};have{e,y}:=y;subst e y;show hs i σ _ Nb p
 .have e:i=n:=by lia
  subst e;show .inl {AB _,hd σ H p}
def kG{c:TT}{D:Ends}{σ:St}(Pv:St->Hp->Prop)(μ:St->Hp->Nat)(h0:Pv σ H)
  (hs:∀σ H,Pv σ H->c σ H λb H1=>if b=true then tb {D with nx:=λσ' H'=>Pv σ' H'/\μ σ' H'<μ σ H,ct:=λσ' H'=>Pv σ' H'/\μ σ' H'<μ σ H,bk:=D.nx} σ H1 else D.nx σ H1)
  (mono:∀σ H Q Q',(∀b H1,Q b H1->Q' b H1)->c σ H Q->c σ H Q'):rY c tb D σ H:=by
 show{λm σ H=>m=μ σ H/\Pv σ H,{1,h0},?_};rintro m σ H ⟨rfl,p⟩;show mono σ H _ _ (λb H1 q=>?_) (hs σ H p);cases b with
 |true=>show{_,(λσ' H' No=>by have{p',l}:=No;show{_,l,0,p'}),q}
 |false=>show q
abbrev R2:=V->V->Hp->VK->Prop
variable{r:R2}
def OpR(X:Cx)(f:PP->PP->Sem PP)(r:R2):Prop:=
 ∀(M6:Sk (Se×Obj)) (s:Sc) (σ:St) (H:Hp) (x y:V) (v u:PP) (Q:VK),Inv X M6 σ H s->aw x v->aw y u->r x y H Q->
  wpAny (model X.prog X.w) X.A (f v u) (EP X M6 σ Q) X.xe s
def UnR(X:Cx)(f:PP->Sem PP)(r:V->Hp->VK->Prop):Prop:=
 ∀(M6:Sk (Se×Obj)) (s:Sc) (σ:St) (H:Hp) (x:V) (v:PP) (Q:VK),Inv X M6 σ H s->aw x v->r x H Q->
  wpAny (model X.prog X.w) X.A (f v) (EP X M6 σ Q) X.xe s
def bP(X:Cx)(f:PP)(r:Sk V->Hp->VK->Prop):Prop:=
 ∀(M6:Sk (Se×Obj)) (s:Sc) (σ:St) (H:Hp) (xs:Sk V) (us:Sk PP) (Q:VK),Inv X M6 σ H s->au xs us->r xs H Q->
  wpAny (model X.prog X.w) X.A (call f us) (EP X M6 σ Q) X.xe s
def Ev(X:Cx)(r:V->Hp->(Bool->Hp->Prop)->Prop):Prop:=
 ∀(M6:Sk (Se×Obj)) (s:Sc) (σ:St) (H:Hp) (x:V) (v:PP) (Q:Bool->Hp->Prop),Inv X M6 σ H s->aw x v->r x H Q->
  wpAny (model X.prog X.w) X.A (truthy v) (TP X M6 σ Q) X.xe s
def tOp(r:R2)(ta tb:TE):TE:=λσ H Q=>ta σ H λx H1=>tb σ H1 λy H2=>r x y H2 Q
def tUn(r:V->Hp->VK->Prop)(ta:TE):TE:=λσ H Q=>ta σ H λx H1=>r x H1 Q
inductive rI(C:Int->Int->Prop)(g:Int->Int->V)(x:V)(y:V)(H:Hp)(Q:VK):Prop
 |mk i j:x=.int i->y=.int j->C i j->Q (g i j) H->rI C g x y H Q
inductive rI0(g:Int->Int->V)(x:V)(y:V)(H:Hp)(Q:VK):Prop
 |mk i j:x=.int i->y=.int j->Q (g i j) H->rI0 g x y H Q
inductive rU(g:Int->V)(x:V)(H:Hp)(Q:VK):Prop
 |mk i:x=.int i->Q (g i) H->rU g x H Q
section
variable{X:Cx}{a b c:Sl}{ta tb tc:TE}{pos:Pos}
def mV(ha:PE X a ta)(hb:PE X b tb){σ:St}{R:V->V->Hp->Prop}(I:Inv X M6 σ H s)
  (h:ta σ H λx H1=>tb σ H1 λy H2=>R x y H2) {f:PP->PP->Sem PP}
  (hf:∀v u s2 x y H2,Inv X M6 σ H2 s2->aw x v->aw y u->R x y H2->wpAny (model X.prog X.w) X.A (f v u) Q X.xe s2):
  wpAny (model X.prog X.w) X.A (eval a X.env) (λv s₁=>wpAny (model X.prog X.w) X.A (eval b X.env) (λu s₂=>wpAny (model X.prog X.w) X.A (f v u) Q X.xe s₂) X.xe s₁) X.xe s:=by
 show thn (ha M6 s σ H _ I h) λv s1 zu30=>?_;have{x,H1,I1,r1,q1}:=zu30;show thn (hb M6 s1 σ H1 _ I1 q1) λu s2 zu31=>?_;have{y,H2,I2,r2,q2}:=zu31;show hf v u s2 x y H2 I2 r1 r2 q2
def ah{op:Operator}(ho:OpR X (binaryOp op) r)(ha:PE X a ta)(hb:PE X b tb):PE X (.BinOp a op b pos) (tOp r ta tb):=by
 intro M6 s σ H Q I h;show wpAny_BinOp (mV ha hb I h λv u s2 x y H2 I2 rx ry q=>ho M6 s2 σ H2 x y v u Q I2 rx ry q)
def fb{op:UnaryOp}{r:V->Hp->VK->Prop}(ho:UnR X (unaryOp op) r)(ha:PE X a ta):PE X (.UnaryOp op a pos) (tUn r ta):=by
 intro M6 s σ H Q I h;show UnaryOp_ (thn (ha M6 s σ H _ I h) λv s1 No=>by have{x,H1,I1,r1,q1}:=No;show ho M6 s1 σ H1 x v Q I1 r1 q1)
def opI{f:PP->PP->Sem PP}{C:Int->Int->Prop}{g:Int->Int->Int}
  (rule:∀(i j:Int) (t u:Tok) (s:Sc) (Q:PP->Sc->Prop) (E:PP->Sc->Prop),C i j->Q (.int (g i j) s.toks) {s with toks:=s.toks+1}->wpAny (model X.prog X.w) X.A (f (.int i t) (.int j u)) Q E s):
  OpR X f (rI C λi j=>.int (g i j)):=by
 intro M6 s σ H x y v u Q I rx ry h;have{i,j,0,0,hc,q}:=h;have{t,0}:=rx;have{t',0}:=ry;show rule i j t t' s _ _ hc {.int (g i j),H,I.tok _,{1},q}
def r9{f:PP->PP->Sem PP}{g:Int->Int->Int}
  (rule:∀(i j:Int) (t u:Tok) (s:Sc) (Q:PP->Sc->Prop) (E:PP->Sc->Prop),Q (.int (g i j) s.toks) {s with toks:=s.toks+1}->wpAny (model X.prog X.w) X.A (f (.int i t) (.int j u)) Q E s):
  OpR X f (rI0 λi j=>.int (g i j)):=by
 intro M6 s σ H x y v u Q I rx ry h;have{i,j,0,0,q}:=h;have{t,0}:=rx;have{t',0}:=ry;show rule i j t t' s _ _ {.int (g i j),H,I.tok _,{1},q}
def kH{f:PP->PP->Sem PP}{g:Int->Int->Bool}
  (rule:∀(i j:Int) (t u:Tok) (s:Sc) (Q:PP->Sc->Prop) (E:PP->Sc->Prop),Q (.bool (g i j)) s->wpAny (model X.prog X.w) X.A (f (.int i t) (.int j u)) Q E s):
  OpR X f (rI0 λi j=>.bl (g i j)):=by
 intro M6 s σ H x y v u Q I rx ry h;have{i,j,0,0,q}:=h;have{t,0}:=rx;have{t',0}:=ry;show rule i j t t' s _ _ {.bl (g i j),H,I,0,q}
def Ew(i j:Int):Prop:=0<j/\j<1073741824
def Ex(i j:Int):Prop:=0<=j/\j<=1000000/\i.natAbs<2^64
def kI(i j:Int):Prop:=(-(2^64)<i/\i<2^64)\/(-(2^64)<j/\j<2^64)
def kI.ok{i j:Int}(h:kI i j):IntMulOk i j:=by
 rcases h with⟨h1,h2⟩|⟨h1,h2⟩
 .show .of_left (intBits_le_64 h1 h2)
 .show .of_right (intBits_le_64 h1 h2)
def aH:OpR X (binaryOp .Add) (rI0 λi j=>.int (i+j)):=r9 λ_ _ _ _ _ _ _ q=>add_int q
def aI:OpR X (binaryOp .Sub) (rI0 λi j=>.int (i-j)):=r9 λ_ _ _ _ _ _ _ q=>sub_int q
def bo:OpR X (binaryOp .Mult) (rI kI λi j=>.int (i*j)):=opI λ_ _ _ _ _ _ _ hc q=>mul_int q hc.ok
theorem Ey:OpR X (binaryOp .FloorDiv) (rI Ew λi j=>.int (i/j)):=opI λi j _ _ _ _ _ hc q=>by
 have h1:(0:Int)<j:=hc.1;have h2:j<1073741824:=hc.2;show floordiv_int (by lia) (by rw[Int.fdiv_eq_ediv_of_nonneg i (by lia)];show q) (.inl (PyProof.noPylong_small (by lia)))
theorem fc:OpR X (binaryOp .Mod) (rI (λ_ j=>0<j) λi j=>.int (i%j)):=opI λi j _ _ _ _ _ hc q=>by
 have h1:(0:Int)<j:=hc;show mod_int' (by lia) (by rw[Int.fmod_eq_emod_of_nonneg i (by lia)];show q)
def si:OpR X (binaryOp .Pow) (rI Ex λi j=>.int (i^j.toNat)):=opI λ_ _ _ _ _ _ _ hc q=>pow_int_small hc.1 hc.2.1 hc.2.2 q
def unI{f:PP->Sem PP}{g:Int->Int}
  (rule:∀(i:Int) (t:Tok) (s:Sc) (Q:PP->Sc->Prop) (E:PP->Sc->Prop),Q (.int (g i) s.toks) {s with toks:=s.toks+1}->wpAny (model X.prog X.w) X.A (f (.int i t)) Q E s):
  UnR X f (rU λi=>.int (g i)):=by
 intro M6 s σ H x v Q I rx h;have{i,0,q}:=h;have{t,0}:=rx;show rule i t s _ _ {.int (g i),H,I.tok _,{1},q}
def fe:UnR X (unaryOp .USub) (rU λi=>.int (-i)):=unI λ_ _ _ _ _ q=>neg_int q
end
def sj:V->V->Bool
 |.non,.non=>true|.non,.int _=>true|.int _,.non=>true|.non,.bl _=>true|.bl _,.non=>true|.non,.str _=>true|.str _,.non=>true
 |.int _,.int _=>true|.bl _,.bl _=>true|.str _,.str _=>true|.byt _,.byt _=>true
 |.int _,.str _=>true|.str _,.int _=>true|.bl _,.str _=>true|.str _,.bl _=>true
 |_,_=>false
def rEq:R2:=λx y H Q=>sj x y=true/\Q (.bl (decide (x=y))) H
def rNe:R2:=λx y H Q=>sj x y=true/\Q (.bl (!decide (x=y))) H
def sk{i j:Int}:decide (V.int i=V.int j)=(i==j):=by
 rw[DV];simp
def sr{i j:Bool}:decide (V.bl i=V.bl j)=(i==j):=by
 rw[DV];simp
def ss{i j:Str}:decide (V.str i=V.str j)=(i==j):=by
 rw[DV];simp
def su{i j:Array UInt8}:decide (V.byt i=V.byt j)=(i.toList==j.toList):=by
 rw[DV];cases i;cases j;simp
section
variable{X:Cx}{a b c:Sl}{ta tb tc:TE}{pos:Pos}
def bf{σ:St}{Q:VK}{k k':Bool}(I:Inv X M6 σ H s)(q:Q (.bl k) H)(e:k=k'):EP X M6 σ Q (.bool k') s:=by
 subst e;show{.bl k,H,I,0,q}
def bQ:OpR X (compareOp .Eq) rEq:=by
 intro M6 s σ H x y v u Q I rx ry h;have{hs,q}:=h;cases x with
 |non=>
  cases rx;cases y with
  |non=>cases ry;show PySem.EqNone.eq_none_none (bf I q (by simp))
  |bl j=>cases ry;show PySem.EqNone.eq_none_bool (bf I q (by simp))
  |int j=>have{t',0}:=ry;show PySem.EqNone.eq_none_int (bf I q (by simp))
  |str j=>have{t',0}:=ry;show PySem.EqNone.eq_none_str (bf I q (by simp))
  |_=>show absurd (show false=true from hs) AO
 |bl i=>
  cases rx;cases y with
  |non=>cases ry;show PySem.EqNone.eq_bool_none (bf I q (by simp))
  |bl j=>cases ry;show eq_bool (bf I q sr)
  |str j=>have{t',0}:=ry;show PySem.EqMixed.eq_bool_str (bf I q (by simp))
  |_=>show absurd (show false=true from hs) AO
 |int i=>
  have{t,0}:=rx;cases y with
  |non=>cases ry;show PySem.EqNone.eq_int_none (bf I q (by simp))
  |int j=>have{t',0}:=ry;show eq_int (bf I q sk)
  |str j=>have{t',0}:=ry;show PySem.EqMixed.eq_int_str (bf I q (by simp))
  |_=>show absurd (show false=true from hs) AO
 |str i=>
  have{t,0}:=rx;cases y with
  |non=>cases ry;show PySem.EqNone.eq_str_none (bf I q (by simp))
  |bl j=>cases ry;show PySem.EqMixed.eq_str_bool (bf I q (by simp))
  |int j=>have{t',0}:=ry;show PySem.EqMixed.eq_str_int (bf I q (by simp))
  |str j=>have{t',0}:=ry;show eq_str (bf I q ss)
  |_=>show absurd (show false=true from hs) AO
 |byt i=>
  have{t,0}:=rx;cases y with
  |byt j=>have{t',0}:=ry;show W.eq_bytes (bf I q su)
  |_=>show absurd (show false=true from hs) AO
 |_=>cases y<;>show absurd (show false=true from hs) AO
def sv:OpR X (compareOp .NotEq) rNe:=by
 intro M6 s σ H x y v u Q I rx ry h;have{hs,q}:=h;cases x with
 |non=>
  cases rx;cases y with
  |non=>cases ry;show PySem.EqNone.ne_none_none (bf I q (by simp))
  |bl j=>cases ry;show PySem.EqNone.ne_none_bool (bf I q (by simp))
  |int j=>have{t',0}:=ry;show PySem.EqNone.ne_none_int (bf I q (by simp))
  |str j=>have{t',0}:=ry;show PySem.EqNone.ne_none_str (bf I q (by simp))
  |_=>show absurd (show false=true from hs) AO
 |bl i=>
  cases rx;cases y with
  |non=>cases ry;show PySem.EqNone.ne_bool_none (bf I q (by simp))
  |bl j=>cases ry;show ne_bool (bf I q (BB not sr))
  |str j=>have{t',0}:=ry;show PySem.EqMixed.ne_bool_str (bf I q (by simp))
  |_=>show absurd (show false=true from hs) AO
 |int i=>
  have{t,0}:=rx;cases y with
  |non=>cases ry;show PySem.EqNone.ne_int_none (bf I q (by simp))
  |int j=>have{t',0}:=ry;show ne_int (bf I q (BB not sk))
  |str j=>have{t',0}:=ry;show PySem.EqMixed.ne_int_str (bf I q (by simp))
  |_=>show absurd (show false=true from hs) AO
 |str i=>
  have{t,0}:=rx;cases y with
  |non=>cases ry;show PySem.EqNone.ne_str_none (bf I q (by simp))
  |bl j=>cases ry;show PySem.EqMixed.ne_str_bool (bf I q (by simp))
  |int j=>have{t',0}:=ry;show PySem.EqMixed.ne_str_int (bf I q (by simp))
  |str j=>have{t',0}:=ry;show ne_str (bf I q (BB not ss))
  |_=>show absurd (show false=true from hs) AO
 |byt i=>
  have{t,0}:=rx;cases y with
  |byt j=>have{t',0}:=ry;show W.ne_bytes (bf I q (BB not su))
  |_=>show absurd (show false=true from hs) AO
 |_=>cases y<;>show absurd (show false=true from hs) AO
def dY:OpR X (compareOp .Lt) (rI0 λi j=>.bl (decide (i<j))):=kH λ_ _ _ _ _ _ _ q=>lt_int q
def kJ:OpR X (compareOp .LtE) (rI0 λi j=>.bl (decide (i<=j))):=kH λ_ _ _ _ _ _ _ q=>le_int q
def fH:OpR X (compareOp .Gt) (rI0 λi j=>.bl (decide (j<i))):=kH λ_ _ _ _ _ _ _ q=>gt_int q
def jc:OpR X (compareOp .GtE) (rI0 λi j=>.bl (decide (j<=i))):=kH λ_ _ _ _ _ _ _ q=>ge_int q
def Ez:OpR X (compareOp .Is) (λx y H Q=>y=.non/\Q (.bl (decide (x=.non))) H):=by
 intro M6 s σ H x y v u Q I rx ry h;have{0,q}:=h;cases ry;show is_none_gen (bf I q ?_);cases x<;>first
  |(cases rx;rfl)
  |(have{t,0}:=rx;rfl)
def aC(b:Sl)(h:op≠ .In:=by decide)(h2:op≠ .NotIn:=by decide):behindInMarks op b=false:=by
 have e1:(op==CmpOp.In)=false:=by cases op<;>first|rfl|show absurd rfl h
 have e2:(op==CmpOp.NotIn)=false:=by cases op<;>first|rfl|show absurd rfl h2
 cases b<;>first|rfl|(show(_&&(op==CmpOp.In||op==CmpOp.NotIn)&&_)=false;rw[e1,e2,Bool.or_self,Cd,D5])
def dH(ho:OpR X (compareOp op) r)(ha:PE X a ta)(hb:PE X b tb)(hm:behindInMarks op b=false):PE X (.Compare a [op] [b] pos) (tOp r ta tb):=by
 intro M6 s σ H Q I h;show wpAny_Compare1 (mV ha hb I h λv u s2 x y H2 I2 rx ry q=>ho M6 s2 σ H2 x y v u Q I2 rx ry q) hm
inductive tTest_(Q:(Bool->Hp->Prop))(x:V)(H':Hp):Prop
 |mk k:x=.bl k->Q k H'->tTest_ Q x H'
def EA(t:TE):TT:=λσ H Q=>t σ H λx H'=>tTest_ Q x H'
def aP(ho:OpR X (compareOp op) r)(ha:PE X a ta)(hb:PE X b tb)(hm:behindInMarks op b=false):PT X (.Compare a [op] [b] pos) (EA (tOp r ta tb)):=by
 intro M6 s σ H Q I h;show wpAny_isTrue_Compare1 (thn (ha M6 s σ H _ I h) λv s1 ⟨x,H1,I1,r1,q1⟩=>thn (hb M6 s1 σ H1 _ I1 q1) λu s2 ⟨y,H2,I2,r2,q2⟩=>
  thn (ho M6 s2 σ H2 x y v u _ I2 r1 r2 q2) λc s3 ⟨z,H3,I3,r3,k,e,q3⟩=>?_) hm
 subst e;cases r3;show Bo {H3,I3,q3}
def sw(K:W.Frag)(x:V)(H:Hp)(k:Bool):Prop:=
 match x with
 |.non=>k=false
 |.bl b=>k=b
 |.int i=>k=(i !=0)
 |.str y=>y.length<=sizeLine/\k=((y.length:Int) !=0)
 |.byt y=>y.size<=sizeLine/\k=((y.size:Int) !=0)
 |.ref p=>(∃xs,SqL K H p xs/\k= !xs.isEmpty)\/(∃xs,SqT K H p xs/\k= !xs.isEmpty)\/∃M7,H p=some (.dK M7)/\k= !M7.isEmpty
 |_=>False
def EB{κ:Type}{M7:Sk (κ×V)}{vs:Sk (κ×PP)}(r:KV M7 vs):(!vs.isEmpty)= !M7.isEmpty:=by
 cases r<;>rfl
def mW{M9:Sk PP}(r:au xs M9):(!M9.toArray.isEmpty)= !xs.isEmpty:=by
 cases r<;>simp
def gp:(sizeLine:Nat)<2^63:=by rw[B1];decide
def EC:Ev X (λx H Q=>∃k,sw X.K x H k/\Q k H):=by
 intro M6 s σ H x v Q I rx h;have{k,e,q}:=h;have hl:=gp;have hs:sizeLine=16777216:=B1;cases x with
 |non=>
  cases rx;have e':k=false:=e;subst e';show truthy_none {H,I,q}
 |bl b=>
  cases rx;have e':k=b:=e;subst e';show Bo {H,I,q}
 |int i=>
  have{t,0}:=rx;have e':k=(i !=0):=e;subst e';show PySem.P.truthy_int {H,I,q}
 |str y=>
  have{t,0}:=rx;obtain⟨hy,e'⟩:y.length<=sizeLine/\k=((y.length:Int) !=0):=e;subst e';show PySem.P.truthy_str (by lia) {H,I.tok _,q}
 |byt y=>
  have{t,0}:=rx;obtain⟨hy,e'⟩:y.size<=sizeLine/\k=((y.size:Int) !=0):=e;subst e';show W.truthy_bytes (by lia) {H,I.tok _,q}
 |ref p=>
  cases rx;have e':(∃xs,SqL X.K H p xs/\k= !xs.isEmpty)\/(∃xs,SqT X.K H p xs/\k= !xs.isEmpty)\/∃M7,H p=some (.dK M7)/\k= !M7.isEmpty:=e;rcases e' with⟨xs,hx,e'⟩|⟨xs,hx,e'⟩|⟨M7,hx,e'⟩
  .subst e';have{M9,r,pl,hz}:=I.list hx;have Na:=r.length;show wpAny_truthy_list pl.isList (by simp only[AH];lia) {H,I.tok _,by rw[mW r];show q}
  .subst e';have{M9,r,pl,hz}:=I.tuple hx;have Na:=r.length;show truthy_tuple pl (by simp only[AH];lia) {H,I.tok _,by rw[mW r];show q}
  .subst e';obtain⟨hz,hS,vs,r,m⟩:M7.length<=sizeLine/\(p==sysModules)=false/\∃vs,KV M7 vs/\s.heap.DictOf (bY X.prog X.w) p vs:=I.hok p _ hx;have Na:M7.length=vs.length:=C8 r;show wpAny_truthy_dict hS m (by lia) {H,I.tok _,by rw[EB r];show q}
 |_=>show(show False from e).elim
def kK(ha:PE X a ta)(he:∀N4,isTrue a X.env N4=(do let v<-N4;standAt a.pos;holding [v] (truthy v))):
  PT X a (λσ H Q=>ta σ H λx H'=>∃k,sw X.K x H' k/\Q k H'):=by
 intro M6 s σ H Q I h;show isTrue_plain (thn (ha M6 s σ H _ I h) λv s1 No=>by have{x,H1,I1,r1,q1}:=No;show EC M6 s1 σ H1 x v Q I1 r1 q1) (he _)
def c8{x:V}(r:au [x] us):∃u,us=[u]/\aw x u:=by
 cases r with
 |cons r1 r2=>cases r2;show{1,r1}
def kL{x y:V}(r:au [x,y] us):∃u w',us=[u,w']/\aw x u/\aw y w':=by
 cases r with
 |cons r1 r2=>
  cases r2 with
  |cons r3 r4=>cases r4;show{3,r1,r3}
def mX:bP X (.builtin "abs") (λxs H Q=>∃i,xs=[.int i]/\Q (.int (if i<0 then -i else i)) H):=by
 intro M6 s σ H xs us Q I r h;have{i,0,q}:=h;have{u,0,t,0}:=c8 r;show call_abs_int λu tk=>{.int (if i<0 then -i else i),H,I.tok _,{1},q}
def ED(hc:X.calm=true):bP X (.builtin "max") (λxs H Q=>∃i j,xs=[.int i,.int j]/\Q (.int (if j>i then j else i)) H):=by
 intro M6 s σ H xs us Q I r h;have{i,j,0,q}:=h;have{u,w',0,{t,0},{t',0}}:=kL r;show max_two_ints (I.ok.hd hc) λh' tk k=>{_,H,I.kept k,?_,q};by_cases hj:j>i
 .rw[A8 hj,A8 hj];show{1}
 .rw[A6 hj,A6 hj];show{1}
def sI(hc:X.calm=true):bP X (.builtin "min") (λxs H Q=>∃i j,xs=[.int i,.int j]/\Q (.int (if j<i then j else i)) H):=by
 intro M6 s σ H xs us Q I r h;have{i,j,0,q}:=h;have{u,w',0,{t,0},{t',0}}:=kL r;show min_two_ints (I.ok.hd hc) λh' tk k=>{_,H,I.kept k,?_,q};by_cases hj:j<i
 .rw[A8 hj,A8 hj];show{1}
 .rw[A6 hj,A6 hj];show{1}
end
structure ObjM(h:Sm)(x dx C:Se)(mA:Str->Sn PP):Prop where
 obj:h.get? x=some (W.instObj C dx)
 ns:h.Ns1 dx mA
 ne:dx≠x
def EE(n:h.Ns1 dx mA):∃od,h.get? dx=some od/\∀name,W.lookIn name od=some (mA name):=by
 have{o,es,ep,ho,hd,hk,_,hm}:=n;show{o,ho,λname=>?_};have e:=hm name;unfold nsFind findBy at e;rw[<-Array.find?_toList] at e;unfold W.lookIn;rw[hd];dsimp only;split
 .rename_i y q;rw[q] at e;show BB some e
 .rename_i q;rw[q] at e;have a:es.toList.any (·.refKey)=false:=by
   rw[List.any_eq_false];intro y hy;have{z,t,hkey}:=hk y (Array.mem_toList_iff.mp hy);simp[DictEntry.refKey,hkey]
  have a':¬es.toList.any (·.refKey)=true:=by rw[a];show AO
  rw[A6 a'];show BB some e
def ObjM.look{x C:Se}(I:ObjM h x dx C mA):∃od,W.InstAt h x (W.instObj C dx) C (some od)/\∀name,W.lookIn name od=some (mA name):=
 let ⟨od,ho,hl⟩:=EE I.ns
 {od,{I.obj,0,0,ho},hl}
def cE.some_of{o:Sn PP}(r:cE (some v) o):∃u,o=some u/\aw v u:=by
 cases o with
 |none=>show(show False from r).elim
 |some u=>show{u,0,r}
section
variable{P:Sf}{w:Si}{H H':Hp}{h h':Sm}{a C dx:Se}{fs fs':Sk (Str×V)}
def EF(hok:HOk P w H h)(e:H a=some (.ins C dx fs)):∃mA,ObjM h a dx C mA/\(∀f,cE (fs.lookup f) (mA f))/\PySem.Within mA (fs.map (·.1))/\fs.length<=1000/\H dx=some (.own a):=by
 have{d,z,ne,ob,mA,n,r,q}:=(show aG P w H h a (.ins C dx fs) from hok a _ e);show{mA,{ob,n,ne},r,q,z,d}
end
structure Cls(K:W.Frag)(C:Se):Prop where
 pg:W.plainGet K C Str.empty=true
 hd:W.hasDictIn K C=true
 po:W.plainOver K C=true
 sa:W.findIn K (.ref C) "__setattr__"=some (some (.builtin "object.__setattr__"))
def Cls.get{K:W.Frag}{C:Se}(c:Cls K C)(f:Str):W.plainGet K C f=true:=c.pg
section
variable{X:Cx}{M6:Sk (Se×Obj)}{σ:St}{H:Hp}{s:Sc}{A:Sj}{E:PP->Sc->Prop}{Q:PP->Sc->Prop}{c:PP}{b:Bool}
inductive TyOf(K:W.Frag)(H:Hp):V->Value->Prop where
 |non:TyOf K H .non (.type "NoneType")
 |bl (x:Bool):TyOf K H (.bl x) (.type "bool")
 |int (i:Int):TyOf K H (.int i) (.type "int")
 |str (x:Str):TyOf K H (.str x) (.type "str")
 |flt (x:UInt64):TyOf K H (.flt x) (.type "float")
 |lst {a:Addr}{xs:List V} (e:H a=some (.lst xs)):TyOf K H (.ref a) (.type "list")
 |frz {a:Addr}{o:Obj}{xs:List V} (e:H a=some (.frz o (.lst xs))):TyOf K H (.ref a) (.type "list")
 |tup {a:Addr}{xs:List V} (e:H a=some (.tup xs)):TyOf K H (.ref a) (.type "tuple")
 |dK {a:Addr}{M7:List (Key×V)} (e:H a=some (.dK M7)):TyOf K H (.ref a) (.type "dict")
 |dT {a:Addr}{M7:List (List Key×V)} (e:H a=some (.dT M7)):TyOf K H (.ref a) (.type "dict")
 |ins {a C dx:Addr}{fs:List (Str×V)} (e:H a=some (.ins C dx fs)) (cl:Cls K C) (ha:W.findIn K (.ref C) "__class__"=some (some (.builtin "object.__class__")))
   (hn:W.specialIn K (.builtin "object.__class__") "__get__"=some (some (.builtin "getset_descriptor.__get__"))) (htk:W.takesIn K (.builtin "object.__class__")=some true)
   (hm:W.mroIn K C (.type "object")=some true):TyOf K H (.ref a) (.ref C)
def EG{x:V}{t:PP}(I:Inv X M6 σ H s)(rx:aw x u)(ty:TyOf X.K H x t)(e:W.kitOne X.K t c=some b)(h:∀tk,Q (.bool b) {s with toks:=tk}):
  wpAny (model X.prog X.w) A (call (.builtin "isinstance") [u,c]) Q E s:=by
 cases ty with
 |non=>cases (show u=Value.none from rx);show Bd W.kitx_none I.kIn True.intro e (λz=>nomatch z) h
 |bl y=>cases (show u=Value.bool y from rx);show Bd W.kitx_bool I.kIn True.intro e (λz=>nomatch z) h
 |int i=>have{t,q}:=(show∃t,u=Value.int i t from rx);cases q;show Bd W.kitx_int I.kIn True.intro e (λz=>nomatch z) h
 |str y=>have{t,q}:=(show∃t,u=Value.str y t from rx);cases q;show Bd W.kitx_str I.kIn True.intro e (λz=>nomatch z) h
 |flt y=>have{t,q}:=(show∃t,u=Value.float y t from rx);cases q;show Bd W.kitx_float I.kIn True.intro e (λz=>nomatch z) h
 | @lst a xs ea=>
  cases (show u=Value.ref a from rx);have{_,_,n,_,h1}:=(show aG X.prog X.w H s.heap a (.lst xs) from I.hok a _ ea);show Bd W.kitx_list I.kIn {_,h1,0} e (λz=>nomatch z) h
 | @frz a ob xs ea=>
  cases (show u=Value.ref a from rx);have{_,_,_,n,_,h1}:=(show aG X.prog X.w H s.heap a (.frz ob (.lst xs)) from I.hok a _ ea);show Bd W.kitx_list I.kIn {_,h1,0} e (λz=>nomatch z) h
 | @tup a xs ea=>
  cases (show u=Value.ref a from rx);have{_,_,_,p}:=(show aG X.prog X.w H s.heap a (.tup xs) from I.hok a _ ea);have{o,h1,h2,_}:=p;show Bd W.kitx_tuple I.kIn {o,h1,h2} e (λz=>nomatch z) h
 | @dK a M7 ea=>
  cases (show u=Value.ref a from rx);have{_,_,vs,_,p}:=(show aG X.prog X.w H s.heap a (.dK M7) from I.hok a _ ea);have{o,es,ep,h1,h2,_}:=p;show Bd W.kitx_dict I.kIn {o,h1,h2.1} e (λz=>nomatch z) h
 | @dT a M7 ea=>
  cases (show u=Value.ref a from rx);have{_,_,xs,_,o,es,ep,h1,h2,_}:=(show aG X.prog X.w H s.heap a (.dT M7) from I.hok a _ ea);show Bd W.kitx_dict I.kIn {o,h1,h2.1} e (λz=>nomatch z) h
 | @ins a C dx fs ea cl ha hn htk hm=>
  cases (show u=Value.ref a from rx);have{mA,O,_}:=EF I.hok ea;have{od,J,_}:=O.look;show Bd (W.kitx_own (cl.get _) cl.hd ha hn htk hm) I.kIn J e (λz=>nomatch z) h
end
structure Room(k:Nat)(A:Sj):Prop where
 hd:A.handled=none
 dp:A.depth+3*k+5<recursionLimit
 un:A.units+16*k+200<cLine
theorem Room.mono(r:Room k A)(h:j<=k):Room j A:={r.hd,by have:=r.dp;lia,by have:=r.un;lia}
theorem Room.deeper{k:Nat}{A:Sj}(r:Room (k+1) A)(env:Env):Room k (A.deeper env):=
 {r.hd,by have:=r.dp;change A.depth+1+3*k+5<_;lia,by have:=r.un;change A.units+3+16*k+200<_;lia}
def Room.depth{k:Nat}{A:Sj}(r:Room k A):A.depth<recursionLimit:=by have:=r.dp;lia
def Room.units{k:Nat}{A:Sj}(r:Room k A):A.units+64<cLine:=by have:=r.un;lia
def sJ:TA:=λ_ H Q=>Q [] H
def EH(ta:TE)(tr:TA):TA:=λσ H Q=>ta σ H λx H1=>tr σ H1 λxs H2=>Q (x::xs) H2
section
variable{X:Cx}{e:Sl}{es:Sk Sl}{te:TE}{t:TA}{pos:Pos}
def af:PA X [] sJ:=λ_ _ _ _ H Q I h=>Calls.spliced_nil {[],H,I,.nil,h}
def ab(ha:PE X e te)(hr:PA X es t)(hs:starEach (e::es) X.env=(false,eval e X.env)::starEach es X.env:=by rfl):PA X (e::es) (EH te t):=by
 intro pos M6 s σ H Q I h;rw[hs];change wpAny _ _ (spliced ((false,eval e X.env)::backTo pos (starEach es X.env))) _ _ s;show CV (thn (ha M6 s σ H _ I h) λu s1 zu32=>?_);have{x,H1,I1,r1,q1}:=zu32;show thn (hr pos M6 s1 σ H1 _ I1 q1) λus s2 No=>by have{xs,H2,I2,r2,q2}:=No;show{x::xs,H2,I2,.cons r1 r2,q2}
def EI(t:TA):TE:=λσ H Q=>t σ H λxs H1=>xs.length<=sizeLine/\∀p,H1 p=none->Q (.ref p) (upd H1 p (.tup xs))
def EJ(t:TA):TE:=λσ H Q=>t σ H λxs H1=>xs.length<=sizeLine/\∀p,H1 p=none->Q (.ref p) (upd H1 p (.lst xs))
def mY{x1}(h:PA X es t):PE X (.Tuple es x1 pos) (EI t):=by
 intro M6 s σ H Q I hq;show wpAny_Tuple_spliced (thn (h pos M6 s σ H _ I hq) λus s1 ⟨xs,H1,I1,r,z,q⟩=>{by rw[<-r.length];show z,?_});have hf:H1 s1.heap.objs.size=none:=I1.hok.fresh (AB _);show{.ref s1.heap.objs.size,upd H1 s1.heap.objs.size (.tup xs),I1.laid (t':=s1.toks) (λb u e=>A4 _ e) (AB _) ?_,0,q _ hf};show{z,us,r,{_,AJ _ rfl,0,1}}
def dZ(h:PA X es t):PE X (.List es pos) (EJ t):=by
 intro M6 s σ H Q I hq;show wpAny_List_spliced (thn (h pos M6 s σ H _ I hq) λus s1 ⟨xs,H1,I1,r,z,q⟩=>{by rw[<-r.length];show z,?_});have hf:H1 s1.heap.objs.size=none:=I1.hok.fresh (AB _);show{.ref s1.heap.objs.size,upd H1 s1.heap.objs.size (.lst xs),I1.laid (t':=s1.toks) (λb u e=>A4 _ e) (AB _) ?_,0,q _ hf};show{z,us,(0),r,AJ _ rfl}
end
abbrev Sp:=Sk V->Hp->VK->XK->Prop
variable{sp:Sp}
abbrev CXT:=Sk Env->Hp->Sc->XK->PP->Sc->Prop
variable{CX:CXT}
structure Env0(P:Sf)(w:Si)(K:W.Frag)(mg:Str->Sn PP)(base:Sm)(A:Sj)(outer:Sk Env)(s:Sc)(H:Hp):Prop where
 frames:A.frames=some outer
 mod:Mod K mg base
 bs:∀b o,base.get? b=some o->s.heap.get? b=some o/\H b=none
 bsz:base.objs.size<=s.heap.objs.size
 funs:s.heap.FunFrames base outer
 frf:∀b∈frs outer,H b=none
 hok:HOk P w H s.heap
 bare:AllBare s.gens
def CE(outer:Sk Env)(P:Sf)(w:Si)(H:Hp)(s:Sc)(Q:VK)(u:PP)(s':Sc):Prop:=
 ∃v H',s'.os=s.os/\AllBare s'.gens/\Un (frs outer) [] H H' s.heap s'.heap/\HOk P w H' s'.heap/\aw v u/\Q v H'
def CR(CX:CXT)(outer:Sk Env)(P:Sf)(w:Si)(H:Hp)(s:Sc)(Q:VK)(E:XK)(r:Result)(s':Sc):Prop:=
 match r with
 |.ok (.ret u)=>CE outer P w H s Q u s'
 |.ok _=>False
 |.error e=>CX outer H s E e s'
structure FnOk(P:Sf)(w:Si)(K:W.Frag)(mg:Str->Sn PP)(base:Sm)(CX:CXT)(k:Nat)(f:Se)(fd:Sg)(ps:Sk Str)(sp:Sp):Prop where
 len:∀vs H Q E,sp vs H Q E->vs.length=ps.length
 run:∀(A:Around) (outer:List Env) (s:Shared) (H:Hp) (args:Args) (us:List Value) (vs:List V) (Q:VK) (E:XK),Room k A->Env0 P w K mg base A outer s H->BindsTo s fd args (ps.zip us)->au vs us->sp vs H Q E->
  codeAny (model P w) A (.call (.ref f) args) (CR CX outer P w H s Q E) s
def FnOk.imp{sp':Sp}(F:FnOk P w K mg base CX k f fd ps sp)
  (h:∀vs H Q E,sp' vs H Q E->sp vs H Q E):FnOk P w K mg base CX k f fd ps sp':=
 {λvs H Q E q=>F.len vs H Q E (h _ _ _ _ q),λA outer s H args us vs Q E hr he hb hv hs=>F.run A outer s H args us vs Q E hr he hb hv (h _ _ _ _ hs)}
section
variable{X:Cx}{M6:Sk (Se×Obj)}{σ:St}{H:Hp}{s s':Sc}
def Inv.env0(I:Inv X M6 σ H s):Env0 X.prog X.w X.K X.mg X.base X.A X.stack s H:=
 {I.ok.frames,I.ok.mod,I.bs,BG I.ok.bsz I.sz,I.stack,I.stkFree,I.hok,I.bare}
def Inv.after{Q:VK}(I:Inv X M6 σ H s)(h:CE X.stack X.prog X.w H s Q u s'):EP X M6 σ Q u s':=by
 have{v,H',os,bare,un,hok,r,q}:=h;have{hh,g,d,t,Re}:=s';obtain rfl:Re=s.os:=os;show{v,H',I.call (h':=hh) (g':=g) (d':=d) (t':=t) (ch:=[]) un hok bare (λb z=>absurd z (by simp)),r,q}
end
def mZ(sp:Sp)(Np:Sk V)(E:XK)(t:TA):TE:=λσ H Q=>t σ H λvs H1=>sp (vs++Np) H1 Q E
def gq(K:W.Frag)(fd:Sg)(ps:Sk Str)(ds:Sk PP):Prop:=
 ∀(s:Sc) (us:Sk PP),K.In s.heap->(us++ds).length=ps.length->BindsTo s fd {us,[]} (ps.zip (us++ds))
theorem gq.all(h:∀us:Sk PP,us.length=ps.length->bindArgs fd {us,[]}=pure (ps.zip us)):gq K fd ps []:=λs us _ hl=>by
 rw[BR] at hl⊢;show .of_eq (h us hl)
def kM(CX:CXT)(X:Cx)(E:XK):Prop:=∀(M6:Sk (Se×Obj)) (σ:St) (H:Hp) (s:Sc) (e:PP) (s':Sc),Inv X M6 σ H s->CX X.stack H s E e s'->X.xe e s'
section
variable{X:Cx}{CX:CXT}{k:Nat}{f C:Se}{fd:Sg}{ps:Sk Str}{sp:Sp}{Np:Sk V}{ds:Sk PP}{E:XK}{x m:Str}{p pos Nr:Pos}{e o:Sl}{es:Sk Sl}{ta:TE}{t:TA}
def sK{σ:St}{Q:VK}(F:FnOk X.prog X.w X.K X.mg X.base CX k f fd ps sp)(hr:Room k X.A)(hb:gq X.K fd ps ds)(hd:au Np ds)(hx:kM CX X E)
  (I:Inv X M6 σ H s) (r:au vs us) (h:sp (vs++Np) H Q E):wpAny (model X.prog X.w) X.A (call (.ref f) us) (EP X M6 σ Q) X.xe s:=by
 have r2:au (vs++Np) (us++ds):=r.append hd;have hl:(us++ds).length=ps.length:=by rw[<-r2.length];show F.len _ _ _ _ h
 show wpAny_call (codeAny_mono (F.run X.A X.stack s H {us,[]} (us++ds) (vs++Np) Q E hr I.env0 (hb s us I.kIn hl) r2 h) λr s' hq=>?_);cases r with
 |error e=>show hx M6 σ H s e s' I hq
 |ok fl=>
  cases fl with
  |ret u=>show I.after hq
  |next=>show False.elim hq
  |brk=>show False.elim hq
  |cont=>show False.elim hq
def ee(F:FnOk X.prog X.w X.K X.mg X.base CX k f fd ps sp)(hr:Room k X.A)(hg:Gl X x)(hm:X.mg x=some (.ref f))(hk:W.keepIn X.K (.ref f)=true)(hb:gq X.K fd ps ds)(hd:au Np ds)(hx:kM CX X E)
  (ha:PA X (e::es) t) (PH:(x==("__debug__":Str))=false:=by decide) (he:starEach (e::es) X.env=(false,eval e X.env)::starEach es X.env:=by rfl) (Po:(backTo pos (starEach es X.env)).any (·.1)=false:=by rfl):
  PE X (.Call (.Name x p) (e::es) [] pos) (mZ sp Np E t):=by
 intro M6 s σ H Q I h;show BK (mT I hg hm ?_ PH);show W.callWith_K (h₀:=X.base) I.ok.mod.kin hk (thn (ha pos M6 s σ H _ I h) λus s1 zu33=>?_) he Po;have{vs,H1,I1,r,q}:=zu33;show{I1.kIn,?_};show sK F hr hb hd hx I1 r q
def EK(F:FnOk X.prog X.w X.K X.mg X.base CX k f fd ps sp)(hr:Room k X.A)(hg:Gl X x)(hm:X.mg x=some (.ref f))(hk:W.keepIn X.K (.ref f)=true)(hb:gq X.K fd ps ds)(hd:au Np ds)(hx:kM CX X E)
  (PH:(x==("__debug__":Str))=false:=by decide):PE X (.Call (.Name x p) [] [] pos) (mZ sp Np E sJ):=by
 intro M6 s σ H Q I h;show BK (mT I hg hm ?_ PH);show W.callWith_K0 I.kIn hk (sK (us:=[]) F hr hb hd hx I .nil h)
end
structure FnScope(N P:Sk Str)(sc:Scope):Prop where
 kind:sc.kind=.function
 co:sc.isCoroutine=false
 gen:sc.isGenerator=false
 nd:N.Nodup
 pre:N.take P.length=P
 par:∀x∈P,sc.names.lookup x=some .local\/sc.names.lookup x=some .cell
 nofree:∀y∈sc.names,y.2≠ .free
theorem sL{kindOf:Str->Sn NameKind}{x:Str}:∀{binds:Sk (Str×PP)}{m:Str->Sn PP},(∀v,(x,v)∉binds)->bindL kindOf binds m x=m x
 |[],_,_=>rfl
 |(n,v)::r,m,h=>by
  unfold bindL;rw[sL λw hw=>h w (AG _ hw)];split
  .have:x≠n:=by rintro rfl;show h v AE
   simp[this]
  .rfl
theorem sM{kindOf:Str->Sn NameKind}{x:Str}:∀{binds:Sk (Str×PP)}{m:Str->Sn PP},(∀v,(x,v)∉binds)->bindC kindOf binds m x=m x
 |[],_,_=>rfl
 |(n,v)::r,m,h=>by
  unfold bindC;rw[sM λw hw=>h w (AG _ hw)];split
  .rfl
  .have:x≠n:=by rintro rfl;show h v AE
   simp[this]
theorem sN{kindOf:Str->Sn NameKind}{x:Str}{v:PP}:∀{P:Sk Str}{vs:Sk PP}{i:Nat}{m:Str->Sn PP},P.Nodup->P[i]? =some x->vs[i]? =some v->kindOf x=some .local->
  bindL kindOf (P.zip vs) m x=some v
 |[],_,_,_,_,h,_,_=>by simp at h
 |_::_,[],_,_,_,_,h,_=>by simp at h
 |p::P,w::vs,0,m,nd,h1,h2,hk=>by
  simp at h1 h2;subst h1;subst h2;change bindL kindOf ((p,w)::P.zip vs) m p=_;unfold bindL;rw[sL λv hv=>(Bf.mp nd).1 (List.of_mem_zip hv).1,A8 hk];simp
 |p::P,w::vs,i+1,m,nd,h1,h2,hk=>by
  change bindL kindOf ((p,w)::P.zip vs) m x=_;unfold bindL;show sN (i:=i) (Bf.mp nd).2 (by simpa using h1) (by simpa using h2) hk
theorem sO{kindOf:Str->Sn NameKind}{x:Str}{v:PP}:∀{P:Sk Str}{vs:Sk PP}{i:Nat}{m:Str->Sn PP},P.Nodup->P[i]? =some x->vs[i]? =some v->kindOf x≠some .local->
  bindC kindOf (P.zip vs) m x=some v
 |[],_,_,_,_,h,_,_=>by simp at h
 |_::_,[],_,_,_,_,h,_=>by simp at h
 |p::P,w::vs,0,m,nd,h1,h2,hk=>by
  simp at h1 h2;subst h1;subst h2;change bindC kindOf ((p,w)::P.zip vs) m p=_;unfold bindC;rw[sM λv hv=>(Bf.mp nd).1 (List.of_mem_zip hv).1,A6 hk];simp
 |p::P,w::vs,i+1,m,nd,h1,h2,hk=>by
  change bindC kindOf ((p,w)::P.zip vs) m x=_;unfold bindC;show sO (i:=i) (Bf.mp nd).2 (by simpa using h1) (by simpa using h2) hk
def start(N:Sk Str)(vs:Sk V):St:=vs.map some++List.replicate (N.length-vs.length) none
def gr(CX:CXT)(P:Sf)(w:Si)(K:W.Frag)(mg:Str->Sn PP)(base:Sm)(N:Sk Str)(Nf:Str)(scope:Scope)(f:Se)(cd:PP)(A:Sj)(outer:Sk Env)(s:Sc)(H:Hp)(E:XK):Cx where
 prog:=P
 w:=w
 K:=K
 mg:=mg
 base:=base
 A:=A.deeper (envOfC Nf scope s.heap.objs.size f cd)
 N:=N
 s₀:=s
 H₀:=H
 env:=envOfC Nf scope s.heap.objs.size f cd
 outer:=outer
 stack:=envOfC Nf scope s.heap.objs.size f cd::outer
 ex:=[]
 calm:=true
 fn:=λ_=>true
 pn:=[]
 xe:=λe s'=>wpAny (model P w) (A.deeper (envOfC Nf scope s.heap.objs.size f cd)) (leaving (envOfC Nf scope s.heap.objs.size f cd) e) (λ_ s''=>CX outer H s E e s'') (λe' s''=>CX outer H s E e' s'') s'
def sP{sc:Scope}(h:sc.names.lookup x=some .cell):∃c,(cellsFrom n sc.names []).lookup x=some c:=by
 have q:=W.cellsFrom_some sc.names n [] (.inl h);show Option.isSome_iff_exists.mp q
def EL{cd:PP}{outer:Sk Env}{s1:Sc}{E:XK}
  (S:FnScope N ps scope) (hd:A.handled=none) (e0:Env0 P w K mg base A outer s H) (hl:vs.length=ps.length) (r:au vs us)
  (x:InCallC s s.heap.objs.size (bindL (envOfC Nf scope s.heap.objs.size f cd).kindOf (ps.zip us) λ_=>none) (cellsFrom (s.heap.objs.size+1) scope.names []) (bindC (envOfC Nf scope s.heap.objs.size f cd).kindOf (ps.zip us) λ_=>none) s1):
  Inv (gr CX P w K mg base N Nf scope f cd A outer s H E) [] (start N vs) H s1:=by
 have Po:ps.length<=N.length:=by have:=BB List.length S.pre;rw[Ai] at this;lia
 have{h1,tk,0,hk}:=x.done;have noA:∀b:Se,b∉(gr CX P w K mg base N Nf scope f cd A outer s H E).ex:=λb z=>absurd (show b∈([]:Sk Se) from z) (by simp);show{{e0.mod,S.kind,0,0,AB _,λy z c h1 h2=>?_,λy hy=>?_,λy c _ h=>?_,λ_=>hd,Around.frames_deeper e0.frames,.inr {0,0},λb z=>absurd z (noA b),e0.bs,e0.bsz,λb _ _=>noA b,λb z=>absurd z (noA b),e0.funs,e0.frf},0,e0.bare,Un.kept hk,{_,x.toInCall.ns,λi y v h1 h2 h3=>?_},λy c h=>{_,x.cell y c h},e0.hok.fresh (AB _),λy c h=>?_,λp hp=>absurd (show p∈([]:Sk (Se×Obj)) from hp) (by simp),e0.hok.kept hk,?_}
 .show name_of_addr x.apart (C2 h1) (C2 h2)
 .have hy:scope.names.lookup y=some .cell\/scope.names.lookup y=some .free:=hy;rcases hy with hy|hy
  .show sP hy
  .show absurd rfl (S.nofree _ (C2 hy))
 .show AZ (x.above y c (C2 h))
 .have hi:i<vs.length:=by
   unfold start at h2;by_cases hi:i<vs.length
   .show hi
   .rw[BF (by simpa using hi)] at h2;rw[Cv] at h2;split at h2<;>cases h2
  have ha:vs[i]? =some v:=by
   unfold start at h2;rw[Ba (by simpa using hi),AC] at h2;cases e:vs[i]? with
   |none=>rw[e] at h2;cases h2
   |some a=>rw[e] at h2;cases h2;rfl
  have{u,hu,rv}:=r.get ha;have hp:ps[i]? =some y:=by
   rw[<-S.pre,List.getElem?_take_of_lt (by lia)];show h1
  have ndP:ps.Nodup:=by rw[<-S.pre];show S.nd.sublist (List.take_sublist _ _)
  show{u,rv,?_};rcases S.par y (AR hp) with k|k
  .show .inl {k,sN ndP hp hu k}
  .have{c,e}:=sP (n:=s.heap.objs.size+1) k;show .inr {.inl k,c,e,?_};have q:=x.cell y c e;rw[sO ndP hp hu (by change scope.names.lookup y≠_;rw[k];decide)] at q;show q
 .show e0.hok.fresh (AZ (x.above y c (C2 h)))
 .unfold start;change _=N.length;rw[AD,A1,Ah];lia
def EM{name:Str}{params:Arguments}{dV kV OE pm Nu ct oc:PP}{an od:Sn Se}
  {QQ:Array (Sn PP)}(lk:K.lookup f=some {oc,od,.func (W.fnOf name Nf params body scope dV kV OE pm an Nu ct),QQ}) (PF:W.codeIn K Nu Nf=true) (S:FnScope N ps scope)
  (len:∀vs H Q E,sp vs H Q E->vs.length=ps.length)
  (OJ:∀(A:Sj) (outer:Sk Env) (s:Sc) (H:Hp) (vs:Sk V) (Q:VK) (E:XK),Room k (A.deeper (envOfC Nf scope s.heap.objs.size f Nu))->sp vs H Q E->
   ∃t,PSs (gr CX P w K mg base N Nf scope f Nu A outer s H E) body t/\t {nx:=λ_ H'=>Q .non H',rt:=Q} (start N vs) H):
  FnOk P w K mg base CX (k+1) f (W.fnOf name Nf params body scope dV kV OE pm an Nu ct) ps sp:=by
 show{len,λA outer s H args us vs Q E hr e0 hb r QR=>?_};have hl:=len _ _ _ _ QR;have KX:K.In s.heap:=e0.mod.kin.keeps λb o e=>(e0.bs b o e).1;have lim:s.heap.NoLimit:=e0.mod.nolimit.keeps λb o e=>(e0.bs b o e).1;have NI:∀y∈ps.zip us,scope.names.lookup y.1=some .local\/(scope.names.lookup y.1=some .cell/\((cellsFrom (s.heap.objs.size+1) scope.names []).lookup y.1).isSome=true):=λPm hy=>by
  have{n,v}:=Pm;rcases S.par n (List.of_mem_zip hy).1 with q|q
  .show .inl q
  .show .inr {q,W.cellsFrom_some _ _ _ (.inl q)}
 show codeAny_call_function hr.depth (KX _ _ lk) rfl S.co S.gen rfl (W.codeRec_of KX PF) (hb _ _ _ _ ?_);show wpAny_newFunctionEnv_cells S.kind NI λenv he s1 x=>?_;subst he;show{lim.keeps x.toInCall.keep,codeAny_func ?_};have{t,ht,hq}:=OJ A outer s H vs Q E (hr.deeper _) QR;have I:Inv (gr CX P w K mg base N Nf scope f Nu A outer s H E) [] (start N vs) H s1:=EL S hr.hd e0 hl r x;show Bp (ht [] s1 (start N vs) H _ I hq) (λfl s' hs=>?_) λe s' hs=>hs;have fin:∀{σ':St}{H':Hp}{v:V}{u:PP},Inv (gr CX P w K mg base N Nf scope f Nu A outer s H E) [] σ' H' s'->aw v u->Q v H'->CE outer P w H s Q u s':=
  fun{σ' H' v u} J rv q=>{v,H',J.os,J.bare,J.base,J.hok,rv,q}
 cases fl with
 |ret u=>
  have{v,σ',H',J,rv,q}:=hs;show fin J rv q
 |next=>
  have{σ',H',J,q}:=hs;show fin (v:=V.non) (u:=Value.none) J rfl q
 |brk=>
  have{_,_,_,q}:=hs;show False.elim q
 |cont=>
  have{_,_,_,q}:=hs;show False.elim q
section
variable{X:Cx}{x:Str}{p pos:Pos}{e:Sl}{es:Sk Sl}{t:TA}{id T:String}{r:Sk V->Hp->VK->Prop}
def tCB(r:Sk V->Hp->VK->Prop)(t:TA):TE:=λσ H Q=>t σ H λvs H1=>r vs H1 Q
def aS(hc:bP X (.builtin id) r)(hg:Gl X x)(hm:X.mg x=none)(hv:bootBuiltins x=some (.builtin id))(ha:PA X (e::es) t)(hn:x≠"__name__":=by decide)(PH:(x==("__debug__":Str))=false:=by decide)
  (he:starEach (e::es) X.env=(false,eval e X.env)::starEach es X.env:=by rfl) (Po:(backTo pos (starEach es X.env)).any (·.1)=false:=by rfl):PE X (.Call (.Name x p) (e::es) [] pos) (tCB r t):=by
 intro M6 s σ H Q I h;show BK (cR I hg hm hv ?_ hn PH);show DA (thn (ha pos M6 s σ H _ I h) λus s1 No=>by have{vs,H1,I1,r1,q1}:=No;show hc M6 s1 σ H1 vs us Q I1 r1 q1) he Po
def c9(hc:bP X (.type T) r)(hg:Gl X x)(hm:X.mg x=none)(hv:bootBuiltins x=some (.type T))(ha:PA X (e::es) t)(hn:x≠"__name__":=by decide)(PH:(x==("__debug__":Str))=false:=by decide)
  (he:starEach (e::es) X.env=(false,eval e X.env)::starEach es X.env:=by rfl) (Po:(backTo pos (starEach es X.env)).any (·.1)=false:=by rfl):PE X (.Call (.Name x p) (e::es) [] pos) (tCB r t):=by
 intro M6 s σ H Q I h;show BK (cR I hg hm hv ?_ hn PH);show B7 (thn (ha pos M6 s σ H _ I h) λus s1 No=>by have{vs,H1,I1,r1,q1}:=No;show hc M6 s1 σ H1 vs us Q I1 r1 q1) he Po
end
end L2
namespace HT
open PySem PyProof.Rows
variable{Q:PP->Sc->Prop}{hi lo:Sn Int}{sl:Se}{vl vu:PP}
section
open PySem.SeqAt
open PySem.AutoSeq1 (wpAny_loadPart')
open PySem.MeetsSeq PySem.MeetsSeq2 PySem.MeetsSeq3
end
section
variable{prog:Sf}{w:Si}{A:Sj}{E:PP->Sc->Prop}{s:Sc}
def cat_tup{t b:Se}{vs ws:Sk PP}(ht:IsTup s.heap t vs.toArray)(hb:IsTup s.heap b ws.toArray)(hv:vs≠[])
  (h1:ws=[]->Q (.ref t) s) (h2:ws≠[]->Q (.ref s.heap.objs.size) {s with heap:=s.heap.push {cls:= .type "tuple",data:= .seq (vs++ws).toArray}})
  (hsz:vs.length+ws.length<=sizeLine):wpAny (model prog w) A (binaryOp .Add (.ref t) (.ref b)) Q E s:=by
 have{{cls,dd,data,sl},ho,hc,n,hd}:=id ht;have{{Qp,OK,data2,OL},NW,Ou,n2,Om}:=id hb;simp only at hc hd Ou Om;subst hc hd Ou Om;have e:vs.toArray++ws.toArray=(vs++ws).toArray:=by simp
 by_cases hw:ws=[]
 .show concat_meets {_,ho,0} {_,NW,0} noFill_tuple_add seq_tuple_add PySem.F.slot_tuple_add PySem.F.entry_tuple_add (PySem.F.args_tuple_add_2 _ _)
   (tuple_addW1 t b vs.toArray ws.toArray n n2 dd OK sl OL (by simpa using hv) (by simp[hw])) {ho,NW,h1 hw}
 .show concat_meets {_,ho,0} {_,NW,0} noFill_tuple_add seq_tuple_add PySem.F.slot_tuple_add PySem.F.entry_tuple_add (PySem.F.args_tuple_add_2 _ _)
   (tuple_addW2 t b vs.toArray ws.toArray n n2 dd OK sl OL (by simpa using hv) (by simpa using hw) (by rw[AH,AH];show hsz)) {ho,NW,?_}
  rw[e];show h2 hw
def sIx(n d:Nat):Sn Int->Nat
 |none=>d
 |some v=>if v<0 then(v+(n:Int)).toNat else min v.toNat n
def sIx_none(n d:Nat):sIx n d none=d:=rfl
def sIx_nat(n d k:Nat):sIx n d (some (k:Int))=min k n:=by
 change(if(k:Int)<0 then((k:Int)+(n:Int)).toNat else min (k:Int).toNat n)=min k n;rw[A6 (by lia),Ag]
def EN(n d:Nat)(hd:d<=n)(o:Sn Int):sIx n d o<=n:=by
 cases o with
 |none=>show hd
 |some v=>
  change(if v<0 then(v+(n:Int)).toNat else min v.toNat n)<=n;by_cases hv:v<0
  .rw[A8 hv];lia
  .rw[A6 hv];show Nat.min_le_right _ _
def sQ(v:Int)(n d:Nat):(if v<0 then max (v+(n:Int)) 0 else min v (n:Int))=((sIx n d (some v):Nat):Int):=by
 change(if v<0 then max (v+(n:Int)) 0 else min v (n:Int))=(((if v<0 then(v+(n:Int)).toNat else min v.toNat n):Nat):Int);by_cases hv:v<0
 .simp only[A8 hv];lia
 .simp only[A6 hv];lia
def EO(lo hi:Sn Int)(n:Nat):Builtin.Slice.sliceAdjust lo hi 1 (n:Int)=(((sIx n 0 lo:Nat):Int),((sIx n n hi:Nat):Int)):=by
 have h1:¬((1:Int)<0):=by lia
 unfold Builtin.Slice.sliceAdjust;simp only[h1,Au];show Prod.ext ?_ ?_
 .cases lo with
  |none=>rfl
  |some v=>show sQ v n 0
 .cases hi with
  |none=>rfl
  |some v=>show sQ v n n
def EQ(i j:Nat):Builtin.Slice.slicePlaces (i:Int) (j:Int) 1=j-i:=by
 unfold Builtin.Slice.slicePlaces;have h1:(1:Int)>0:=by lia
 simp only[h1,CF,Int.ediv_one];split<;>lia
def sR{v:PP}{o:Sn Int}{Q:Sn Int->Sc->Prop}(p:IsPart v o)(h:Q o s):wpAny (model prog w) A (Builtin.Slice.slicePartIndex v) Q E s:=by
 cases p with
 |none=>show slicePart_none h
 |int i t=>show slicePart_int h
def sS{n:Nat}{Q:Int×Int×Nat->Sc->Prop}(hs:s.heap.IsSliceOf sl vl vu .none)(pl:IsPart vl lo)(pu:IsPart vu hi)
  (h:Q (((sIx n 0 lo:Nat):Int),1,sIx n n hi-sIx n 0 lo) s):wpAny (model prog w) A (Builtin.Slice.sliceApplied (.ref sl) (pure (n:Int))) Q E s:=by
 have{os,Rf,Rg,hds}:=id hs;unfold Builtin.Slice.sliceApplied Builtin.Slice.sliceFields;show A0 (A0 (Bh Rf hds (x:=vl) rfl (A0 (Bh Rf hds (x:=vu) rfl (A0 (Bh Rf hds (x:= .none) rfl (A3 ?_)))))));show A0 (slicePart_none ?_);change wpAny _ _ (if((1:Int)==0)=true then _ else _) _ _ s;rw[A6 (by decide)];show A0 (sR pl (A0 (sR pu (A0 (A3 ?_)))));change wpAny _ _ (match Builtin.Slice.sliceAdjust lo hi 1 (n:Int) with|(lo,hi)=>pure (lo,(1:Int),Builtin.Slice.slicePlaces lo hi 1)) _ _ s;rw[EO lo hi n];change wpAny _ _ (pure (((sIx n 0 lo:Nat):Int),(1:Int),Builtin.Slice.slicePlaces ((sIx n 0 lo:Nat):Int) ((sIx n n hi:Nat):Int) 1)) _ _ s;rw[EQ];show A3 h
def ER(xs:Array PP)(i k:Nat):((List.range k).filterMap fun(m:Nat)=>xs[((i:Int)+(m:Int)*1).toNat]?).toArray=((xs.toList.drop i).take k).toArray:=by
 have e:(fun(m:Nat)=>xs[((i:Int)+(m:Int)*1).toNat]?)=λm=>xs[i+m]? :=by
  funext m
  have:((i:Int)+(m:Int)*1).toNat=i+m:=by lia
  rw[this]
 rw[e];have:=pick_run xs i k;rw[List.filterMap_map] at this;have e2:((λx=>xs[x]?)∘λx=>i+x)=λm=>xs[i+m]? :=rfl;rw[e2] at this;rw[this]
def getItem_tuple_cut{t:Se}{items:Array PP}(ht:IsTup s.heap t items)(hs:s.heap.IsSliceOf sl vl vu .none)(pl:IsPart vl lo)(pu:IsPart vu hi)
  (hw:¬(sIx items.size 0 lo=0/\sIx items.size items.size hi=items.size))
  (h:Q (.ref s.heap.objs.size) {s with heap:=s.heap.push {cls:= .type "tuple",data:= .seq ((items.toList.drop (sIx items.size 0 lo)).take (sIx items.size items.size hi-sIx items.size 0 lo)).toArray}})
  (hsz:items.size<=sizeLine):wpAny (model prog w) A (getItem (.ref t) (.ref sl)) Q E s:=by
 have Ph:sizeOk (.seq ((items.toList.drop (sIx items.size 0 lo)).take (sIx items.size items.size hi-sIx items.size 0 lo)).toArray):=by
  change((items.toList.drop (sIx items.size 0 lo)).take (sIx items.size items.size hi-sIx items.size 0 lo)).toArray.size<=sizeLine;rw[AH,Ai,Bs,B0];lia
 have hj:sIx items.size items.size hi<=items.size:=EN _ _ (AB _) hi;have{os,Rf,Rg,hds}:=id hs;have hTs:s.TypeIs (.ref sl) "slice":={os,Rf,Rg};unfold getItem;try with_reducible show B2 ?_
 first|show A0 (A3 ?_)|skip
 show A0 (wpAny_sequenceKey ht.typeIs (by decide) ?_);show A0 (B5 (name:=Str.ofString "__getitem__") ht.typeIs BW
  (Al BW ht.typeIs entry_tuple_getitem ?_ (args_tuple_getitem _ _)))
 change wpAny _ _ (Builtin.Tuple.tupleItemsOf (.ref t)>>=_) _ _ s;show A0 (tupleItemsOf_ ht ?_);show A0 (DI hTs ?_);rw[A8 (by decide)];show A0 (sS hs pl pu ?_);have hno:¬((((sIx items.size 0 lo:Nat):Int)==0&&(1:Int)==1&&(sIx items.size items.size hi-sIx items.size 0 lo)==items.size)=true):=by
  intro q;rw[A9,A9] at q;have q1:((sIx items.size 0 lo:Nat):Int)=0:=eq_of_beq q.1.1;have q2:sIx items.size items.size hi-sIx items.size 0 lo=items.size:=eq_of_beq q.2;show hw {4,4}
 change wpAny _ _ (if(((sIx items.size 0 lo:Nat):Int)==0&&(1:Int)==1&&(sIx items.size items.size hi-sIx items.size 0 lo)==items.size)=true then _ else _) _ _ s;rw[A6 hno,ER];first
  |show A0 (m:=Builtin.Tuple.tupleExact _) (Ax (A3 {1,A3 h}) Ph)
  |show A0 (m:=Builtin.Tuple.tupleExact _) (Ax (A0 (A3 (A3 {1,A3 h}))) Ph)
  |show A0 (A0 (m:=Builtin.Tuple.tupleExact _) (Ax (A3 (A3 {1,A3 h})) Ph))
  |show A0 (A0 (m:=Builtin.Tuple.tupleExact _) (Ax (A3 {1,A3 h}) Ph))
end
end HT
namespace L2
open PySem PySem.Spec PyProof.Rows
variable{H:Hp}{M6:Sk (Se×Obj)}{i:Int}{j n:Nat}{s:Sc}{xs:Sk V}
abbrev TO:=St->Hp->(Sn Int->Hp->Prop)->Prop
def PO(X:Cx)(e:Sn Sl)(t:TO):Prop:=
 ∀(M6:Sk (Se×Obj)) (s:Sc) (σ:St) (H:Hp) (Q:Sn Int->Hp->Prop),Inv X M6 σ H s->t σ H Q->
  wpAny (model X.prog X.w) X.A (evalPart e X.env) (λu s'=>∃o H',Inv X M6 σ H' s'/\IsPart u o/\Q o H') X.xe s
def ES:TO:=λ_ H Q=>Q none H
inductive tPart_(Q:(Option Int->Hp->Prop))(x:V)(H1:Hp):Prop
 |mk i:x=.int i->Q (some i) H1->tPart_ Q x H1
def ET(t:TE):TO:=λσ H Q=>t σ H λx H1=>tPart_ Q x H1
def m3{ns:Sk Int}:∀{us:Sk PP},au (ns.map V.int) us->IntsAre us ns:=by
 induction ns with
 |nil=>intro us r;rw[Dd] at r;cases r;show .nil
 |cons n ns ih=>
  intro us r;rw[AK] at r;cases r with
  |cons r1 r2=>
   have{t,e}:=r1;subst e;show .cons n t (ih r2)
section
variable{X:Cx}{e:Sl}{te:TE}{lo hi:Sn Sl}{tl th:TO}{pos p2:Pos}
def em:PO X none ES:=by
 intro M6 s σ H Q I h;rw[evalPart_none];show A3 {none,H,I,.none,h}
def du(h:PE X e te):PO X (some e) (ET te):=by
 intro M6 s σ H Q I hw;rw[evalPart_some];show thn (h M6 s σ H _ I hw) λu s1 zu34=>?_;have{x,H1,I1,r1,q1}:=zu34;have{i,0,q}:=q1;have{t,0}:=r1;show{some i,H1,I1,.int i t,q}
def SlR(X:Cx)(r:V->Sn Int->Sn Int->Hp->VK->Prop):Prop:=
 ∀(M6:Sk (Se×Obj)) (s:Sc) (σ:St) (H:Hp) (x:V) (v vl vu:PP) (lo hi:Sn Int) (sl:Se) (Q:VK),Inv X M6 σ H s->aw x v->s.heap.IsSliceOf sl vl vu .none->IsPart vl lo->IsPart vu hi->r x lo hi H Q->
  ∃T id,typeLookup (.type T) "__getitem__"=pure (some (.builtin id))/\s.TypeIs v T/\wpAny (model X.prog X.w) X.A (getItem v (.ref sl)) (EP X M6 σ Q) X.xe s
def tSl(r:V->Sn Int->Sn Int->Hp->VK->Prop)(te:TE)(tl th:TO):TE:=λσ H Q=>te σ H λx H1=>tl σ H1 λl H2=>th σ H2 λu H3=>r x l u H3 Q
def dI{r:V->Sn Int->Sn Int->Hp->VK->Prop}(hr:SlR X r)(he:PE X e te)(hl:PO X lo tl)(hu:PO X hi th):PE X (.Subscript e (.Slice lo hi none p2) pos) (tSl r te tl th):=by
 intro M6 s σ H Q I h;show Subscript_ (thn (he M6 s σ H _ I h) λv s1 zu35=>?_);have{x,H1,I1,r1,q1}:=zu35;show wpAny_Slice (thn (hl M6 s1 σ H1 _ I1 q1) λvl s2 zu36=>?_);have{l,H2,I2,pl,q2}:=zu36;show thn (hu M6 s2 σ H2 _ I2 q2) λvu s3 zu37=>?_;have{u,H3,I3,pu,q3}:=zu37;rw[evalPart_none];show A3 ?_;have I4:Inv X M6 σ H3 {s3 with heap:=s3.heap.push {cls:= .type "slice",data:= .fields #[vl,vu,.none]}}:=I3.kept (t':=s3.toks) λb ob q=>A4 _ q;have{T,id,hT,ht,hg}:=hr M6 {s3 with heap:=s3.heap.push {cls:= .type "slice",data:= .fields #[vl,vu,.none]}} σ H3 x v vl vu l u s3.heap.objs.size Q I4 r1 (Heap.IsSliceOf.new ..) pl pu q3;change wpAny (model X.prog X.w) X.A (subscriptTail e (.Slice lo hi none p2) v (.ref s3.heap.objs.size)) (EP X M6 σ Q) X.xe {s3 with heap:=s3.heap.push {cls:= .type "slice",data:= .fields #[vl,vu,.none]}};show tail_any (ops:=[.ref s3.heap.objs.size,v]) ht hT hg (by with_unfolding_all rfl)
def bR(xs:Sk V)(lo hi:Sn Int):Sk V:=(xs.drop (HT.sIx xs.length 0 lo)).take (HT.sIx xs.length xs.length hi-HT.sIx xs.length 0 lo)
def sU(xs:Sk V)(lo hi:Sn Int):(bR xs lo hi).length<=xs.length:=by
 unfold bR;rw[Ai,Bs];lia
inductive rSlT(K:W.Frag)(x:V)(lo:Option Int)(hi:Option Int)(H:Hp)(Q:VK):Prop
 |mk a xs:x=.ref a->SqT K H a xs->¬(HT.sIx xs.length 0 lo=0/\HT.sIx xs.length xs.length hi=xs.length)->(∀p,H p=none->Q (.ref p) (upd H p (.tup (bR xs lo hi))))->rSlT K x lo hi H Q
def EU:SlR X (rSlT X.K):=by
 intro M6 s σ H x v vl vu lo hi sl Q I rx hs pl pu h;have{a,xs,0,hx,hw,q}:=h;cases rx;have{M9,r,ht,hz}:=I.tuple hx;have Na:M9.toArray.size=xs.length:=by rw[AH];show r.length.symm
 show{"tuple",_,BW.lookup,ht.typeIs,?_};show HT.getItem_tuple_cut ht hs pl pu (by rw[Na];show hw) ?_ (by rw[Na];show hz);rw[Na];show{.ref s.heap.objs.size,_,I.laid (t':=s.toks) (o:= .tup (bR xs lo hi)) (λb ob q=>A4 _ q) (AB _) ?_,0,q _ (I.hok.fresh (AB _))};show{BG (sU xs lo hi) hz,_,(r.drop (HT.sIx xs.length 0 lo)).take (HT.sIx xs.length xs.length hi-HT.sIx xs.length 0 lo),IsTup.new _ _}
inductive rCatT(K:W.Frag)(x:V)(y:V)(H:Hp)(Q:VK):Prop
 |mk a b xs ys:x=.ref a->y=.ref b->SqT K H a xs->SqT K H b ys->xs≠[]->xs.length+ys.length<=sizeLine->((ys=[]->Q (.ref a) H))->((ys≠[]->∀p,H p=none->Q (.ref p) (upd H p (.tup (xs++ys)))))->rCatT K x y H Q
def au.nil_iff{us:Sk PP}(r:au xs us):us=[]↔xs=[]:=by
 cases r with
 |nil=>simp
 |cons _ _=>simp
def EV:OpR X (binaryOp .Add) (rCatT X.K):=by
 intro M6 s σ H x y v u Q I rx ry h;have{a,b,xs,ys,0,0,ha,hb,hx,hz,q1,q2}:=h;cases rx;cases ry;have{M9,r1,p1,_}:=I.tuple ha;have{Ov,r2,p2,_}:=I.tuple hb;show HT.cat_tup p1 p2 (λz=>hx (r1.nil_iff.mp z)) (λz=>{.ref a,H,I,0,q1 (r2.nil_iff.mp z)}) (λz=>?_) (by rw[<-r1.length,<-r2.length];show hz);show{.ref s.heap.objs.size,_,I.laid (t':=s.toks) (o:= .tup (xs++ys)) (λb ob q=>A4 _ q) (AB _) ?_,0,q2 (λw=>z (r2.nil_iff.mpr w)) _ (I.hok.fresh (AB _))};show{by rw[AD];show hz,_,r1.append r2,IsTup.new _ _}
end
def ixN(n:Nat)(i:Int):Sn Nat:=if 0<=i then(if i<n then some i.toNat else none) else if -(n:Int)<=i then some (i+n).toNat else none
def atI{α:Type}(xs:Sk α)(i:Int):Sn α:=(ixN xs.length i).bind λj=>xs[j]?
def sV(h:ixN n i=some j):seqIndex? i n=some j/\j<n/\-(n:Int)<=i/\i<n:=by
 unfold ixN at h;by_cases h0:0<=i
 .rw[A8 h0] at h;by_cases h1:i<n
  .rw[A8 h1] at h;have e:i.toNat=j:=Ao h;show{by rw[seqIndex_of h0 h1,e],4,4,h1}
  .rw[A6 h1] at h;cases h
 .rw[A6 h0] at h;by_cases h1: -(n:Int)<=i
  .rw[A8 h1] at h;have e:(i+n).toNat=j:=Ao h;show{by rw[seqIndex_neg (by lia) h1,e],4,h1,4}
  .rw[A6 h1] at h;cases h
def sW{α:Type}{xs:Sk α}{v:α}(h:atI xs i=some v):∃j,seqIndex? i xs.length=some j/\xs[j]? =some v/\j<xs.length/\-(xs.length:Int)<=i/\i<xs.length:=by
 unfold atI at h;cases e:ixN xs.length i with
 |none=>rw[e] at h;cases h
 |some j=>
  rw[e] at h;have{h1,h2,h3,h4}:=sV e;show{j,h1,h,h2,h3,h4}
def jd{α:Type}{xs:Sk α}{v:α}(h:xs[j]? =some v):atI xs (j:Int)=some v:=by
 have hj:j<xs.length:=(AF.mp h).1;have e:ixN xs.length (j:Int)=some j:=by
  unfold ixN;rw[A8 (by lia),A8 (by lia)];simp
 unfold atI;rw[e];show h
def EW{α:Type}(xs:Sk α)(v:α):atI (xs++[v]) (-1)=some v:=by
 have hl:(xs++[v]).length=xs.length+1:=by simp
 have e:ixN (xs++[v]).length (-1)=some xs.length:=by
  unfold ixN;rw[hl,A6 (by decide),A8 (by lia)];congr 1
  lia
 unfold atI;rw[e];change(xs++[v])[xs.length]? =some v;simp
def EX(b:Sl):Prop:=∀o i,subscripted b false o i=operate [o,i] (getItem o i)
def IxR(X:Cx)(r:R2):Prop:=
 ∀(value Nt:Sl) (M6:Sk (Se×Obj)) (s:Sc) (σ:St) (H:Hp) (x y:V) (v u:PP) (Q:VK),Inv X M6 σ H s->aw x v->aw y u->r x y H Q->
  subscripted Nt false v u=operate [v,u] (getItem v u)->wpAny (model X.prog X.w) X.A (subscriptTail value Nt v u) (EP X M6 σ Q) X.xe s
def MtR(X:Cx)(id:String)(r:V->Sk V->Hp->VK->Prop):Prop:=
 ∀(M6:Sk (Se×Obj)) (s:Sc) (σ:St) (H:Hp) (x:V) (xs:Sk V) (v:PP) (us:Sk PP) (Q:VK),Inv X M6 σ H s->aw x v->au xs us->r x xs H Q->
  wpAny (model X.prog X.w) X.A (call (.builtin id) (v::us)) (EP X M6 σ Q) X.xe s
section
variable{X:Cx}{a b:Sl}{ta tb:TE}{pos:Pos}
def ao{r:R2}(hr:IxR X r)(ha:PE X a ta)(hb:PE X b tb)(hs:EX b):PE X (.Subscript a b pos) (tOp r ta tb):=by
 intro M6 s σ H Q I h;show Subscript_ (mV ha hb I h λv u s2 x y H2 I2 rx ry q=>hr a b M6 s2 σ H2 x y v u Q I2 rx ry q (hs _ _))
inductive rIxL(K:W.Frag)(x:V)(y:V)(H:Hp)(Q:VK):Prop
 |mk p xs i v:x=.ref p->y=.int i->SqL K H p xs->atI xs i=some v->Q v H->rIxL K x y H Q
inductive rIxT(K:W.Frag)(x:V)(y:V)(H:Hp)(Q:VK):Prop
 |mk p xs i v:x=.ref p->y=.int i->SqT K H p xs->atI xs i=some v->Q v H->rIxT K x y H Q
def de:IxR X (rIxL X.K):=by
 intro value Nt M6 s σ H x y v u Q I rx ry h hs;have{p,xs,i,z,0,0,hq,he,q}:=h;cases rx;have{t,0}:=ry;have{M9,r,pl,hz}:=I.list hq;have{j,h1,h2,h3,h4,h5}:=sW he;have{w,ew,Ow}:=r.get h2;have hl:=r.length;have hn:=gp;have fin:EP X M6 σ Q w s:={z,H,I,Ow,q};by_cases h0:0<=i
 .have hj:i.toNat=j:=by
   rw[seqIndex_of h0 h5] at h1;show Ao h1
  show item_listR pl.isList h0 (by lia) (by rw[hj];simpa using ew) fin hs
 .have hj:(i+(M9.toArray.size:Int)).toNat=j:=by
   rw[seqIndex_neg (by lia) h4] at h1;rw[AH,<-hl];show Ao h1
  show subscriptTail_builtinR (x:=w) pl.isList.typeIs slot_list_getitem.lookup
   (wpAny_getItem_list_neg (Q:=λr s'=>r=w/\EP X M6 σ Q r s') pl.isList (by lia) (by rw[AH]<;>lia) (by lia) (by rw[hj];simpa using ew) {0,fin}) hs
def bA:IxR X (rIxT X.K):=by
 intro value Nt M6 s σ H x y v u Q I rx ry h hs;have{p,xs,i,z,0,0,hq,he,q}:=h;cases rx;have{t,0}:=ry;have{M9,r,pl,hz}:=I.tuple hq;have{j,h1,h2,h3,h4,h5}:=sW he;have{w,ew,Ow}:=r.get h2;have hl:=r.length;have hn:=gp;have fin:EP X M6 σ Q w s:={z,H,I,Ow,q};show subscriptTail_builtinR (x:=w) pl.typeIs slot_tuple_getitem.lookup
  (getItem_tuple (j:=j) (Q:=λr s'=>r=w/\EP X M6 σ Q r s') pl (by lia) (by lia) (by rw[AH,<-hl];show h1) (by simpa using ew) {0,fin}) hs
def EY(M9:Sk PP)(n j:Nat)(u:PP):Obj.mapSeq (·.setIfInBounds j u) {cls:= .type "list",data:= .seq M9.toArray n}={cls:= .type "list",data:= .seq (M9.set j u).toArray n}:=by
 simp[Obj.mapSeq]
def Inv.lst{M6:Sk (Se×Obj)}{σ:St}{H:Hp}{s:Sc}{p:Se}{xs:Sk V}(I:Inv X M6 σ H s)(h:H p=some (.lst xs)):
  ∃(M9:Sk PP) (n:Nat),au xs M9/\s.heap.get? p=some {cls:= .type "list",data:= .seq M9.toArray n}/\xs.length<=sizeLine:=by
 have{z,M9,n,r,e}:=I.hok p _ h;show{M9,n,r,e,z}
def Inv.lstUpd{σ:St}{p:Se}{ys:Sk V}{M9 its':Sk PP}{n n':Nat}{f:Obj->Obj}(I:Inv X M6 σ H s)(h:H p=some (.lst xs))
  (ho:s.heap.get? p=some {cls:= .type "list",data:= .seq M9.toArray n}) (hf:f {cls:= .type "list",data:= .seq M9.toArray n}={cls:= .type "list",data:= .seq its'.toArray n'}) (r:au ys its') (hz:ys.length<=sizeLine) (t:Nat):
  Inv X M6 σ (upd H p (.lst ys)) {s with heap:=s.heap.update p f,toks:=t}:=by
 have e:(s.heap.update p f).get? p=some {cls:= .type "list",data:= .seq its'.toArray n'}:=by
  rw[Bw f ho (by rw[hf]<;>rfl),hf]
 show I.write (x:=p) (e:=p) (by rw[h];trivial) (.inl rfl) (λb u hb q=>(Heap.get?_update_other _ _ (DE hb)).trans q) {_,e} ?_;show{hz,its',n',r,e}
inductive rSetL(o:V)(i:V)(v:V)(H:Hp)(Q:(Hp->Prop)):Prop
 |mk p xs k j:o=.ref p->i=.int k->H p=some (.lst xs)->ixN xs.length k=some j->Q (upd H p (.lst (xs.set j v)))->rSetL o i v H Q
def je:mU X rSetL:=by
 intro M6 s σ H o i v ov iv u Q I ro ri rv h;have{p,xs,k,j,0,0,hp,hj,q}:=h;cases ro;have{t,0}:=ri;have{M9,n,r,ho,hz}:=I.lst hp;have{h1,h2,h3,h4}:=sV hj;have hl:=r.length;have hn:=gp;have I':Inv X M6 σ (upd H p (.lst (xs.set j v))) {s with heap:=s.heap.update p (Obj.mapSeq (·.setIfInBounds j u))}:=
  I.lstUpd hp ho (EY M9 n j u) (r.set rv j) (by rw[C1];show hz) s.toks
 by_cases h0:0<=k
 .have hk:k.toNat=j:=by
   rw[seqIndex_of h0 h4] at h1;show Ao h1
  show W.ki_setAt ho h0 (by lia) (by rw[AH,<-hl];show h4) (by rw[hk];show{_,I',q})
 .have hk:(k+(M9.toArray.size:Int)).toNat=j:=by
   rw[seqIndex_neg (by lia) h3] at h1;rw[AH,<-hl];show Ao h1
  show W.ki_setBack ho (by lia) (by rw[AH,<-hl];show h3) (by lia) (by rw[hk];show{_,I',q})
def EZ(lo hi:Sn Int)(n:Nat):(sliceBounds lo hi none n).1=((HT.sIx n 0 lo:Nat):Int)/\(sliceBounds lo hi none n).2.1=((HT.sIx n n hi:Nat):Int)/\(sliceBounds lo hi none n).2.2=1:=by
 show{?_,?_,0}
 .cases lo with
  |none=>simp[sliceBounds,HT.sIx]
  |some i=>
   simp only[sliceBounds,HT.sIx,Option.getD_none,show(1:Int)>0 by decide,CF];by_cases h:i<0
   .simp only[h,CF]<;>lia
   .simp only[h,Au]<;>lia
 .cases hi with
  |none=>simp[sliceBounds,HT.sIx]
  |some i=>
   simp only[sliceBounds,HT.sIx,Option.getD_none,show(1:Int)>0 by decide,CF];by_cases h:i<0
   .simp only[h,CF]<;>lia
   .simp only[h,Au]<;>lia
def E1(M9:Sk PP)(lo hi:Sn Int):slicePick M9.toArray lo hi none=((M9.drop (HT.sIx M9.length 0 lo)).take (HT.sIx M9.length M9.length hi-HT.sIx M9.length 0 lo)).toArray:=by
 have{h1,h2,h3}:=EZ lo hi M9.toArray.size;unfold slicePick;rw[h1,h2,h3];simp only[sliceRange_one,pick_run,AH]<;>rfl
inductive rSlL(K:W.Frag)(x:V)(lo:Option Int)(hi:Option Int)(H:Hp)(Q:VK):Prop
 |mk a xs:x=.ref a->SqL K H a xs->(∀p,H p=none->Q (.ref p) (upd H p (.lst (bR xs lo hi))))->rSlL K x lo hi H Q
def fg:SlR X (rSlL X.K):=by
 intro M6 s σ H x v vl vu lo hi sl Q I rx hs pl pu h;have{a,xs,0,hx,q}:=h;cases rx;have{M9,r,ht,hz}:=I.list hx;have Na:=r.length;show{"list",_,slot_list_getitem.lookup,ht.isList.typeIs,?_};show wpAny_getItem_list_slice ht.isList hs pl pu .none (by simp) ?_ (by rw[AH]<;>lia)
 rw[E1,<-Na];show{.ref s.heap.objs.size,_,I.laid (t':=s.toks) (o:= .lst (bR xs lo hi)) (λb ob q=>A4 _ q) (AB _) ?_,0,q _ (I.hok.fresh (AB _))};show{BG (sU xs lo hi) hz,_,(0),(r.drop (HT.sIx xs.length 0 lo)).take (HT.sIx xs.length xs.length hi-HT.sIx xs.length 0 lo),AJ _ rfl}
def dw:bP X (.builtin "len") (λxs H Q=>∃p ys,xs=[.ref p]/\(SqL X.K H p ys\/SqT X.K H p ys)/\Q (.int ys.length) H):=by
 intro M6 s σ H xs us Q I r h;have{p,ys,0,hq,q}:=h;have{u,0,rx}:=c8 r;cases rx;have hn:=gp;rcases hq with hq|hq
 .have{M9,r',pl,hz}:=I.list hq;have Na:=r'.length;show Calls.call_len_list pl.isList (by simp only[AH]<;>lia) {.int ys.length,H,I.tok _,{s.toks+1,by rw[AH,Na]},q}
 .have{M9,r',pl,hz}:=I.tuple hq;have Na:=r'.length;show len_tuple pl (by simp only[AH]<;>lia) {.int ys.length,H,I.tok _,{s.toks+1,by rw[AH,Na]},q}
def m4:bP X (.type "list") (λxs H Q=>∃p ys,xs=[.ref p]/\(SqL X.K H p ys\/SqT X.K H p ys)/\∀l,H l=none->Q (.ref l) (upd H l (.lst ys))):=by
 intro M6 s σ H xs us Q I r h;have{p,ys,0,hq,q}:=h;have{u,0,rx}:=c8 r;cases rx;have fin:∀(M9:Sk PP),au ys M9->ys.length<=sizeLine->∀(h':Sm) (c':Nat),(∀b o',s.heap.get? b=some o'->h'.get? b=some o')->
   h'.get? s.heap.objs.size=some {cls:= .type "list",dict:=none,data:= .seq M9.toArray c',slots:= #[]}->EP X M6 σ Q (.ref s.heap.objs.size) {s with heap:=h'}:=λM9 r' hz h' c' kp e=>
  {.ref s.heap.objs.size,_,I.laid (t':=s.toks) kp (AB _) (show aG X.prog X.w _ h' _ (.lst ys) from{hz,M9,c',r',e}),0,q _ (I.hok.fresh (AB _))}
 rcases hq with hq|hq
 .have{M9,r',pl,hz}:=I.list hq;have Na:=r'.length;have{o,ho,hc,n,hd}:=pl.isList;show call_list_seq p (.inl rfl) ho hc hd (λh' c' kp e=>fin M9 r' hz h' c' kp e) (by simp only[AH]<;>lia)
 .have{M9,r',pl,hz}:=I.tuple hq;have Na:=r'.length;have{o,ho,hc,n,hd}:=pl;show call_list_seq p (.inr rfl) ho hc hd (λh' c' kp e=>fin M9 r' hz h' c' kp e) (by simp only[AH]<;>lia)
def E6:bP X (.type "tuple") (λxs H Q=>∃p ys,xs=[.ref p]/\((SqL X.K H p ys/\∀l,H l=none->Q (.ref l) (upd H l (.tup ys)))\/(SqT X.K H p ys/\Q (.ref p) H))):=by
 intro M6 s σ H xs us Q I r h;have{p,ys,0,h}:=h;have{u,0,rx}:=c8 r;cases rx;rcases h with⟨hq,q⟩|⟨hq,q⟩
 .have{M9,r',pl,hz}:=I.list hq;have Na:=r'.length;show call_tuple_list pl.isList (λh' kp=>?_) (by simp only[AH]<;>lia)
  have I1:Inv X M6 σ H {s with heap:=h'}:=I.kept (t':=s.toks) kp;have I2:Inv X M6 σ (upd H h'.objs.size (.tup ys)) {s with heap:=h'.push {cls:= .type "tuple",data:= .seq M9.toArray}}:=
   I1.laid (t':=s.toks) (λb o e=>A4 _ e) (AB _) (show aG X.prog X.w _ _ _ (.tup ys) from{hz,M9,r',IsTup.new _ _})
  show{.ref h'.objs.size,_,I2,0,q _ (I1.hok.fresh (AB _))}
 .have{M9,r',pl,hz}:=I.tuple hq;show call_tuple_same pl {.ref p,H,I,0,q}
def tyV(K:W.Frag)(T:String)(x:V)(H:Hp):Prop:=match x with
 |.str _=>T="str"
 |.int _=>T="int"
 |.ref p=>(T="list"/\∃xs,SqL K H p xs)\/(T="tuple"/\∃o,K.lookup p=some o/\o.cls=.type "tuple"/\o.dict=none)\/
   (T="dict"/\((∃M7,H p=some (.dK M7))\/∃M7,H p=some (.dT M7)))\/(T="set"/\∃S n,H p=some (.set S n))
 |_=>False
def sX{σ:St}{T:String}{x:V}{v:PP}(I:Inv X M6 σ H s)(r:aw x v)(ty:tyV X.K T x H):
  s.TypeIs v T/\∀a,v=.ref a->∃ob,s.heap.get? a=some ob/\ob.dict=none:=by
 cases x with
 |str z=>
  have{t,0}:=r;cases (show T="str" from ty);show{typeIs_str s z t,λ_ e=>nomatch e}
 |int i=>
  have{t,0}:=r;cases (show T="int" from ty);show{typeIs_int s i t,λ_ e=>nomatch e}
 |ref p=>
  cases r;rcases ty with⟨rfl,xs,hq⟩|⟨rfl,o,hk,hc,hd⟩|⟨rfl,hk⟩|⟨rfl,S,n,hk⟩
  .have{M9,_,pl,_}:=I.list hq;show{pl.isList.typeIs,λa e=>?_};cases e;have{o,n,e,c,hd,_}:=pl;show{o,e,hd}
  .show{{o,I.kIn p o hk,hc},λa e=>?_};cases e;show{o,I.kIn _ o hk,hd}
  .have z:∃o,s.heap.get? p=some o/\o.ExactDict:=by
    rcases hk with⟨M7,hk⟩|⟨M7,hk⟩
    .have{_,_,_,_,o,_,_,e,ex,_}:=I.hok p _ hk;show{o,e,ex}
    .have{_,_,_,_,o,_,_,e,ex,_}:=I.hok p _ hk;show{o,e,ex}
   have{o,e,ex}:=z;show{{o,e,ex.1},λa e2=>?_};cases e2;show{o,e,ex.2.1}
  .have{o,_,_,_,e,ex,_}:=I.hok p _ hk;show{{o,e,ex.1},λa e2=>?_};cases e2;show{o,e,ex.2.1}
 |_=>show False.elim ty
def E7(K:W.Frag)(T:String)(r:V->Sk V->Hp->VK->Prop)(to:TE):TE:=λσ H Q=>to σ H λx H1=>tyV K T x H1/\r x [] H1 Q
def tBM(K:W.Frag)(T:String)(r:V->Sk V->Hp->VK->Prop)(to:TE)(t:TA):TE:=λσ H Q=>to σ H λx H1=>tyV K T x H1/\t σ H1 λxs H2=>r x xs H2 Q
variable{o e:Sl}{es:Sk Sl}{to:TE}{t:TA}{name:Str}{Nr Nh:Pos}{T id:String}{r:V->Sk V->Hp->VK->Prop}
def m5(pa:PlainAttrs T)(slot:Slot T name id)(hty:typeOf (.builtin id)=pure (.type "method_descriptor"))(hm:MtR X id r)(ho:PE X o to)
  (OM:attributeBase o name X.env (eval o X.env)=eval o X.env:=by rfl) (ON:(Nr.endLine==Nh.line)=true:=by rfl):PE X (.Call (.Attribute o name Nr) [] [] Nh) (E7 X.K T r to):=by
 intro M6 s σ H Q I h;show wpAny_Call_method0_late OM ON (thn (ho M6 s σ H _ I h) λv s1 zu38=>?_);have{x,H1,I1,r1,ty,q1}:=zu38;have{h1,h2}:=sX I1 r1 ty;show{T,id,pa,slot,hty,h1,h2,DQ rfl (PySem.evalArgs_none (hm M6 s1 σ H1 x [] v [] Q I1 r1 .nil q1))}
def cy(pa:PlainAttrs T)(slot:Slot T name id)(hty:typeOf (.builtin id)=pure (.type "method_descriptor"))(hm:MtR X id r)(ho:PE X o to)(ha:PA X (e::es) t)
  (OM:attributeBase o name X.env (eval o X.env)=eval o X.env:=by rfl)
  (hfew:((backTo Nh (starEach (e::es) X.env)).all (λx=> !x.1)&&(backToKw Nh (keywordEach [] X.env)).all (λx=>x.1.isSome)
   &&decide ((e::es).length+([]:Sk Keyword).length+(if([]:Sk Keyword).isEmpty then 0 else 1)<30))=true:=by rfl)
  (ON:(Nr.endLine==Nh.line)=true:=by rfl) (hs:starEach (e::es) X.env=(false,eval e X.env)::starEach es X.env:=by rfl) (Rh:(backTo Nh (starEach es X.env)).any (·.1)=false:=by rfl):
  PE X (.Call (.Attribute o name Nr) (e::es) [] Nh) (tBM X.K T r to t):=by
 intro M6 s σ H Q I h;show wpAny_Call_method_late OM hfew ON rfl (thn (ho M6 s σ H _ I h) λv s1 zu39=>?_);have{x,H1,I1,r1,ty,q1}:=zu39;have{h1,h2}:=sX I1 r1 ty;show{T,id,pa,slot,hty,h1,h2,?_};have hA:=ha Nh M6 s1 σ H1 _ I1 q1;rw[hs] at hA⊢;show DQ (by change(false||(backTo Nh (starEach es X.env)).any (·.1))=false;rw[Rh]<;>rfl) (Calls.evalArgs_plain ?_)
 show thn hA λus s2 No=>by have{vs,H2,I2,r2,q2}:=No;show hm M6 s2 σ H2 x vs v us Q I2 r1 r2 q2
end
def MtM(X:Cx)(id:String)(r:V->Sk V->Hp->VK->Prop):Prop:=
 ∀(M6:Sk (Se×Obj)) (s:Sc) (σ:St) (H:Hp) (x:V) (xs:Sk V) (v:PP) (us:Sk PP) (Q:VK),Inv X M6 σ H s->aw x v->au xs us->r x xs H Q->
  wpAny (model X.prog X.w) X.A (call (.builtin id) (v::us)) (EP X M6 σ Q) X.xe s
def au.one:∀{x:V}{us:Sk PP},au [x] us->∃u,us=[u]/\aw x u:=by
 intro x us h;cases h with|cons r t=>cases t;show{1,r}
def au.zero:∀{us:Sk PP},au [] us->us=[]
 |_,.nil=>rfl
def au.dropLast{xs:Sk V}{us:Sk PP}(h:au xs us):au xs.dropLast us.dropLast:=by
 induction h with
 |nil=>show .nil
 |cons r t ih=>
  cases t with
  |nil=>show .nil
  |cons q t'=>show .cons r ih
def au.reverse{xs:Sk V}{us:Sk PP}(h:au xs us):au xs.reverse us.reverse:=by
 induction h with
 |nil=>show .nil
 |cons r t ih=>rw[List.reverse_cons,List.reverse_cons];show au.append ih (.cons r .nil)
theorem au.rep{xs:Sk V}{us:Sk PP}(h:au xs us):∀k:Nat,au (List.replicate k xs).flatten (List.replicate k us).flatten
 |0=>.nil
 |k+1=>by
  rw[Aj,Aj,CU,CU];show au.append h (au.rep h k)
def E8{α:Type}(l:Sk α):l.eraseIdx (l.length-1)=l.dropLast:=by
 induction l with
 |nil=>rfl
 |cons a r ih=>
  cases r with
  |nil=>rfl
  |cons b r=>
   have e:(a::b::r).length-1=((b::r).length-1)+1:=by
    have h1:(a::b::r).length=r.length+2:=rfl;have h2:(b::r).length=r.length+1:=rfl;lia
   rw[e,List.eraseIdx_cons_succ,ih];all_goals rfl
theorem sY(M9:Sk PP):∀(k:Nat) (acc:Sk PP),
  List.foldl (λx1 x2=>x1++x2) acc.toArray (List.replicate k M9.toArray)=(acc++(List.replicate k M9).flatten).toArray
 |0,acc=>by simp
 |k+1,acc=>by
  have e:acc.toArray++M9.toArray=(acc++M9).toArray:=by simp
  have e2:(acc++M9)++(List.replicate k M9).flatten=acc++(List.replicate (k+1) M9).flatten:=by
   rw[Aj,CU,B8]
  rw[<-e2,<-sY M9 k (acc++M9),<-e,Aj,BY]
section
variable{X:Cx}{M6:Sk (Se×Obj)}{σ:St}{H:Hp}{s:Sc}{l b:Se}{xs ys zs:Sk V}
def Inv.lset{M9 its':Sk PP}{n:Nat}{f:Array PP->Array PP}{t':Nat}(I:Inv X M6 σ H s)(hH:H l=some (.lst xs))
  (e:s.heap.get? l=some {cls:= .type "list",data:= .seq M9.toArray n}) (hf:f M9.toArray=its'.toArray) (hv:au ys its') (hz:ys.length<=sizeLine):
  Inv X M6 σ (upd H l (.lst ys)) {s with heap:=s.heap.update l (Obj.mapSeq f),toks:=t'}:=by
 have q:=PySem.IsL.update e f;rw[hf] at q;show I.write (x:=l) (e:=l) (by rw[hH];show trivial) (.inl rfl) (λb' u hb hu=>(Heap.get?_update_other s.heap (Obj.mapSeq f) (DE hb)).trans hu) {_,q} ?_;show{hz,its',_,hv,q}
def Inv.lnew{M9:Sk PP}{t':Nat}(I:Inv X M6 σ H s)(hv:au ys M9)(hz:ys.length<=sizeLine):
  Inv X M6 σ (upd H s.heap.objs.size (.lst ys)) {s with heap:=s.heap.push {cls:= .type "list",data:= .seq M9.toArray},toks:=t'}:=
 I.laid (λ_ _ q=>A4 _ q) (AB _) {hz,M9,(0),hv,AJ _ rfl}
theorem Inv.fresh(I:Inv X M6 σ H s):H s.heap.objs.size=none:=I.hok.fresh (AB _)
def Inv.lstM(I:Inv X M6 σ H s)(hH:H l=some (.lst xs)):xs.length<=sizeLine/\∃(M9:Sk PP) (n:Nat),au xs M9/\xs.length=M9.length/\s.heap.get? l=some {cls:= .type "list",data:= .seq M9.toArray n}:=by
 have{z,M9,n,r,e}:=I.hok l _ hH;show{z,M9,n,r,r.length,e}
def sZ(h:n<=sizeLine):Builtin.List.listTooLong n=false:=by
 unfold Builtin.List.listTooLong;show An (by lia)
end
section
variable{X:Cx}
inductive rAppend(x:V)(vs:List V)(H:Hp)(Q:VK):Prop
 |mk l xs y:x=.ref l->vs=[y]->H l=some (.lst xs)->xs.length<sizeLine->Q .non (upd H l (.lst (xs++[y])))->rAppend x vs H Q
def dJ:MtM X "list.append" rAppend:=by
 intro M6 s σ H x vs v us Q I rx rv h;have{l,xs,y,0,0,hH,hz,q}:=h;cases rx;have{u,0,ru}:=rv.one;have{z,M9,n,r,hl,e}:=I.lstM hH;show Dc F.slot_list_append {_,e,0} F.entry_list_append (F.args_list_append_2 _ _) (PySem.list_append l M9.toArray n u (by rw[AH];lia)) {e,?_};show{.non,_,I.lset (its':=M9++[u]) hH e (by simp) (r.append (.cons ru .nil)) ?_,0,q};rw[AD,Bc];lia
inductive rExtend(x:V)(vs:List V)(H:Hp)(Q:VK):Prop
 |mk l b xs zs:x=.ref l->vs=[.ref b]->H l=some (.lst xs)->H b=some (.lst zs)->xs.length+zs.length<=sizeLine->Q .non (upd H l (.lst (xs++zs)))->rExtend x vs H Q
def jf:MtM X "list.extend" rExtend:=by
 intro M6 s σ H x vs v us Q I rx rv h;have{l,b,xs,zs,0,0,hH,hB,hz,q}:=h;cases rx;have{u,0,ru}:=rv.one;cases ru;have{z,M9,n,r,hl,e}:=I.lstM hH;have{z2,Ov,n2,r2,Nk,e2}:=I.lstM hB;have hsz:M9.toArray.size+Ov.toArray.size<=sizeLine:=by rw[AH,AH];lia
 have PJ:¬(!M9.toArray.isEmpty&&Builtin.List.listTooLong (M9.toArray.size+Ov.toArray.size))=true:=by
  rw[sZ hsz,Cd];show AO
 show Dc F.slot_list_extend {_,e,0} F.entry_list_extend (F.args_list_extend_2 _ _)
  (AutoSeq1.list_extend_list_list_0 l M9.toArray n b Ov.toArray n2 PJ (by rw[AH];lia) (by lia)) {e,e2,?_}
 show{.non,_,I.lset (its':=M9++Ov) hH e (by simp) (r.append r2) ?_,0,q};rw[AD];lia
inductive rPop(x:V)(vs:List V)(H:Hp)(Q:VK):Prop
 |mk l xs y:x=.ref l->vs=[]->H l=some (.lst xs)->xs[xs.length-1]? =some y->Q y (upd H l (.lst xs.dropLast))->rPop x vs H Q
def tj:MtM X "list.pop" rPop:=by
 intro M6 s σ H x vs v us Q I rx rv h;have{l,xs,y,0,0,hH,hy,q}:=h;cases rx;have hus:=rv.zero;subst hus;have{z,M9,n,r,hl,e}:=I.lstM hH;have{u,hu,ru}:=r.get hy;have On:M9.toArray[M9.toArray.size-1]? =some u:=by
  change M9.toArray[M9.length-1]? =some u;rw[<-BU,<-hl];show hu
 show Dc F.slot_list_pop {_,e,0} F.entry_list_pop (F.args_list_pop_1 _) (MeetsSeq.list_pop_last l M9.toArray n u On (by rw[AH];lia)) {e,?_};show{y,_,I.lset (its':=M9.dropLast) hH e ?_ r.dropLast ?_,ru,q}
 .change M9.toArray.eraseIdxIfInBounds (M9.toArray.size-1)=M9.dropLast.toArray;rw[AH,List.eraseIdxIfInBounds_toArray,E8]
 .rw[List.length_dropLast];lia
inductive rClear(x:V)(vs:List V)(H:Hp)(Q:VK):Prop
 |mk l xs:x=.ref l->vs=[]->H l=some (.lst xs)->Q .non (upd H l (.lst []))->rClear x vs H Q
def E9:MtM X "list.clear" rClear:=by
 intro M6 s σ H x vs v us Q I rx rv h;have{l,xs,0,0,hH,q}:=h;cases rx;have hus:=rv.zero;subst hus;have{z,M9,n,r,hl,e}:=I.lstM hH;show Dc F.slot_list_clear {_,e,0} F.entry_list_clear (F.args_list_clear_1 _) (AutoSeq1.list_clear_list_0 l M9.toArray n (by rw[AH];lia)) {e,?_};show{.non,_,I.lset (its':=[]) (ys:=[]) hH e rfl .nil (AW _),0,q}
inductive rCat(x:V)(y:V)(H:Hp)(Q:VK):Prop
 |mk l b xs zs:x=.ref l->y=.ref b->H l=some (.lst xs)->H b=some (.lst zs)->xs.length+zs.length<=sizeLine->(∀p,H p=none->Q (.ref p) (upd H p (.lst (xs++zs))))->rCat x y H Q
def hG:OpR X (binaryOp .Add) rCat:=by
 intro M6 s σ H x y v u Q I rx ry h;have{l,b,xs,zs,0,0,hH,hB,hz,q}:=h;cases rx;cases ry;have{z,M9,n,r,hl,e}:=I.lstM hH;have{z2,Ov,n2,r2,Nk,e2}:=I.lstM hB;show PySem.P.add_list e e2 ?_ (by rw[AH,AH];lia);have ea:M9.toArray++Ov.toArray=(M9++Ov).toArray:=by simp
 rw[ea];show{.ref _,_,I.lnew (t':=s.toks) (r.append r2) (by rw[AD];lia),0,q _ I.fresh}
inductive rRep(x:V)(y:V)(H:Hp)(Q:VK):Prop
 |mk l k xs:x=.ref l->y=.int k->H l=some (.lst xs)->-(2^63)<=k->k<2^63->xs.length*k.toNat<=sizeLine->(∀p,H p=none->Q (.ref p) (upd H p (.lst (List.replicate k.toNat xs).flatten)))->rRep x y H Q
def Fa{α:Type}(xs:Sk α)(k:Nat):(List.replicate k xs).flatten.length=k*xs.length:=by
 induction k with
 |zero=>simp
 |succ k ih=>rw[Aj,CU,AD,ih,Cf,Nat.add_comm]
def jg:OpR X (binaryOp .Mult) rRep:=by
 intro M6 s σ H x y v u Q I rx ry h;have{l,k,xs,0,0,hH,h1,h2,hz,q}:=h;cases rx;have{t,0}:=ry;have{z,M9,n,r,hl,e}:=I.lstM hH;have Na:M9.toArray.size*k.toNat<=sizeLine:=by rw[AH,<-hl];show hz
 have O0:¬M9.toArray.size*k.toNat>(2^63-1)/8:=by
  have:(sizeLine:Nat)<=(2^63-1)/8:=by decide
  lia
 have hfit:¬(!Builtin.List.listFitsIndex k)=true:=by
  rw[fitsIndex_both h1 h2];show AO
 have PJ:¬Builtin.List.listTooLong (M9.toArray.size*k.toNat)=true:=by
  rw[sZ Na];show AO
 have hnew:List.foldl (λx1 x2=>x1++x2) #[] (List.replicate (if M9.toArray.isEmpty=true then 0 else k.toNat) M9.toArray)=(List.replicate k.toNat M9).flatten.toArray:=by
  have f0:∀m:Nat,List.foldl (λx1 x2=>x1++x2) #[] (List.replicate m M9.toArray)=(List.replicate m M9).flatten.toArray:=λm=>by
   have:=sY M9 m [];rw[DT] at this;show this
  rw[f0];cases M9 with
  |nil=>simp
  |cons a r'=>rw[A6 (by simp)]
 show wpAny_binaryOp_repeat_ref (T:="list") (U:="int") (by decide) {_,e,0} (λs'=>typeIs_int s' k t) noFill_list_mul F.fills_int_mul F.slot_int_rmul repeat_list F.slot_int_index.lookup
  (Dc F.slot_int_rmul (typeIs_int s k t) F.entry_int_rmul (F.args_int_rmul_2 _ _) (int___rmul___int_list k t l M9.toArray n)
   {e,0,{_,e,0},Dc F.slot_list_mul {_,e,0} F.entry_list_mul (F.args_list_mul_2 _ _) (AutoListH.list___mul___list_int_3 l M9.toArray n k t hfit O0 PJ) {e,?_}})
 rw[hnew];show{.ref _,_,I.lnew (t':=s.toks) (r.rep k.toNat) (by rw[Fa,Nat.mul_comm];show hz),0,q _ I.fresh}
end
end L2
namespace Att
open PySem PySem.W PySem.Calls PyProof.Rows
variable{P:Params}{h:Sm}{l:OpenLaw}{n:Nat}
def Fc :∀(ns:Sk Int) (vs:Sk PP),WellAll P h vs (ns.map WData.int)->IntsAre vs ns:=by
 intro ns;induction ns with
 |nil=>
  intro vs w;rw[Dd] at w;cases w;show .nil
 |cons n ns ih=>
  intro vs w;rw[AK] at w;cases w with
  |cons a b=>
   cases a;show .cons _ _ (ih _ b)
def Fd(hn:l.most=some n){args:Sk WData}{Ri:Sk PP}
  (Qq:l.row.toRowW.claim.pre args=true) (hwl:WellAll P h Ri args):
  ∃a vs ns,Ri=[Value.ref a]/\args=[WData.list (ns.map WData.int)]/\h.get? a=some {cls:= .type "list",data:= .seq vs.toArray}/\IntsAre vs ns/\ns.length<=n:=by
 have Rj:WShape.hasAll [] args [.list .int]=true:=(pre_splitW Qq).1;have hc:l.pre.holds [] {args:=args}=true:=(pre_splitW Qq).2;have{d,r,0,h1,h2}:=hasAllW_cons Rj;obtain rfl:=hasAllW_nil h2;have{xs,0,h3}:=hasW_list h1;have{ns,0}:=items_int h3;have Na:ns.length<=n:=by
  unfold OpenLaw.pre at hc;have h4:(WTm.not (.lt (.lit (.int (n:Int))) (.len (.arg 0)))).holds [] {args:=[.list (ns.map .int)]}=true:=by
   have h4:=(holds_andW hc).1;rw[hn] at h4;show h4
  have h5:=condW_of h4 (w_not (w_lt w_lit (w_len_list (w_arg rfl))));rw[A1] at h5;show Nat.le_of_not_lt λq=>?_;have q':(n:Int)<((ns.length:Nat):Int):=by lia
  first
   |(rw[Ay q'] at h5;show absurd h5 (by decide))
   |(simp at h5;lia)
 cases hwl with
 |cons w1 w2=>
  cases w2;cases w1 with
  |list ho NE=>show{_,_,ns,0,0,ho,Fc ns _ NE,Na}
theorem Fe(l:OpenLaw)(args:Sk WData):l.row.toRowW.claim.post args (.bool true) args=true:=
 postW_of (r:=l.row.toRowW) (X:=(true==true))
  (show WShape.has [] (.bool true) .bool=true by first|rfl|decide|simp[WShape.has,WShape.arms,WShape.armsAll])
  (show(WTm.eq .res (.lit (.bool true))).value [] {args:=args,res:=some (.bool true),after:=args}=some (.bool (true==true)) from w_eq_bool (w_res rfl) w_lit) rfl
def attach_call{q:Sf}{Oo:Sk Str}{XP:(Str->Sn PP)->Sm->Prop}{YP:Si->Sm->Prop}{d:DefRec}
  (hn:l.most=some n) (hdf:d.params.defaults=[])
  (call:∀(w:Si) (s₀ s₁:Sc) (mg mb:Str->Sn PP) (fa:Se) (o:Obj) (pm cd OE:PP) (a:Se) (vs:Sk PP) (ns:Sk Int),
   Ground q Oo [] XP w s₀ mg mb s₁.heap->YP w s₁.heap->
   s₁.heap.get? fa=some o->o.data=.func (docDef d.name d.params d.body d.scope pm cd OE)->s₁.heap.CodeRec cd d.name->mg d.name=some (.ref fa)->
   s₁.heap.get? a=some {cls:= .type "list",data:= .seq vs.toArray}->IntsAre vs ns->ns.length<=n->s₁.gens= #[]->
   codeAny (model l.prog w) callerA (.call (.ref fa) {[.ref a],[]}) (λr s'=>r=.ok (.ret (.bool true))/\OldK s₁.heap s'.heap/\s'.os=s₁.os/\AllBare s'.gens) s₁):
  WalkO q Oo XP YP l.row.toRowW d [] (λf vs=>PySem.call f vs):=by
 intro w s₀ s₁ mg mb G Y fa o pm cd OE dV kV ho hd PF hD hmg hg args Ri as Qq hlay hrd hwl hlo;obtain rfl:dV=.none:=Dflts.none hD hdf;obtain rfl:kV=.none:=Dflts.noKw hD;have{a,vs,ns,0,0,Rk,PK,Na}:=Fd hn Qq hwl;show enter_call (codeAny_mono (call w s₀ s₁ mg mb fa o pm cd OE a vs ns G Y ho (fd_plain hd) PF hmg Rk PK Na hg) λr s' hq=>?_);have{0,h2,h3,h4}:=hq;show{.inl {.bool true,.bool true,[],0,λ_=>rfl,.bool true,Fe l _,λ_=>{List.Pairwise.nil,λ_ hm=>(nomatch hm)}},h2,h3,h4}
section
variable{prog:Sf}{w:Si}{A:Sj}{E:PP->Sc->Prop}{s:Sc}{K:Frag}
def M3(h:Sm)(L d:Se):Sk (Se×Obj):=(List.range h.objs.size).filterMap λa=>if a=L\/a=d then none else(h.get? a).map λo=>(a,o)
end
end Att
namespace L2
open PySem PySem.Spec PyProof.Rows
variable{A B c:Prop}{E Q:PP->Sc->Prop}{H H':Hp}{K:W.Frag}{M6:Sk (Se×Obj)}{M7:Sk (Sk Key×V)}{N ps:Sk Str}{N5:List Expr}{Nf x:Str}{Of:Expr}{P:Sf}{PL pos py:Pos}{X:Cx}{a acc b f l:Se}{d i k n own:Nat}{e:Bool}{env:Env}{fd:Sg}{g:TG}{h':Sm}{j:Int}{js:Sk Nat}{o:Sn V}{s:Sc}{scope:Scope}{st:So}{te:TE}{tg:Sl}{u:PP}{v y:V}{w:Si}{xs:Sk (Sk Key×Se×PP)}
def Ff:∀{vs:Sk PP}{ns:Sk Int},IntsAre vs ns->au (ns.map V.int) vs:=by
 intro vs ns h;induction h with
 |nil=>show .nil
 |cons n t h ih=>show .cons {t,0} ih
def m6(H:Hp):Prop:=∀b,H b=none\/∃o xs,H b=some (.frz o (.lst xs))
def Fh{P:Sf}{w:Si}{mg mb:Str->Sn PP}{CX:CXT}{k:Nat}{fa:Se}{fd:Sg}{sp:Sp}{s₁:Sc}{vs:Sk PP}{ns:Sk Int}
  (KX:K.In s₁.heap) (hns:s₁.heap.Ns mainGlobals mg) (hb:s₁.heap.Ns builtinsNs mb) (hbb:∀x:Str,x≠"__name__"->mb x=bootBuiltins x) (hlim:s₁.heap.NoLimit) (hg:s₁.gens= #[])
  (ha:s₁.heap.get? a=some {cls:= .type "list",data:= .seq vs.toArray}) (hi:IntsAre vs ns) (hl:ns.length<=sizeLine) (hr:Room k callerA)
  (F:∀base:Sm,K.In base->base.Ns mainGlobals mg->FnOk P w K mg base CX k fa fd [x] sp) (hbind:∀(s:Sc) (u:PP),BindsTo s fd {[u],[]} [(x,u)])
  (QR:∀H:Hp,m6 H->SqL K H a (ns.map V.int)->sp [.ref a] H (λv _=>v=.bl true) λ_ _ _=>False)
  (hCX:∀H e s',CX [] H s₁ (λ_ _ _=>False) e s'->False):
  codeAny (model P w) callerA (.call (.ref fa) {[.ref a],[]}) (λr s'=>r=.ok (.ret (.bool true))/\OldK s₁.heap s'.heap/\s'.os=s₁.os/\AllBare s'.gens) s₁:=by
 have rv:=Ff hi;have lenV:=hi.length;have core:∀H:Hp,m6 H->SqL K H a (ns.map V.int)->HOk P w H s₁.heap->(∀b,H b≠none->b=a)->(H a≠none->K.lookup a=none)->
   codeAny (model P w) callerA (.call (.ref fa) {[.ref a],[]}) (λr s'=>r=.ok (.ret (.bool true))/\OldK s₁.heap s'.heap/\s'.os=s₁.os/\AllBare s'.gens) s₁:=by
  intro H hO hS hok hA hK;have base_of:∀{b:Se}{o:Obj},s₁.heap.get? b=some o->H b=none->(eW s₁.heap H).get? b=some o:=λe n=>zZ e n;have noA:∀{b:Se}{o:Obj}{es:Array DictEntry}{ep:Nat},s₁.heap.get? b=some o->o.data=.dict es ep->H b=none:=fun{b o es ep} e d=>by
   cases q:H b with
   |none=>rfl
   |some u=>
    have e':b=a:=hA b (by rw[q];simp);subst e';rw[ha] at e;cases e;have d':Data.seq vs.toArray _=Data.dict es ep:=d;cases d'
  have nsK:∀{b:Se}{m:Str->Sn PP},s₁.heap.Ns b m->(eW s₁.heap H).Ns b m:=fun{b m} No=>by have{o,es,ep,e,d,r}:=No;show{o,es,ep,base_of e (noA e d),d,r}
  have hKb:K.In (eW s₁.heap H):=λb o e=>base_of (KX b o e) (by
   cases q:H b with
   |none=>rfl
   |some u=>
    have e':b=a:=hA b (by rw[q];simp);subst e';rw[hK (by rw[q];simp)] at e;cases e)
  have hM:Mod K mg (eW s₁.heap H):={hKb,nsK hns,{mb,nsK hb,hbb},let ⟨mc,h1,h2⟩:=hlim;{mc,nsK h1,h2}};have e0:Env0 P w K mg (eW s₁.heap H) callerA [] s₁ H:={0,hM,λb o e=>z9 e,Nat.le_of_eq (zY _ _),trivial,λb hb=>absurd (show b∈([]:Sk Se) from hb) (by simp),hok,.of_eq hg};show codeAny_mono ((F _ hKb (nsK hns)).run callerA [] s₁ H {[.ref a],[]} [.ref a] [.ref a] _ _ hr e0 (hbind s₁ (.ref a)) (.cons rfl .nil) (QR H hO hS)) λr s' h=>?_;cases r with
  |error e=>show(hCX H e s' h).elim
  |ok fl=>
   cases fl with
   |next=>show False.elim h
   |brk=>show False.elim h
   |cont=>show False.elim h
   |ret u=>
    have{v,H',os,bare,un,hok',r',q}:=h;have q':v=.bl true:=q;subst q';obtain rfl:u=Value.bool true:=r';show{0,OldK.of_keep λb o e=>?_,os,bare};cases q:H b with
    |none=>show un.keep b o e q (by intro z;show absurd (show b∈([]:Sk Se) from z) (by simp)) (by simp)
    |some u=>
     rcases hO b with z|⟨ob,xs,z⟩
     .rw[q] at z;cases z
     .have z2:=un.frzs b ob _ z;have{e1,_}:=hok b _ z;have{e2,_}:=hok' b _ z2;rw[e] at e1;cases e1;show e2
 cases hk:K.lookup a with
 |some o=>
  have e:=KX a o hk;rw[ha] at e;cases e;show core (λ_=>none) (λ_=>.inl rfl) (.inr {_,vs.toArray,_,hk,0,0,0,by rw[AH,lenV];show hl,by simpa using rv}) (λb u z=>by have z':(none:Sn HO)=some u:=z;cases z') (λb z=>absurd rfl z) λz=>absurd rfl z
 |none=>
  show core (λb=>if b=a then some (.frz {cls:= .type "list",data:= .seq vs.toArray} (.lst (ns.map V.int))) else none) (λb=>?_) (.inl (.inr {{cls:= .type "list",data:= .seq vs.toArray},A8 rfl})) (λb u z=>?_) (λb z=>?_) λ_=>hk
  .by_cases hb:b=a
   .show .inr {_,_,A8 hb}
   .show .inl (A6 hb)
  .by_cases hb:b=a
   .have z':=(A8 hb).symm.trans z;cases z';subst hb;show{ha,by rw[A1];show hl,vs,_,rv,ha}
   .have z':=(A6 hb).symm.trans z;cases z'
  .by_cases hb:b=a
   .show hb
   .show absurd (A6 hb) z
def Fi{l:W.OpenLaw}{q:Sf}{Oo:Sk Str}{XP:(Str->Sn PP)->Sm->Prop}{YP:Si->Sm->Prop}{d:DefRec}{K:Params->W.Frag}{CX:Si->CXT}{sp:Si->Sp}
  (hn:l.most=some n) (Rl:n<=sizeLine) (hdf:d.params.defaults=[]) (hr:Room k callerA)
  (hY:∀(w:Si) (h:Sm),YP w h->(K w.params).In h)
  (F:∀(w:Si) (mg:Str->Sn PP) (fa:Se) (h:Sm),(K w.params).In h->h.Ns mainGlobals mg->mg d.name=some (.ref fa)->
   ∃fd:Sg,(∀(s:Sc) (u:PP),BindsTo s fd {[u],[]} [(x,u)])/\
    ∀base:Sm,(K w.params).In base->base.Ns mainGlobals mg->FnOk l.prog w (K w.params) mg base (CX w) k fa fd [x] (sp w))
  (QR:∀(w:Si) (H:Hp) (a:Se) (ns:Sk Int),ns.length<=n->m6 H->SqL (K w.params) H a (ns.map V.int)->sp w [.ref a] H (λv _=>v=.bl true) λ_ _ _=>False)
  (hCX:∀(w:Si) (H:Hp) (s:Sc) (e:PP) (s':Sc),CX w [] H s (λ_ _ _=>False) e s'->False):
  W.WalkO q Oo XP YP l.row.toRowW d [] (λf vs=>PySem.call f vs):=by
 show Att.attach_call hn hdf λw s₀ s₁ mg mb fa o pm cd OE a vs ns G Y ho hd PF hmg Rk PK Na hg=>?_;have KX:=hY w _ Y;have{fd,hb,hF}:=F w mg fa _ KX G.T.g hmg;show Fh KX G.T.g G.T.b G.T.builtins G.T.nolimit hg Rk PK (BG Na Rl) hr hF hb (λH hO hS=>QR w H a ns Na hO hS) λH e s'=>hCX w H s₁ e s'
def eu(s:So):Arguments:=match s with
 |.FunctionDef _ a _ _ _ _ _ _ _ _=>a
 |_=>{posonlyargs:=[],args:=[],vararg:=none,kwonlyargs:=[],kw_defaults:=[],kwarg:=none,defaults:=[]}
def dy(s:So):Sk So:=match s with
 |.FunctionDef _ _ b _ _ _ _ _ _ _=>b
 |_=>[]
def al(s:So):Scope:=match s with
 |.FunctionDef _ _ _ _ _ _ sc _ _ _=>sc
 |_=>{kind:= .function,names:=[],isGenerator:=false,isCoroutine:=false}
abbrev CX0:CXT:=λ_ _ _ _ _ _=>False
abbrev E0:XK:=λ_ _ _=>False
def dM :kM CX0 X E0:=λ_ _ _ _ _ _ _ h=>h.elim
structure Fun(K:W.Frag)(x Nf:Str)(st:So)(f:Se)(fd:Sg):Prop where
 ex:∃(oc:Value) (od:Option Addr) (kV OE pm:Value) (an:Option Addr) (Nu ct:Value) (QQ:Array (Option Value)),
  fd=W.fnOf x Nf (eu st) (dy st) (al st) .none kV OE pm an Nu ct/\K.lookup f=some {oc,od,.func fd,QQ}/\W.codeIn K Nu Nf=true
 kp:W.keepIn K (.ref f)=true
section
variable{P:Sf}{w:Si}{K:W.Frag}{mg:Str->Sn PP}{base:Sm}
def Fun.ok{sp:Sp}(F:Fun K x Nf st f fd)(S:FnScope N ps (al st))(len:∀vs H Q E,sp vs H Q E->vs.length=ps.length)
  (OJ:∀(Nu:PP) (A:Sj) (outer:Sk Env) (s:Sc) (H:Hp) (vs:Sk V) (Q:VK) (E:XK),Room k (A.deeper (envOfC Nf (al st) s.heap.objs.size f Nu))->sp vs H Q E->
   ∃t,PSs (gr CX0 P w K mg base N Nf (al st) f Nu A outer s H E).nox (dy st) t/\t {nx:=λ_ H'=>Q .non H',rt:=Q} (start N vs) H):FnOk P w K mg base CX0 (k+1) f fd ps sp:=by
 have{oc,od,kV,OE,pm,an,Nu,ct,QQ,0,lk,PF}:=F.ex;show EM lk PF S len λA outer s H vs Q E hr QR=>?_;have{t,h,q}:=OJ Nu A outer s H vs Q E hr QR;show{t,h.nox,q}
def Fun.binds(F:Fun K x Nf st f fd)
  (h:∀(kV OE pm:PP) (an:Sn Se) (Nu ct:PP) (us:Sk PP),us.length=ps.length->bindArgs (W.fnOf x Nf (eu st) (dy st) (al st) .none kV OE pm an Nu ct) {us,[]}=pure (ps.zip us)):gq K fd ps []:=by
 have{oc,od,kV,OE,pm,an,Nu,ct,QQ,0,lk,PF}:=F.ex;show .all (h kV OE pm an Nu ct)
def Fj{oc:PP}{od an:Sn Se}{QQ:Array (Sn PP)}{kV OE pm Nu ct:PP}(l:K.lookup f=some {oc,od,.func (W.fnOf x Nf (eu st) (dy st) (al st) .none kV OE pm an Nu ct),QQ})
  (c:W.codeIn K Nu Nf=true) (k:W.keepIn K (.ref f)=true):Fun K x Nf st f (W.fnOf x Nf (eu st) (dy st) (al st) .none kV OE pm an Nu ct):={{oc,od,kV,OE,pm,an,Nu,ct,QQ,0,l,c},k}
end
theorem kN{A:Sj}(hr:Room k A):A.units+1<cLine:=Nat.lt_of_le_of_lt (Nat.add_le_add_left (by decide:1<=64) _) hr.units
theorem aF(h:n<=1000):n<sizeLine:=Nat.lt_of_le_of_lt h (by decide)
section
variable{X:Cx}
theorem pv(i:Nat){pos:Pos}(hN:X.N[i]? =some x:=by rfl)(hv:Vis X.env.scope x:=by trivial)(hd:(x==("__debug__":Str))=false:=by decide)
  (PF:(x==("__classdict__":Str))=false:=by decide):PE X (.Name x pos) (tVar i):=Dr hN hv hd PF
end
def aT(h:B):if false=true then A else B:=by
 rw[A6 AO];show h
def ck(h:A):if true=true then A else B:=by
 rw[A8 rfl];show h
def ae(H H':Hp):Prop:=∀b o,H b=some o->H' b=some o
def ae.refl(H:Hp):ae H H:=λ_ _ h=>h
def ae.trans{H1 H2:Hp}(a:ae H H1)(b:ae H1 H2):ae H H2:=λc o h=>b c o (a c o h)
def ae.free(e:ae H H')(h:H' l=Option.none):H l=Option.none:=by
 cases q:H l with
 |none=>rfl
 |some o=>
  rw[e l o q] at h;cases h
def ae.seq{xs:Sk V}(e:ae H H')(h:SqL K H a xs):SqL K H' a xs:=by
 rcases h with(h|⟨o,h⟩)|h
 .show .inl (.inl (e _ _ h))
 .show .inl (.inr {o,e _ _ h})
 .show .inr h
section
variable{κ:Type}[DecidableEq κ]
def aU(M7:Sk (κ×V))(k:κ):Sn V:=(M7.find? λkv=>decide (kv.1=k)).map (·.2)
def aZ(M7:Sk (κ×V))(k:κ)(v:V):Sk (κ×V):=
 if(M7.any λkv=>decide (kv.1=k))=true then M7.map (λkv=>if kv.1=k then(kv.1,v) else kv) else M7++[(k,v)]
def cH{p:κ×V}{r:Sk (κ×V)}{k:κ}(e:p.1=k):aU (p::r) k=some p.2:=by simp[aU,Bg,e]
def cU{p:κ×V}{r:Sk (κ×V)}{k:κ}(e:¬p.1=k):aU (p::r) k=aU r k:=by simp[aU,Bg,e]
theorem fI(k:κ):∀M7:Sk (κ×V),(M7.any λkv=>decide (kv.1=k))=(aU M7 k).isSome
 |[]=>rfl
 |p::r=>by
  rw[List.any_cons];by_cases e:p.1=k
  .simp only[cH e,Ay e,Bool.true_or,Option.isSome_some]
  .rw[cU e,An e,Bool.false_or];show fI k r
theorem tq(k j:κ)(y:V):∀M7:Sk (κ×V),aU (M7.map λkv=>if kv.1=k then(kv.1,y) else kv) j=(aU M7 j).map λx=>if j=k then y else x
 |[]=>rfl
 |p::r=>by
  have ih:=tq k j y r;rw[AK];by_cases h:p.1=k
  .rw[A8 h];by_cases e:p.1=j
   .rw[cH (p:=(p.1,y)) e,cH e,C0,A8 (e.symm.trans h)]
   .rw[cU (p:=(p.1,y)) e,cU e,ih]
  .rw[A6 h];by_cases e:p.1=j
   .rw[cH (p:=p) e,cH e,C0,A6 (λz=>h (e.trans z))]
   .rw[cU (p:=p) e,cU e,ih]
theorem tz(k j:κ)(y:V):∀M7:Sk (κ×V),aU M7 k=none->aU (M7++[(k,y)]) j=if j=k then some y else aU M7 j
 |[],_=>by
  by_cases e:k=j
  .rw[A8 e.symm];show cH (p:=(k,y)) e
  .rw[A6 (λz=>e z.symm)];show cU (p:=(k,y)) e
 |p::r,hn=>by
  rw[Cg];have hk:¬p.1=k:=λz=>by rw[cH z] at hn;cases hn
  rw[cU hk] at hn;have ih:=tz k j y r hn;by_cases e:p.1=j
  .rw[cH e,cH e,A6 (λz=>hk (e.trans z))]
  .rw[cU e,cU e,ih]
def jh(M7:Sk (κ×V))(k j:κ)(y:V):aU (aZ M7 k y) j=if j=k then some y else aU M7 j:=by
 unfold aZ;by_cases a:(M7.any λkv=>decide (kv.1=k))=true
 .rw[A8 a,tq];rw[fI] at a;by_cases e:j=k
  .have{x,hx}:=Option.isSome_iff_exists.mp a;rw[A8 e,e,hx,C0,A8 rfl]
  .rw[A6 e];cases aU M7 j with
   |none=>rfl
   |some x=>rw[C0,A6 e]
 .rw[A6 a];show tz k j y M7 ?_;rw[fI] at a;cases q:aU M7 k with
  |none=>rfl
  |some x=>rw[q] at a;show(a rfl).elim
def m7(M7:Sk (κ×V))(k:κ)(v:V):(aZ M7 k v).length<=M7.length+1:=by
 unfold aZ;split
 .rw[A1];lia
 .rw[AD,Af,CO];lia
def tD{M7:Sk (κ×V)}{k:κ}(v:V)(h:aU M7 k=none):aZ M7 k v=M7++[(k,v)]:=by
 unfold aZ;rw[fI,h];show A6 (by decide)
def cE.isSome_eq{u:Sn PP}(r:cE o u):o.isSome=u.isSome:=by
 cases o with
 |none=>cases u with
  |none=>rfl
  |some _=>show(show False from r).elim
 |some _=>cases u with
  |none=>show(show False from r).elim
  |some _=>rfl
def cE.getD{o:Sn V}{u:Sn PP}{d:V}{d':PP}(r:cE o u)(rd:aw d d'):aw (o.getD d) (u.getD d'):=by
 cases o with
 |none=>cases u with
  |none=>show rd
  |some _=>show(show False from r).elim
 |some _=>cases u with
  |none=>show(show False from r).elim
  |some _=>show r
def KV.val{M7:Sk (κ×V)}{vs:Sk (κ×PP)}(r:KV M7 vs)(k:κ):cE (aU M7 k) (valueAt vs k):=by
 unfold KV at r;induction r with
 |nil=>show True.intro
 | @cons p q ps qs h t ih=>
  have{h1,h2}:=h;by_cases e:p.1=k
  .have e':q.1=k:=h1.symm.trans e;have b:valueAt (q::qs) k=some q.2:=by simp[valueAt,Bg,e']
   rw[cH e,b];show h2
  .have e':¬q.1=k:=λz=>e (h1.trans z);have b:valueAt (q::qs) k=valueAt qs k:=by simp[valueAt,Bg,e']
   rw[cU e,b];show ih
def KV.any{M7:Sk (κ×V)}{vs:Sk (κ×PP)}(r:KV M7 vs)(k:κ):(M7.any λkv=>decide (kv.1=k))=vs.any λkv=>decide (kv.1=k):=by
 unfold KV at r;induction r with
 |nil=>rfl
 |cons h t ih=>rw[List.any_cons,List.any_cons,ih,h.1]
def KV.repl{M7:Sk (κ×V)}{vs:Sk (κ×PP)}(r:KV M7 vs)(k:κ)(ry:aw y u):
  KV (M7.map λkv=>if kv.1=k then(kv.1,y) else kv) (vs.map λkv=>if kv.1=k then(kv.1,u) else kv):=by
 unfold KV at r⊢;induction r with
 |nil=>show .nil
 | @cons p q ps qs h t ih=>
  rw[AK,AK];show .cons ?_ ih;have{h1,h2}:=h;by_cases e:p.1=k
  .rw[A8 e,A8 (h1.symm.trans e)];show{h1,ry}
  .rw[A6 e,A6 (λz=>e (h1.trans z))];show{h1,h2}
def KV.put{M7:Sk (κ×V)}{vs:Sk (κ×PP)}(r:KV M7 vs)(k:κ)(ry:aw y u):KV (aZ M7 k y) (stored vs k u):=by
 unfold aZ stored;rw[r.any k];by_cases e:(vs.any λkv=>decide (kv.1=k))=true
 .rw[A8 e,A8 e];show r.repl k ry
 .rw[A6 e,A6 e];show Paired.snoc r {0,ry}
theorem KV.length{M7:Sk (κ×V)}{vs:Sk (κ×PP)}(r:KV M7 vs):M7.length=vs.length:=C8 r
end
def kO{k:Key}(r:aw (kV k) u):(bY P w).is k u=true:=by
 cases k with
 |inl i=>have{t,e}:=(show∃t,u=Value.int i t from r);subst e;show zV P w i t
 |inr x=>have{t,e}:=(show∃t,u=Value.str x t from r);subst e;show zW P w x t
theorem tE{P:Sf}{w:Si}:∀{ks:Sk Key}{us:Sk PP},au (ks.map kV) us->ItemsAre (bY P w) ks us
 |[],_,r=>by rw[Dd] at r;cases r;show .nil
 |k::ks,_,r=>by
  rw[AK] at r;cases r with
  |cons h t=>show .cons (kO h) (tE t)
abbrev KT(H:Hp):Sk (Sk Key×V)->Sk (Sk Key×Se×PP)->Prop:=Paired λp q=>p.1=q.1/\H q.2.1=some (.tup (p.1.map kV))/\aw p.2 q.2.2
def KT.val{H:Hp}{M7:Sk (Sk Key×V)}{xs:Sk (Sk Key×Se×PP)}(r:KT H M7 xs)(k:Sk Key):cE (aU M7 k) ((atKey xs k).map (·.2)):=by
 induction r with
 |nil=>show True.intro
 | @cons p q ps qs h t ih=>
  have{h1,_,h2}:=h;by_cases e:p.1=k
  .have e':q.1=k:=h1.symm.trans e;have b:atKey (q::qs) k=some q.2:=by simp[atKey,Bg,e']
   rw[cH e,b];show h2
  .have e':¬q.1=k:=λz=>e (h1.trans z);have b:atKey (q::qs) k=atKey qs k:=by simp[atKey,Bg,e']
   rw[cU e,b];show ih
def KT.repl(r:KT H M7 xs)(k:Sk Key)(ry:aw y u):
  KT H (M7.map λkv=>if kv.1=k then(kv.1,y) else kv) (xs.map (putAt k u)):=by
 induction r with
 |nil=>show .nil
 | @cons p q ps qs h t ih=>
  rw[AK,AK];show .cons ?_ ih;have{h1,h2,h3}:=h;unfold putAt;by_cases e:p.1=k
  .rw[A8 e,A8 (h1.symm.trans e)];show{h1,h2,ry}
  .rw[A6 e,A6 (λz=>e (h1.trans z))];show{h1,h2,h3}
def KT.put(r:KT H M7 xs)(k:Sk Key)(hb:H b=some (.tup (k.map kV)))(ry:aw y u):
  KT H (aZ M7 k y) (storedH xs k b u):=by
 have e:(M7.any λkv=>decide (kv.1=k))=(atKey xs k).isSome:=by
  rw[fI,(r.val k).isSome_eq,Option.isSome_map]
 unfold aZ storedH;rw[e];by_cases q:(atKey xs k).isSome=true
 .rw[A8 q,A8 q];show r.repl k ry
 .rw[A6 q,A6 q];show Paired.snoc r {0,hb,ry}
def KT.keeps(r:KT H M7 xs)(ht:∀b ys,H b=some (.tup ys)->H' b=some (.tup ys)):KT H' M7 xs:=
 Paired.mapP r λ_ _ z=>{z.1,ht _ _ z.2.1,z.2.2}
section
variable{P:Sf}{w:Si}{H:Hp}{h:Sm}{a:Se}
def kP{u:HO}(ok:HOk P w H h)(e:Rd H a u):aG P w H h a u:=e.ok ok
def ji{M7:Sk (Key×V)}(ok:HOk P w H h)(e:Rd H a (.dK M7)):M7.length<=sizeLine/\(a==sysModules)=false/\∃vs,KV M7 vs/\h.DictOf (bY P w) a vs:=
 show aG P w H h a (.dK M7) from kP ok e
def Fk{M7:Sk (Key×V)}(ok:HOk P w H h)(e:H a=some (.dK M7)):M7.length<=sizeLine/\(a==sysModules)=false/\∃vs,KV M7 vs/\h.DictOf (bY P w) a vs:=ji ok (.inl e)
def jk{ks:Sk Key}(ok:HOk P w H h)(e:H a=some (.tup (ks.map kV))):(tupleKind (bY P w)).is h ks a:=by
 have{_,M9,r,o,h1,h2,n,h3}:=(show aG P w H h a (.tup (ks.map kV)) from ok a _ e);show{o,M9.toArray,n,h1,h2,h3,by simpa using tE r}
def jm(ok:HOk P w H h)(e:Rd H a (.dT M7)):M7.length<=sizeLine/\(a==sysModules)=false/\
  ∃xs,KT H M7 xs/\h.DictOfH (tupleKind (bY P w)) a xs:=by
 have{z,y,xs,r,o,es,ep,h1,h2,h3,h4,h5}:=(show aG P w H h a (.dT M7) from kP ok e);show{z,y,xs,r,o,es,ep,h1,h2,h3,h4,λx hx=>?_,h5};have all:∀{l:Sk (Sk Key×V)}{m:Sk (Sk Key×Se×PP)},KT H l m->∀x∈m,(tupleKind (bY P w)).is h x.1 x.2.1:=by
  intro l m q;induction q with
  |nil=>intro x hx;show nomatch hx
  | @cons p q ps qs hq t ih=>
   intro x hx;rcases AI.mp hx with e|hx
   .subst e;show jk ok (by rw[<-hq.1];show hq.2.1)
   .show ih x hx
 show all r x hx
def tF(ok:HOk P w H h)(e:H a=some (.dT M7)):M7.length<=sizeLine/\(a==sysModules)=false/\
  ∃xs,KT H M7 xs/\h.DictOfH (tupleKind (bY P w)) a xs:=jm ok (.inl e)
end
def fJ(H:Hp)(a:Se)(y:V)(r:Sn V):Prop:=
 (∃M7 k,Rd H a (.dK M7)/\y=kV k/\r=aU M7 k)\/∃M7 k b,Rd H a (.dT M7)/\y=.ref b/\H b=some (.tup (k.map kV))/\r=aU M7 k
def jn(H:Hp)(a:Se)(y v:V)(H':Hp):Prop:=
 (∃M7 k,H a=some (.dK M7)/\y=kV k/\M7.length<sizeLine/\H'=upd H a (.dK (aZ M7 k v)))\/
 ∃M7 k b,H a=some (.dT M7)/\y=.ref b/\H b=some (.tup (k.map kV))/\M7.length<sizeLine/\H'=upd H a (.dT (aZ M7 k v))
def fJ.t{k:Sk Key}(e:H a=some (.dT M7))(eb:H b=some (.tup (k.map kV))):fJ H a (.ref b) (aU M7 k):= .inr {M7,k,b,.inl e,0,eb,0}
def jn.t{k:Sk Key}(e:H a=some (.dT M7))(eb:H b=some (.tup (k.map kV)))(hl:M7.length<sizeLine):
  jn H a (.ref b) v (upd H a (.dT (aZ M7 k v))):= .inr {M7,k,b,e,0,eb,hl,0}
section
variable{X:Cx}{M6:Sk (Se×Obj)}{σ:St}{H:Hp}{s:Sc}{a:Se}{y v:V}{u r:PP}{o:Sn V}{A:Sj}{E:PP->Sc->Prop}
def Inv.big(I:Inv X M6 σ H s):sysModules<s.heap.objs.size:=by
 have h:mainGlobals<s.heap.objs.size:=(I.mod.glob.keeps I.bk).lt;show Nat.lt_trans (by decide) h
def Fm(hu:A.units+1<cLine)(I:Inv X M6 σ H s)(g:fJ H a y (some v))(ry:aw y u)(h:∀w' s',Inv X M6 σ H s'->aw v w'->Q w' s'):
  wpAny (model X.prog X.w) A (getItem (.ref a) u) Q E s:=by
 rcases g with⟨M7,k,e,ey,l⟩|⟨M7,k,b,e,ey,eb,l⟩
 .subst ey;have{z,hd,vs,Nv,dd}:=ji I.hok e;have{w',hw,Ow}:=cE.some_of (v:=v) (o:=valueAt vs k) (by rw[l];show Nv.val k);show wpAny_getItem_of (kO ry) dd.mapOf hw (h w' _ (I.tok _) Ow)
 .subst ey;cases (show u=Value.ref b from ry);have{z,hd,xs,Nv,dd}:=jm I.hok e;have{w',hw,Ow}:=cE.some_of (v:=v) (o:=(atKey xs k).map (·.2)) (by rw[l];show Nv.val k);have{p,hp,hp2}:=A'.mp hw;show wpAny_getItem_heap (tupleKind_room_in1 hu) (jk I.hok eb) dd hp ?_;rw[hp2];show h w' _ (I.tok _) Ow
def hJ{t':Nat}{ob:HO}(I:Inv X M6 σ H s)(mu:Mut (H a))(hs:Heap.SameBut a s.heap h')(he:∃q,h'.get? a=some q)(new:aG X.prog X.w (upd H a ob) h' a ob):
  Inv X M6 σ (upd H a ob) {s with heap:=h',toks:=t'}:=
 I.write (x:=a) (e:=a) mu (.inl rfl) (λb q hb z=>(hs.2 b hb).trans z) he new
def Fn{M7:Sk (Key×V)}{vs:Sk (Key×PP)}(z:M7.length<=sizeLine)(hd:(a==sysModules)=false)(Nv:KV M7 vs)(dd:h'.DictOf (bY P w) a vs):
  aG P w H' h' a (.dK M7):={z,hd,vs,Nv,dd}
def Fo{Q:Unit->Sc->Prop}(hu:A.units+1<cLine)(I:Inv X M6 σ H s)(g:jn H a y v H')(ry:aw y u)(rv:aw v r)(h:∀s',Inv X M6 σ H' s'->Q () s'):
  wpAny (model X.prog X.w) A (setItem (.ref a) u r) Q E s:=by
 rcases g with⟨M7,k,e,ey,l,eH⟩|⟨M7,k,b,e,ey,eb,l,eH⟩
 .subst ey eH;have{z,hd,vs,Nv,dd}:=Fk I.hok e;have hz:vs.length<=sizeLine:=by rw[<-Nv.length];show z
  have hl:(aZ M7 k v).length<=sizeLine:=by have:=m7 M7 k v;lia
  show wpAny_setItem_pairs (hsz:=hz) (kO ry) dd λh' Qh hs=>h _ ?_;have he:∃q,h'.get? a=some q:=let ⟨q,_,_,hq,_⟩:=Qh;{q,hq};show hJ I (by rw[e];show True.intro) hs he (Fn hl hd (Nv.put k rv) Qh)
 .subst ey eH;cases (show u=Value.ref b from ry);have{z,hd,xs,Nv,dd}:=tF I.hok e;have hz:xs.length<=sizeLine:=by rw[<-C8 Nv];show z
  have hl:(aZ M7 k v).length<=sizeLine:=by have:=m7 M7 k v;lia
  show wpAny_setItem_heap (hsz:=hz) (tupleKind_room_in1 hu) (jk I.hok eb) dd λh' Qh hs=>h _ ?_;have{q,es,ep,hq,h2,h3,h4,_,h5}:=Qh;show hJ I (by rw[e];show True.intro) hs {q,hq} {hl,hd,_,(Nv.put k eb rv).keeps λc ys ec=>?_,q,es,ep,hq,h2,h3,h4,h5};rw[av (kt ec e (λz=>nomatch z))];show ec
end
def hU(i:Sl):Prop:=∀ov iv,subscripted i false ov iv=operate [ov,iv] (getItem ov iv)
def m8{prog:Sf}{A:Sj}{value Nt:Sl}{T id:String}
  (hl:typeLookup (.type T) "__getitem__"=pure (some (.builtin id))) (hs:hU Nt)
  (h:wpAny (model prog w) A (eval value env) (λo s₁=>wpAny (model prog w) A (eval Nt env) (λi s₂=>s₂.TypeIs o T/\wpAny (model prog w) A (getItem o i) Q E s₂) E s₁) E s):
  wpAny (model prog w) A (eval (.Subscript value Nt pos) env) Q E s:=by
 show Subscript_ (Bp h (λo s₁ h₁=>Bp h₁ (λi s₂ h₂=>?_) λ_ _ x=>x) λ_ _ x=>x);have{hT,h₂}:=h₂;unfold subscriptTail;show A0 ?_;rw[getitemInPython_of_ne hT.not_modules];show A0 (C6 hT hl ?_);have fin:wpAny (model prog w) A (subscripted Nt false o i) (λr s₃=>wpAny (model prog w) A (letTemporaryGo value o r>>=λ_=>pure r) Q E s₃) E s₂:=by
  rw[hs o i];show wpAny_operating (Bp h₂ (λr s₃ h₃=>A0 (wpAny_letTemporaryGo (A3 h₃))) λ_ _ x=>x)
 first
  |show A3 (A0 fin)
  |show A0 (A3 (A0 fin))
  |show A0 fin
def Fp{σ:St}(I:Inv X M6 σ H s)(g:fJ H a y o):s.TypeIs (.ref a) "dict":=by
 rcases g with⟨M7,k,e,_,_⟩|⟨M7,k,b,e,_,_,_⟩
 .have{_,_,vs,_,dd}:=ji I.hok e;show dd.typeIs
 .have{_,_,xs,_,dd}:=jm I.hok e;show dd.typeIs
inductive tDGet_(Q:VK)(x:V)(y:V)(H2:Hp):Prop
 |mk a v:x=.ref a->fJ H2 a y (some v)->Q v H2->tDGet_ Q x y H2
def Fq(td ty:TE):TE:=λσ H Q=>td σ H λx H1=>ty σ H1 λy H2=>tDGet_ Q x y H2
inductive sDPut_(D:Ends)(σ:St)(v:V)(x:V)(y:V)(H3:Hp):Prop
 |mk a H4:x=.ref a->jn H3 a y v H4->D.nx σ H4->sDPut_ D σ v x y H3
def Fs(td ty tv:TE):TS:=λD σ H=>tv σ H λv H1=>td σ H1 λx H2=>ty σ H2 λy H3=>sDPut_ D σ v x y H3
section
variable{X:Cx}{o i e value:Sl}{pos Nq Oe:Pos}{td ty tv:TE}
def Ft(hu:X.A.units+1<cLine)(ho:PE X o td)(hi:PE X i ty)(hs:hU i):PE X (.Subscript o i pos) (Fq td ty):=by
 intro M6 s σ H Q I h;show m8 PySem.F.slot_dict_getitem.lookup hs (thn (ho M6 s σ H _ I h) λu s1 zu40=>?_);have{x,H1,I1,rx,q1}:=zu40;show thn (hi M6 s1 σ H1 _ I1 q1) λiv s2 zu41=>?_;have{y,H2,I2,ry,a,v,ex,g,q2}:=zu41;subst ex;obtain rfl:u=Value.ref a:=rx;show{Fp I2 g,Fm hu I2 g ry λw' s3 I3 Ow=>{v,H2,I3,Ow,q2}}
def Fu(hu:X.A.units+1<cLine)(ho:PE X o td)(hi:PE X i ty)(hv:PE X value tv)(hs:swapsWith value (some (.Subscript o i Nq)) pos.line X.env=pure false):
  PS X (.Assign [.Subscript o i Nq] value pos) (Fs td ty tv):=by
 intro M6 s σ H D I h;show wpAny_Assign_Subscript (thn (hv M6 s σ H _ I h) λr s1 zu42=>?_) hs;have{v,H1,I1,rv,q1}:=zu42;show thn (ho M6 s1 σ H1 _ I1 q1) λu s2 zu43=>?_;have{x,H2,I2,rx,q2}:=zu43;show thn (hi M6 s2 σ H2 _ I2 q2) λiv s3 zu44=>?_;have{y,H3,I3,ry,a,H4,ex,g,q3}:=zu44;subst ex;obtain rfl:u=Value.ref a:=rx;show Fo hu I3 g ry rv λs4 I4=>{σ,H4,I4,q3}
end
def tG(h:Sm)(hb:sysModules<h.objs.size):aG P w H (h.push {cls:= .type "dict",data:= .dict #[]}) h.objs.size (.dT []):=
 {AW _,DY.mpr (DE (AU hb)),[],.nil,_, #[],(0),AJ _ rfl,{0,0,0},0,0,List.nodup_nil}
def Fv:TE:=λ_ H Q=>∀p,H p=none->Q (.ref p) (upd H p (.dT []))
section
variable{X:Cx}{pos:Pos}
def Fw:PE X (.Dict [] [] pos) Fv:=λM6 s σ H Q I h=>
 wpAny_Dict_empty {.ref s.heap.objs.size,_,I.laid (a:=s.heap.objs.size) (o:= .dT []) (t':=s.toks) (λ_ _ q=>A4 _ q) (AB _) (tG s.heap I.big),0,h _ (I.hok.fresh (AB _))}
end
structure M2(X:Cx)(o:Sl)(m:Str)(Nr:Pos)(e f:Sl)(Nh:Pos):Prop where
 base:attributeBase o m X.env (eval o X.env)=eval o X.env
 few:((backTo Nh (starEach [e,f] X.env)).all (λx=> !x.1)&&(backToKw Nh (keywordEach [] X.env)).all (λx=>x.1.isSome)
  &&decide (([e,f]:List Expr).length+([]:List Keyword).length+(if([]:List Keyword).isEmpty then 0 else 1)<30))=true
 line:(Nr.endLine==Nh.line)=true
 trees:backTo Nh (starEach [e,f] X.env)=[(false,eval e X.env),(false,eval f X.env)]
def IsD(H:Hp)(a:Se):Prop:=(∃M7,Rd H a (.dK M7))\/∃M7,Rd H a (.dT M7)
def tH{σ:St}(I:Inv X M6 σ H s)(d:IsD H a):
  s.TypeIs (.ref a) "dict"/\(∀b,Value.ref a=.ref b->∃ob,s.heap.get? b=some ob/\ob.dict=none)/\(a==sysModules)=false:=by
 rcases d with⟨M7,e⟩|⟨M7,e⟩
 .have{_,hd,vs,_,dd}:=ji I.hok e;show{dd.typeIs,λb q=>?_,hd};cases q;have{ob,_,_,h1,h2,_}:=dd;show{ob,h1,h2.2.1}
 .have{_,hd,xs,_,dd}:=jm I.hok e;show{dd.typeIs,λb q=>?_,hd};cases q;have{ob,_,_,h1,h2,_}:=dd;show{ob,h1,h2.2.1}
section
variable{X:Cx}{M6:Sk (Se×Obj)}{σ:St}{H:Hp}{s:Sc}{a:Se}{y d:V}{u r:PP}{o:Sn V}{A:Sj}{E:PP->Sc->Prop}
def Fx(hu:A.units+1<cLine)(I:Inv X M6 σ H s)(g:fJ H a y o)(ry:aw y u)(rd:aw d r)(h:∀w' s',Inv X M6 σ H s'->aw (o.getD d) w'->Q w' s'):
  wpAny (model X.prog X.w) A (call (.builtin "dict.get") [.ref a,u,r]) Q E s:=by
 rcases g with⟨M7,k,e,ey,l⟩|⟨M7,k,b,e,ey,eb,l⟩
 .subst ey;have{z,hd,vs,Nv,dd}:=ji I.hok e;show call_meetsIn PySem.F.slot_dict_get dd.typeIs PySem.F.entry_dict_get (PySem.F.args_dict_get_3 _ _ _) (meets_dict_get_default (bY X.prog X.w) a (kO ry) hd r) {_,dd.mapOf,h _ _ (I.tok _) ?_};rw[l];show(Nv.val k).getD rd
 .subst ey;cases (show u=Value.ref b from ry);have{z,hd,xs,Nv,dd}:=jm I.hok e;show call_meetsIn PySem.F.slot_dict_get dd.typeIs PySem.F.entry_dict_get (PySem.F.args_dict_get_3 _ _ _) (meetsH_dict_get_default (tupleKind (bY X.prog X.w)) a b hd r) {tupleKind_room_in1 hu,k,xs,jk I.hok eb,dd,h _ _ (I.tok _) ?_};rw[l];show(Nv.val k).getD rd
end
inductive tDGet2_(ty:TE)(tx:TE)(σ:St)(Q:VK)(x:V)(H1:Hp):Prop
 |mk a:x=.ref a->IsD H1 a->(ty σ H1 λy H2=>tx σ H2 λz H3=>∃o,fJ H3 a y o/\Q (o.getD z) H3)->tDGet2_ ty tx σ Q x H1
def Fy(td ty tx:TE):TE:=λσ H Q=>td σ H λx H1=>tDGet2_ ty tx σ Q x H1
section
variable{X:Cx}{o e f:Sl}{Nr Nh:Pos}{td ty tx:TE}
def Fz(hu:X.A.units+1<cLine)(ho:PE X o td)(he:PE X e ty)(hf:PE X f tx)(m:M2 X o "get" Nr e f Nh):PE X (.Call (.Attribute o "get" Nr) [e,f] [] Nh) (Fy td ty tx):=by
 intro M6 s σ H Q I h;show wpAny_Call_method m.base m.few m.line PySem.F.plainAttrs_dict PySem.F.slot_dict_get PySem.F.type_dict_get (thn (ho M6 s σ H _ I h) λu s1 zu45=>?_);have{x,H1,I1,rx,a,ex,d,q1}:=zu45;subst ex;obtain rfl:u=Value.ref a:=rx;have{t1,t2,_}:=tH I1 d;show{t1,t2,?_};rw[m.trees];show DQ rfl (Calls.evalArgs_plain (CV (thn (he M6 s1 σ H1 _ I1 q1) λiv s2 ⟨y,H2,I2,ry,q2⟩=>
  CV (thn (hf M6 s2 σ H2 _ I2 q2) λfv s3 ⟨z,H3,I3,rz,ov,g,q3⟩=>Calls.spliced_nil ?_))))
 show Fx hu I3 g ry rz λw' s4 I4 Ow=>{_,H3,I4,Ow,q3}
end
section
variable{X:Cx}{pos:Pos}{a b c d:Sl}{ta tb tc td:TE}
def CB(m:Nat)(i j:Int):Prop:=i.natAbs<2^m/\j.natAbs<2^m
def FA{m:Nat}(hm:m+m<=134217728):OpR X (binaryOp .Mult) (rI (CB m) λi j=>.int (i*j)):=
 opI λ_ _ _ _ _ _ _ hc q=>mul_int q (IntMulOk.of_le (intBits_le_iff.mpr hc.1) (intBits_le_iff.mpr hc.2) hm)
def FB:512+512<=134217728:=by decide
inductive gLst(K:W.Frag)(n:Nat)(t:TGs)(v:V)(σ:St)(H:Hp)(Q:(St->Hp->Prop)):Prop
 |mk a xs:v=.ref a->SqL K H a xs->xs.length=n->t xs σ H Q->gLst K n t v σ H Q
def FC{es:Sk Sl}{k:Nat}{t:TGs}(hc:X.calm=true)(h:PGs X es t)
  (hn:(assignEach es X.env).length=n:=by rfl) (Os:(assignEach es X.env).findIdx? (·.1)=none:=by rfl):PG X (.Tuple es k pos) (gLst X.K n t):=by
 intro M6 s σ H v u Q I r hw;have{a,xs,e1,hq,hl,hw}:=hw;subst e1;cases r;have{M9,rv,p,hz}:=I.list hq;have e2:(assignEach es X.env).length=M9.toArray.size:=by simp[hn,<-hl,rv.length]
 rw[PyProof.Rows.assign_Tuple];show A0 (De ?_);unfold unpack;rw[e2,Os];show A0 (B2 (W.kun_itemsOf (I.ok.hd hc) p.isList λh' hx=>?_));have I1:Inv X M6 σ H {s with heap:=h'}:=I.kept (t':=s.toks) λb o e=>hx b o (AU (AM e)) e;show h M6 _ σ H xs _ Q I1 (by simpa using rv) hw
def gs:bP X (.builtin "isinstance") (λxs H Q=>∃x n t b,xs=[x,.ty n]/\TyOf X.K H x t/\W.kitOne X.K t (.type n)=some b/\Q (.bl b) H):=by
 intro M6 s σ H xs us Q I r h;have{x,n,t,b,0,ty,e,q}:=h;have{u,w',0,ru,Ow}:=kL r;obtain rfl:w'=Value.type n:=Ow;show EG I ru ty e λtk=>{.bl b,H,I.tok tk,0,q}
end
section
open PySem.W
variable{K:Frag}
def hV{t:String}:kitOne K (.type t) (.type t)=some true:=by
 unfold kitOne;rw[A8 (by simp)]
def ic{t c:String}{b:Bool}(h1:(Value.type t==Value.type c)=false)(h2:kitMeta c=true)(h3:(fastBuiltinMro t).map (·.contains (Value.type c))=some b):kitOne K (.type t) (.type c)=some b:=by
 unfold kitOne;rw[A6 (by rw[h1];decide)];unfold kitCls;change(if kitMeta c=true then subIn K (.type t) (.type c) else none)=some b;rw[A8 h2];show h3
theorem tJ:kitOne K (.type "int") (.type "bool")=some false:=ic (by ac_nf) (by ac_nf) (by ac_nf)
theorem tL:kitOne K (.type "bool") (.type "int")=some true:=ic (by ac_nf) (by ac_nf) (by ac_nf)
end
def bB[Decidable c](h1:c->A)(h2:¬c->B):if decide c=true then A else B:=by
 by_cases h:c
 .rw[A8 (Ay h)];show h1 h
 .rw[A6 (by rw[An h];decide)];show h2 h
def FD[Decidable c](h1:¬c->A)(h2:c->B):if(!decide c)=true then A else B:=by
 by_cases h:c
 .rw[A6 (by rw[Ay h];decide)];show h2 h
 .rw[A8 (by rw[An h];rfl)];show h1 h
def bW{i:Int}(h1:i=j->A)(h2:i≠j->B):if decide (V.int i=V.int j)=true then A else B:=bB (λh=>h1 (V.int.inj h)) λh=>h2 λe=>h (BB V.int e)
def tM{i:Int}(h1:i≠j->A)(h2:i=j->B):if(!decide (V.int i=V.int j))=true then A else B:=FD (λh=>h1 λe=>h (BB V.int e)) λh=>h2 (V.int.inj h)
theorem ae.put{H1:Hp}{o:HO}(s:ae H H1)(n:H l=none):ae H (upd H1 l o):=λb u e=>by
 rw[av (bi e n)];show s b u e
def ae.new{o:HO}(n:H l=none):ae H (upd H l o):=(ae.refl H).put n
def FE{prog:Program}{w:World}{A:Around}{R:Result->Shared->Prop}{s:Shared}{NO ay:Expr}{it acc:Value}(I:Nat->Shared->Prop)
  (turn:∀n s,I n s->wpAny (model prog w) A (pyNext it) (λr s₁=>match r with
   |none=>R (.ok .next) s₁
   |some v=>wpAny (model prog w) A (letOwnedTupleGo NO it v) (λ_ s₁'=>wpAny (model prog w) A (assign NO env v) (λ_ s₂=>
     wpAny (model prog w) A (forIn N5 true λc r=>if r=true then do let ok<-isTrue c env (eval c env);pure (ForInStep.yield ok) else pure (ForInStep.yield r)) (λok s₃=>
      if ok=true then wpAny (model prog w) A (eval Of env) (λx s₄=>
       wpAny (model prog w) A (call (.builtin "list.append") [acc,x]) (λ_ s₅=>∃m,m<n/\I m s₅) (notedBy (model prog w) A env λe s'=>R (.error e) s') s₄) (notedBy (model prog w) A env λe s'=>R (.error e) s') s₃
      else∃m,m<n/\I m s₃) (notedBy (model prog w) A env λe s'=>R (.error e) s') s₂) (notedBy (model prog w) A env λe s'=>R (.error e) s') s₁') (notedBy (model prog w) A env λe s'=>R (.error e) s') s₁) (notedBy (model prog w) A env λe s'=>R (.error e) s') s)
  (n:Nat) (h:I n s):
  codeAny (model prog w) A (.compLoop (.ListComp Of [{NO,ay,N5,(0)}] scope pos) 0 it acc env) R s:=by
 show codeAny_loop rfl I (λn s hI=>?_) n h;change wpAny _ A ((compTurn (.ListComp Of [{NO,ay,N5,(0)}] scope pos) 0 it acc env).onRaise (λx=>do noteFrame x env;theTreesLotGoes x)) _ _ s;show wpAny_noted ?_;rw[compTurn_list];show A0 (De (A0 (Bp (turn n s hI) (λr s₁ h₁=>?_) λ_ _ h'=>h')));cases r with
 |none=>show A3 h₁
 |some v=>
  show A0 (Bp h₁ (λ_ s₁' h₁'=>A0 (Bp h₁' (λ_ s₂ h₂=>A0 (Bp h₂ (λok s₃ h₃=>?_) λ_ _ h'=>h')) λ_ _ h'=>h')) λ_ _ h'=>h');cases ok with
  |false=>show A3 {0,h₃}
  |true=>
   show A0 (A0 (Bp h₃ (λx s₄ h₄=>A0 (Bp h₄ (λ_ s₅ h₅=>A3 (A3 {0,h₅})) λ_ _ h'=>h')) λ_ _ h'=>h'))
def cI(env:Env):Sk (Str×NameKind)->Sk (Str×Se)->Sk (Str×Se)
 |[],cs=>cs
 |(n,k)::r,cs=>cI env r (if k=.free then(n,(env.cells.lookup n).getD 0)::cs else cs)
theorem m9{env:Env}:∀(ns:List (Str×NameKind)) (cs:List (Str×Addr)),(∀y∈ns,y.2=.free->∃c,env.cells.lookup y.1=some c)->
  (forIn ns cs fun(x:Str×NameKind) (r:List (Str×Addr))=>(if(x.2== .free)=true then do let c<-cellOf env x.1;pure (ForInStep.yield ((x.1,c)::r)) else pure (ForInStep.yield r):Sem (ForInStep (List (Str×Addr)))))=(pure (cI env ns cs):Sem _)
 |[],cs,_=>rfl
 |(n,k)::r,cs,h=>by
  have hr:=λy hy=>h y (AG _ hy);by_cases hk:k=.free
  .have{c,hc}:=h (n,k) AE hk;subst hk;rw[Cp];have e:cellOf env n=pure c:=by unfold cellOf;rw[hc]
   simp only[beq_self_eq_true,CF,e,pure_bind];rw[m9 r _ hr];change _=pure (cI env r (if NameKind.free=NameKind.free then(n,(env.cells.lookup n).getD 0)::cs else cs));rw[A8 rfl,show env.cells.lookup n=some c from hc];rfl
  .have hb:(k==NameKind.free)=false:=by simpa using hk
   rw[Cp];simp only[hb,AN,Au,pure_bind];rw[m9 r _ hr];change _=pure (cI env r (if k=NameKind.free then(n,(env.cells.lookup n).getD 0)::cs else cs));rw[A6 hk]
def FF(h:∀y∈scope.names,y.2=.free->∃c,env.cells.lookup y.1=some c):closureFor scope env=pure (cI env scope.names []):=by
 unfold closureFor;have e:=m9 scope.names [] h;simp only[bind_pure] at e⊢;show e
theorem tN{env:Env}{x:Str}{c:Se}:∀(ns:Sk (Str×NameKind)) (cs:Sk (Str×Se)),(∀y∈ns,y.2=.free->∃c,env.cells.lookup y.1=some c)->(∀x c,cs.lookup x=some c->env.cells.lookup x=some c)->
  (cI env ns cs).lookup x=some c->env.cells.lookup x=some c
 |[],cs,_,hc,e=>hc x c e
 |(n,k)::r,cs,h,hc,e=>by
  unfold cI at e;show tN r _ (λy hy=>h y (AG _ hy)) (λx' c' e'=>?_) e;by_cases hk:k=.free
  .rw[A8 hk] at e';have{c0,h0}:=h (n,k) AE hk;rw[h0] at e';rw[CJ] at e';by_cases q:x'==n
   .rw[q] at e';cases e';rw[D'.mp q];show h0
   .have q':(x'==n)=false:=by simpa using q
    rw[q'] at e';show hc x' c' e'
  .rw[A6 hk] at e';show hc x' c' e'
theorem tO{env:Env}{x:Str}:∀(ns:Sk (Str×NameKind)) (cs:Sk (Str×Se)),(∃c,cs.lookup x=some c)->∃c,(cI env ns cs).lookup x=some c
 |[],cs,h=>h
 |(n,k)::r,cs,h=>by
  unfold cI;show tO r _ ?_;by_cases hk:k=.free
  .rw[A8 hk,CJ];by_cases q:x==n
   .rw[q];show{1}
   .have q':(x==n)=false:=by simpa using q
    rw[q'];show h
  .rw[A6 hk];show h
theorem ng{env:Env}{x:Str}:∀(ns:Sk (Str×NameKind)) (cs:Sk (Str×Se)),(x,NameKind.free)∈ns->∃c,(cI env ns cs).lookup x=some c
 |(n,k)::r,cs,h=>by
  unfold cI;rcases AI.mp h with e|e
  .cases e;rw[A8 rfl];show tO r _ {_,by rw[CJ,beq_self_eq_true]}
  .show ng r _ e
def Cx.comp(X:Cx)(scope:Scope)(C:Se)(N:Sk Str)(s₀:Sc)(H₀:Hp)(ex:Sk Se)(E:PP->Sc->Prop):Cx where
 prog:=X.prog
 w:=X.w
 K:=X.K
 mg:=X.mg
 base:=X.base
 A:=X.A
 N:=N
 s₀:=s₀
 H₀:=H₀
 env:=compEnvC scope (cI X.env scope.names []) C X.env
 outer:=X.stack
 stack:=X.stack
 ex:=ex
 fn:=λ_=>false
 calm:=X.calm
 pn:=[]
 xe:=E
def gu(X:Cx)(N5:List Expr)(t:TT):Prop:=
 ∀(M6:List (Addr×Obj)) (s:Shared) (σ:St) (H:Hp) (Q:Bool->Hp->Prop),Inv X M6 σ H s->t σ H Q->
  wpAny (model X.prog X.w) X.A (forIn N5 true λc r=>if r=true then do let ok<-isTrue c X.env (eval c X.env);pure (ForInStep.yield ok) else pure (ForInStep.yield r)) (TP X M6 σ Q) X.xe s
def kQ:TT:=λ_ H Q=>Q true H
def df :gu X [] kQ:=λ_ _ _ H _ I h=>wpAny_tests_nil {H,I,h}
def FG{c:Sl}{t:TT}(h:PT X c t):gu X [c] t:=λM6 s σ H Q I q=>wpAny_tests_one (h M6 s σ H Q I q)
def dz(own:Nat)(js:Sk Nat)(σ:St):St:=List.replicate own none++js.map λj=>(σ[j]?).getD none
def jo(J:It)(own:Nat)(js:Sk Nat)(g:TG)(ti:TT)(te:TE)(σ:St)(H1:Hp)(acc:Se)(Q:VK):Prop:=
 ∃Wq:Nat->Nat->Hp->Prop,(∃m,Wq 0 m (upd H1 acc (.lst [])))/\∀i m H2,Wq i m H2->
  (J.stop i H2/\Q (.ref acc) H2)\/(J.go i H2/\∀x H3,J.yld i H2 x H3->g x (dz own js σ) H3 λσ4 H4=>ti σ4 H4 λb H5=>
   if b=true then te σ4 H5 λy H6=>rAppend (.ref acc) [y] H6 λ_ H7=>∃m',m'<m/\Wq (i+1) m' H7 else∃m',m'<m/\Wq (i+1) m' H5)
def jp(own:Nat)(js:Sk Nat)(wi:TI)(g:TG)(ti:TT)(te:TE):TE:=λσ H Q=>wi σ H λJ H1=>∀acc,H1 acc=none->jo J own js g ti te σ H1 acc Q
def gv{α:Type}{t:Sem α}{Q Q':α->Sc->Prop}{M:Model}{A:Sj}(h:wpAny M A t Q (λ_ _=>False) s)(hQ:∀a s,Q a s->Q' a s):wpAny M A t Q' E s:=Bp h hQ λ_ _ f=>f.elim
theorem nh{scope:Scope}{env:Env}{x:Str}:∀{names:Sk (Str×NameKind)},((names.map fun(n,k)=>if(k==NameKind.free&&env.scope.kind== .function&&env.kindOf n==some .cell) then(n,NameKind.cell) else(n,k)).lookup x=some .cell\/
  (names.map fun(n,k)=>if(k==NameKind.free&&env.scope.kind== .function&&env.kindOf n==some .cell) then(n,NameKind.cell) else(n,k)).lookup x=some .free)->(∀y∈names,y.2≠ .cell)->(x,NameKind.free)∈names
 |[],h,_=>by simp at h
 |(n,k)::r,h,hc=>by
  have hr:∀y∈r,y.2≠ .cell:=λy hy=>hc y (AG _ hy);have h0:k≠ .cell:=hc (n,k) AE;rw[AK,CJ] at h;by_cases hb:(k==NameKind.free&&env.scope.kind== .function&&env.kindOf n==some .cell)=true
  .rw[A8 hb] at h;dsimp only at h;by_cases q:x==n
   .have hk:k=.free:=by simp only[A9,D'] at hb;show hb.1.1
    rw[D'.mp q,hk];show AE
   .have q':(x==n)=false:=by simpa using q
    rw[q'] at h;show AG _ (nh (scope:=scope) h hr)
  .rw[A6 hb] at h;dsimp only at h;by_cases q:x==n
   .rw[q] at h;dsimp only at h;have hk:k=.free:=by
     rcases h with h|h
     .show absurd (Ao h) h0
     .show Ao h
    rw[D'.mp q,hk];show AE
   .have q':(x==n)=false:=by simpa using q
    rw[q'] at h;show AG _ (nh (scope:=scope) h hr)
def gw(own:Nat)(g:TG):Prop:=∀v σ H (Q:St->Hp->Prop),g v σ H Q->g v σ H λσ' H'=>Q σ' H'/\σ'.length=σ.length/\∀i,own<=i->σ'[i]? =σ[i]?
theorem dN(h:i<own):gw own (cw i):=λv σ H Q q=>{q,C1 ..,λj hj=>by rw[Cb (by lia)]}
def FH(own:Nat)(js:Sk Nat)(σ:St):(dz own js σ).length=own+js.length:=by simp[dz]
def tP{σ:St}(h:(dz own js σ)[i]? =some (some v)):own<=i/\∃j,js[i-own]? =some j/\σ[j]? =some (some v):=by
 unfold dz at h;by_cases hi:i<own
 .rw[Ba (by simpa using hi),Cv,A8 hi] at h;cases h
 .rw[BF (by simpa using hi),Ah,AC] at h;show{4,?_};cases e:js[i-own]? with
  |none=>rw[e] at h;cases h
  |some j=>
   rw[e] at h;show{j,0,?_};have h':(σ[j]?).getD none=some v:=Ao h;cases e2:σ[j]? with
   |none=>rw[e2] at h';cases h'
   |some o=>rw[e2] at h';show BB some h'
def tQ{Of ay:Sl}{N5:Sk Sl}{pos ps:Pos}{wi:TI}{ti:TT}(hc:X.calm=true)
  (Nx:∀y∈scope.names,y.2≠ .cell) (NI:scope.kind=.function) (N6:∀y∈scope.names,y.2=.local->scope.names.lookup y.1=some .local)
  (NV:∀y∈scope.names,y.2=.free->X.env.kindOf y.1=some .cell\/X.env.kindOf y.1=some .free) (Na:N.length=own+js.length)
  (O0:∀(i j:Nat) (x:Str),js[i]? =some j->N[own+i]? =some x->X.N[j]? =some x/\(x,NameKind.free)∈scope.names/\(X.env.kindOf x=some .cell\/X.env.kindOf x=some .free)/\((relabel scope X.env).names.lookup x=some .cell\/(relabel scope X.env).names.lookup x=some .free))
  (hi:PI X tg ay wi) (hg:∀C s₀ H₀ ex,PG (X.comp scope C N s₀ H₀ ex λ_ _=>False) tg g) (ho:gw own g) (ht:∀C s₀ H₀ ex,gu (X.comp scope C N s₀ H₀ ex λ_ _=>False) N5 ti) (he:∀C s₀ H₀ ex,PE (X.comp scope C N s₀ H₀ ex λ_ _=>False) Of te)
  {σ:St}{Q:VK}{use:Sn (PP->Sem Unit)}{RQ:PP->Sc->Prop} (I:Inv X M6 σ H s) (h:jp own js wi g ti te σ H Q)
  (fin:∀(acc C:Se) (H3:Hp) (s4:Sc) (m:Str->Sn PP),Inv X M6 σ H3 s4->s4.heap.Ns C m->H3 C=none->C≠X.env.locals->C∉X.fs->X.s₀.heap.objs.size<=C->(∀x c,X.env.cells.lookup x=some c->c≠C)->(∀p∈X.pn++M6,p.1≠C)->
   Q (.ref acc) H3->compPost (model X.prog X.w) X.A X.xe use RQ (.ref acc) C (.ok .next) s4)
  (hs:∀x,foldedSetIterable ay X.env x=pure x:=by intro _;rfl):
  wpAny (model X.prog X.w) X.A (comprehension (.ListComp Of [{tg,ay,N5,(0)}] scope pos) scope X.env ps (newList []) false (eval ay X.env) use) RQ X.xe s:=by
 have hcl:∀y∈scope.names,y.2=.free->∃c,X.env.cells.lookup y.1=some c:=λy hy hf=>I.ok.has y.1 (NV y hy hf);show wpAny_comprehension_free (use:=use) rfl hs (FF hcl) NI N6 (thn (hi M6 s σ H _ I h) λv s1 h1=>thn h1 λitv s2 h2=>?_);have{it,fp,tn,J,H2,e,I2,T,Pn,f2,q}:=h2;subst e;have nf:H2 s2.heap.objs.size=none:=I2.hok.fresh (AB _);have{Wq,{m0,w0},turn}:=q s2.heap.objs.size nf;show Ax (wpAny_newFunctionEnv Nx (by intro y hy;simp at hy) (λh₁ Rm Qr=>?_) NI);dsimp only at Rm Qr⊢;generalize hP2:s2.heap.push {cls:= .type "list",dict:=none,data:= .seq ([]:Sk PP).toArray}=P2 at Rm Qr⊢;have hC:P2.objs.size=s2.heap.objs.size+1:=by rw[<-hP2,B3]
 have QS:s2.heap.objs.size<P2.objs.size:=by rw[hC];show BZ _
 have kp:∀b o,s2.heap.get? b=some o->h₁.get? b=some o:=λb o e=>Qr.extBut b o (AU (Nat.lt_trans (AM e) QS)) (A4 _ (hP2▸A4 _ e));have M':h₁.get? s2.heap.objs.size=some {cls:= .type "list",dict:=none,data:= .seq ([]:Sk PP).toArray}:=Qr.extBut _ _ (AU QS) (A4 _ (hP2▸AJ _ rfl));have Rn:∀x c,(cI X.env scope.names []).lookup x=some c->X.env.cells.lookup x=some c:=λx c e=>tN scope.names [] hcl (λ_ _ z=>by simp at z) e;have cne:∀x c,(cI X.env scope.names []).lookup x=some c->c<s2.heap.objs.size/\H2 c=none:=λx c e=>by
  have{v,o,ho,hd}:=I2.cell x c (Rn x c e);show{AM ho,I2.freeC x c (Rn x c e)}
 have fpl:∀b∈fp,b<s2.heap.objs.size:=λb hb=>by
  have{o,e,_}:=T.obj 0 _ Pn b hb;show AM e
 have hX:(X.comp scope P2.objs.size N s2 H2 fp λ_ _=>False).Ok:={
  mod:=I.ok.mod
  kind:=NI
  glob:=I.ok.glob
  blt:=I.ok.blt
  above:=AZ QS
  inj:=λx y c a b=>I.ok.inj x y c (Rn x c a) (Rn y c b)
  has:=λx hx=>ng scope.names [] (nh (scope:=scope) (env:=X.env) hx Nx)
  cab:=λx c a _=>by cases (show false=true from a)
  hd:=I.ok.hd
  frames:=I.ok.frames
  stk:= .inl rfl
  exf:=λb hb=>{AU (Nat.lt_trans (fpl b hb) QS),λx c a=>(f2 b hb).2.2.2.2.1 x c (Rn x c a)}
  bs:=I2.bs
  bsz:=BG I.ok.bsz I2.sz
  noex:=λb o e hb=>by
   rcases(f2 b hb).2.2.2.1 with z|z
   .show I.ok.noex b o e z
   .show absurd (Aq (Aq (AM e) I.ok.bsz) z) (Bt _)
  exfs:=λb hb z=>by
   rcases AI.mp (I2.stkSub b z) with z|z
   .show(f2 b hb).2.1 z
   .show(f2 b hb).2.2.1 z
  funs:=I2.stack
  frf:=I2.stkFree}
 have I3:∀tk,Inv (X.comp scope P2.objs.size N s2 H2 fp λ_ _=>False) [] (dz own js σ) (upd H2 s2.heap.objs.size (.lst [])) {s2 with heap:=h₁,toks:=tk}:=λtk=>{
  ok:=hX
  os:=rfl
  bare:=I2.bare
  base:=Un.laid kp (AB _) nf
  loc:={_,Rm,λi x v a b c=>by
   have{hio,j,hj,hv}:=tP b;have{h3,h4,h5,h6}:=O0 (i-own) j x hj (by rw[show own+(i-own)=i by lia];show a);have{m,hn,hl}:=I2.loc;have{u,ru,lk}:=hl j x v h3 hv (.inr h5);show{u,ru,.inr {h6,?_}};rcases lk with⟨z,_⟩|⟨_,c0,z1,z2⟩
   .rcases h5 with h5|h5<;>(rw[h5] at z;cases z)
   .have{c1,QT}:=ng (env:=X.env) scope.names [] h4;have:=Rn x c1 QT;rw[z1] at this;cases this;have{o,ho,hd}:=z2;show{c0,QT,o,kp _ _ ho,hd}}
  cell:=λx c a=>by
   have{v,o,ho,hd}:=I2.cell x c (Rn x c a);show{v,o,kp _ _ ho,hd}
  free:=by
   change upd H2 _ _ P2.objs.size=none;rw[av (BM QS)];show I2.hok.fresh (AZ QS)
  freeC:=λx c a=>by
   rw[av (AU (cne x c a).1)];show(cne x c a).2
  pin:=λp hp=>absurd (show p∈([]:Sk (Se×Obj)) from hp) (by simp)
  hok:=I2.hok.laid kp (AB _) {AW _,[],(0),.nil,M'}
  len:=by rw[FH];show Na.symm}
 have fr0:∀b∈fp,upd H2 s2.heap.objs.size (.lst []) b=none:=λb hb=>by
  rw[av (AU (fpl b hb))];show(f2 b hb).1
 have st3:tn 0 h₁:=T.keep 0 _ _ Pn λb _ o e=>kp b o e;have OZ:∀{H':Hp},(∀b∈fp,H' b=none)->∀b∈fp,cx (X.comp scope P2.objs.size N s2 H2 fp λ_ _=>False) [] H' b:=λhn b hb=>
  {hn b hb,(hX.exf b hb).1,hX.exfs b hb,.inl hb,λx c a=>(hX.exf b hb).2 x c a,λp hp=>absurd (show p∈([]:Sk (Se×Obj)) from hp) (by simp)}
 have loop:∀s₃:Sc,s₃={s2 with heap:=h₁,toks:=s2.toks+([]:Sk (Str×PP)).length}->
   codeAny (model X.prog X.w) X.A (.compLoop (.ListComp Of [{tg,ay,N5,(0)}] scope pos) 0 (.ref it) (.ref s2.heap.objs.size) (compEnvC scope (cI X.env scope.names []) P2.objs.size X.env))
    (compPost (model X.prog X.w) X.A X.xe use RQ (.ref s2.heap.objs.size) P2.objs.size) s₃:=by
  rintro s₃ rfl;show FE (λn s'=>∃i H',Inv (X.comp scope P2.objs.size N s2 H2 fp λ_ _=>False) [] (dz own js σ) H' s'/\tn i s'.heap/\(∀b∈fp,H' b=none)/\Wq i n H') ?_ m0 {(0),_,I3 _,st3,fr0,w0};rintro n s3 ⟨i,H3,J3,t3,fr3,w3⟩;rcases turn i n H3 w3 with⟨stop,qd⟩|⟨go,step⟩
  .show gv (T.done (X.comp scope P2.objs.size N s2 H2 fp λ_ _=>False) rfl rfl rfl hc i [] s3 _ H3 _ J3 (OZ fr3) t3 stop) λr s4 zu46=>?_;have{hr,J4}:=zu46;subst hr;have{m,hn,_}:=J4.loc;have B:Un (frs X.stack) fp H2 H3 s2.heap s4.heap:=J4.base;have I5:Inv X M6 σ H3 s4:=I2.call' J4.os B J4.hok J4.bare λb hb=>by
    have{a1,a2,a3,a4,a5,a6}:=f2 b hb;show{a4,a2,a5,a6}
   have hp:=I2.fpOk (H':=H3) (b:=P2.objs.size) (AZ QS) J4.free;have{a1,a2,a3,a4,a5,a6}:=hp;show fin s2.heap.objs.size P2.objs.size H3 s4 m I5 hn a1 a2 a3 (BG I2.sz (AZ QS)) a5 a6 qd
  .show gv (T.item (X.comp scope P2.objs.size N s2 H2 fp λ_ _=>False) rfl rfl rfl hc i [] s3 _ H3 _ J3 (OZ fr3) t3 go) λr s4 zu47=>?_;have{u,hr,h4}:=zu47;subst hr;show gv h4 λ_ s5 zu48=>?_;have{x,H5,J5,r5,y5,t5,fr5}:=zu48;have J5':=J5.pinned (OZ fr5) (T.obj _ _ t5);show gv (hg _ _ _ _ _ s5 _ H5 x u _ J5' r5 (ho _ _ _ _ (step x H5 y5))) λ_ s6 zu49=>?_;have{σ6,H6,J6,q6,hl6,Qs}:=zu49;have again:∀{s7:Sc}{H7:Hp},Inv (X.comp scope P2.objs.size N s2 H2 fp λ_ _=>False) ([]++jb fp s5.heap) σ6 H7 s7->(∃m',m'<n/\Wq (i+1) m' H7)->
     ∃m,m<n/\∃i H',Inv (X.comp scope P2.objs.size N s2 H2 fp λ_ _=>False) [] (dz own js σ) H' s7/\tn i s7.heap/\(∀b∈fp,H' b=none)/\Wq i m H':=fun{s7 H7} J7 z=>by
    have{m',hm,w7}:=z;show{m',hm,i+1,H7,J7.unpinned.weak (by rw[hl6]) (λk v z=>?_),T.keep _ _ _ t5 λb hb o e=>(J7.pin (b,o) (Ak _ (Ak _ (kF hb e)))).1,λb hb=>?_,w7}
    .rw[Qs k (tP z).1];show z
    .have{o,e,d}:=T.obj _ _ t5 b hb;show(J7.pin (b,o) (Ak _ (Ak _ (kF hb e)))).2.1
   show gv (ht _ _ _ _ _ s6 σ6 H6 _ J6 q6) λok s7 zu50=>?_;have{H7,J7,q7}:=zu50;cases ok with
   |false=>show again J7 q7
   |true=>
    show gv (he _ _ _ _ _ s7 σ6 H7 _ J7 q7) λy s8 zu51=>?_;have{yv,H8,J8,r8,q8}:=zu51;show gv (dJ _ s8 σ6 H8 (.ref s2.heap.objs.size) [yv] (.ref s2.heap.objs.size) [y] _ J8 rfl (.cons r8 .nil) q8) λ_ s9 No=>by have{_,H9,J9,_,q9}:=No;show again J9 q9
 show codeAny_compStart_list (loop _ rfl) (T.self X.A 0 _ _ _ st3 (loop _ rfl))
def FI{Of ay:Sl}{N5:Sk Sl}{pos:Pos}{wi:TI}{ti:TT}(hc:X.calm=true)
  (Nx:∀y∈scope.names,y.2≠ .cell) (NI:scope.kind=.function) (N6:∀y∈scope.names,y.2=.local->scope.names.lookup y.1=some .local)
  (NV:∀y∈scope.names,y.2=.free->X.env.kindOf y.1=some .cell\/X.env.kindOf y.1=some .free) (Na:N.length=own+js.length)
  (O0:∀(i j:Nat) (x:Str),js[i]? =some j->N[own+i]? =some x->X.N[j]? =some x/\(x,NameKind.free)∈scope.names/\(X.env.kindOf x=some .cell\/X.env.kindOf x=some .free)/\((relabel scope X.env).names.lookup x=some .cell\/(relabel scope X.env).names.lookup x=some .free))
  (hi:PI X tg ay wi) (hg:∀C s₀ H₀ ex,PG (X.comp scope C N s₀ H₀ ex λ_ _=>False) tg g) (ho:gw own g) (ht:∀C s₀ H₀ ex,gu (X.comp scope C N s₀ H₀ ex λ_ _=>False) N5 ti) (he:∀C s₀ H₀ ex,PE (X.comp scope C N s₀ H₀ ex λ_ _=>False) Of te)
  (hs:∀x,foldedSetIterable ay X.env x=pure x:=by intro _;rfl):PE X (.ListComp Of [{tg,ay,N5,(0)}] scope pos) (jp own js wi g ti te):=by
 intro M6 s σ H Q I h;rw[eval_ListComp];show tQ hc Nx NI N6 NV Na O0 hi hg ho ht he I h (use:=none) (λacc C H3 s4 m I5 hn c1 c2 c3 c4 c5 c6 q=>?_) hs;show{m,hn,λh' sb=>{.ref acc,H3,?_,0,q}};show I5.turned (t':=s4.toks) (it:=C) (λb o hb e=>(sb.2 b hb).trans e) c1 c2 (.inr c4) c5 c6
def FJ{y:Str}{tg ay:Expr}{N:List Str}{js:List Nat}{wi:TI}{ti:TT}(hN:X.N.Nodup)(OW:X.N[i]? =some y)(hy:Loc X.env.scope y)(hf:X.fn y=true\/X.env.scope.names.lookup y=some .local)
  (hc:X.calm=true)
  (Nx:∀y∈scope.names,y.2≠ .cell) (NI:scope.kind=.function) (N6:∀y∈scope.names,y.2=.local->scope.names.lookup y.1=some .local)
  (NV:∀y∈scope.names,y.2=.free->X.env.kindOf y.1=some .cell\/X.env.kindOf y.1=some .free) (Na:N.length=own+js.length)
  (O0:∀(i j:Nat) (x:Str),js[i]? =some j->N[own+i]? =some x->X.N[j]? =some x/\(x,NameKind.free)∈scope.names/\(X.env.kindOf x=some .cell\/X.env.kindOf x=some .free)/\((relabel scope X.env).names.lookup x=some .cell\/(relabel scope X.env).names.lookup x=some .free))
  (hi:PI X tg ay wi) (hg:∀C s₀ H₀ ex,PG (X.comp scope C N s₀ H₀ ex λ_ _=>False) tg g) (ho:gw own g) (ht:∀C s₀ H₀ ex,gu (X.comp scope C N s₀ H₀ ex λ_ _=>False) N5 ti) (he:∀C s₀ H₀ ex,PE (X.comp scope C N s₀ H₀ ex λ_ _=>False) Of te)
  (hsw:swapsWith (.ListComp Of [{tg,ay,N5,(0)}] scope pos) (some (.Name y py)) PL.line X.env=pure true:=by rfl)
  (hs:∀x,foldedSetIterable ay X.env x=pure x:=by intro _;rfl):PS X (.Assign [.Name y py] (.ListComp Of [{tg,ay,N5,(0)}] scope pos) PL) (ja (jp own js wi g ti te) (cw i)):=by
 intro M6 s σ H D I h;rw[exec_Assign_Name_used _ _ _ _ hsw];show A0 (De (A0 ?_));change wpAny _ X.A (do let _<-comprehension (.ListComp Of [⟨tg,ay,N5,0⟩] scope pos) scope X.env _ (newList []) false (eval ay X.env) (some (assign (.Name y py) X.env))) _ _ s;show A0 (Bp (tQ hc Nx NI N6 NV Na O0 hi hg ho ht he I h (use:=some (assign (.Name y py) X.env)) (RQ:=λ_ s'=>SP X M6 D .next s') (λacc C H3 s4 m I5 hn c1 c2 c3 c4 c5 c6 q=>?_) hs) (λ_ s' hq=>A3 (A3 hq)) λ_ _ e=>e);change wpAny _ X.A (assign (.Name y py) X.env (.ref acc)) _ _ _;have{o,es,ep,Ol,hd,hr}:=hn;have I6:Inv X (M6++[(C,o)]) σ H3 s4:=I5.pins_of λp hp=>by
  rcases B'.mp hp with z|z
  .show I5.pin p (Ak _ z)
  .rw[AT.mp z];show{Ol,c1,c2,c3,λv z=>by rw[hd] at z;cases z}
 show wpAny_assign_Name (kw I6 hN OW hy (v:= .ref acc) rfl (λs' I7=>?_) hf);have hp:=I7.pin (C,o) (Ak _ (Ak _ (by simp)));show{m,{o,es,ep,hp.1,hd,hr},λh' sb=>{_,H3,?_,q}};show I7.unpinned.turned (t':=s'.toks) (it:=C) (λb o hb e=>(sb.2 b hb).trans e) c1 c2 (.inr c4) c5 c6
def kR(XN:Sk Str)(sc scope:Scope)(own:Nat)(js:Sk Nat)(N:Sk Str):Bool:=
 (scope.names.all λy=>decide (y.2≠ .cell)&&(decide (y.2≠ .local)||decide (scope.names.lookup y.1=some .local))&&(decide (y.2≠ .free)||decide (sc.names.lookup y.1=some .cell)||decide (sc.names.lookup y.1=some .free)))&&
  decide (scope.kind=.function)&&decide (N.length=own+js.length)&&
  (List.range js.length).all λi=>match js[i]?,N[own+i]? with
   |some j,some x=>decide (XN[j]? =some x)&&decide (scope.names.lookup x=some .free)&&(decide (sc.names.lookup x=some .cell)||decide (sc.names.lookup x=some .free))
   |_,_=>false
theorem ni{env:Env}:∀{names:Sk (Str×NameKind)}{x:Str},names.lookup x=some .free->
  (names.map fun(n,k)=>if(k==NameKind.free&&env.scope.kind== .function&&env.kindOf n==some .cell) then(n,NameKind.cell) else(n,k)).lookup x=some .cell\/
  (names.map fun(n,k)=>if(k==NameKind.free&&env.scope.kind== .function&&env.kindOf n==some .cell) then(n,NameKind.cell) else(n,k)).lookup x=some .free
 |[],_,h=>by simp at h
 |(n,k)::r,x,h=>by
  have ih:= @ni env r x;rw[AK,CJ];rw[CJ] at h;by_cases hc:(k==NameKind.free&&env.scope.kind== .function&&env.kindOf n==some .cell)=true
  .rw[A8 hc];dsimp only;cases hx:x==n with
   |true=>show .inl rfl
   |false=>
    rw[hx] at h;show ih h
  .rw[A6 hc];dsimp only;cases hx:x==n with
   |true=>
    rw[hx] at h;show .inr h
   |false=>
    rw[hx] at h;show ih h
structure CompOk(XN:Sk Str)(sc scope:Scope)(own:Nat)(js:Sk Nat)(N:Sk Str):Prop where
 cell:∀y∈scope.names,y.2≠ .cell
 names:∀y∈scope.names,y.2=.local->scope.names.lookup y.1=some .local
 free:∀y∈scope.names,y.2=.free->sc.names.lookup y.1=some .cell\/sc.names.lookup y.1=some .free
 kind:scope.kind=.function
 len:N.length=own+js.length
 cap:∀(i j:Nat) (x:Str),js[i]? =some j->N[own+i]? =some x->XN[j]? =some x/\scope.names.lookup x=some .free/\(sc.names.lookup x=some .cell\/sc.names.lookup x=some .free)
def tR{XN:Sk Str}{sc:Scope}(h:kR XN sc scope own js N=true):CompOk XN sc scope own js N:=by
 unfold kR at h;rw[A9,A9,A9] at h;have{{{h1,h2},h3},h4}:=h;rw[AV] at h1 h4;show{λy hy=>?_,λy hy e=>?_,λy hy e=>?_,B6 h2,B6 h3,λi j x a b=>?_}
 .have:=h1 y hy;rw[A9,A9] at this;show B6 this.1.1
 .have:=h1 y hy;rw[A9,A9,CA] at this;rcases this.1.2 with z|z
  .show absurd e (B6 z)
  .show B6 z
 .have:=h1 y hy;rw[A9,A9,CA,CA,CA] at this;rcases this.2 with(z|z)|z
  .show absurd e (B6 z)
  .show .inl (B6 z)
  .show .inr (B6 z)
 .have hi:i<js.length:=(AF.mp a).1;have:=h4 i (AY.mpr hi);rw[a,b] at this;dsimp only at this;rw[A9,A9,CA] at this;show{B6 this.1.1,B6 this.1.2,this.2.imp B6 B6}
section
variable{X:Cx}{XN:Sk Str}{sc scope:Scope}{Of tg ay:Sl}{N5:Sk Sl}{pos:Pos}{N:Sk Str}{own:Nat}{js:Sk Nat}{wi:TI}{g:TG}{ti:TT}{te:TE}
def dO(hc:X.calm=true)(ok:kR XN sc scope own js N=true)(hsc:X.env.scope=sc)(hXN:X.N=XN)(hi:PI X tg ay wi)(hg:∀C s₀ H₀ ex,PG (X.comp scope C N s₀ H₀ ex λ_ _=>False) tg g)(ho:gw own g)
  (ht:∀C s₀ H₀ ex,gu (X.comp scope C N s₀ H₀ ex λ_ _=>False) N5 ti) (he:∀C s₀ H₀ ex,PE (X.comp scope C N s₀ H₀ ex λ_ _=>False) Of te)
  (hs:∀x,foldedSetIterable ay X.env x=pure x:=by intro _;rfl):PE X (.ListComp Of [{tg,ay,N5,(0)}] scope pos) (jp own js wi g ti te):=by
 have{h1,h2,h3,h4,h5,h6}:=tR ok;subst hsc hXN;show FI hc h1 h4 h2 h3 h5 (λi j x a b=>?_) hi hg ho ht he hs;have{z1,z2,z3}:=h6 i j x a b;show{z1,C2 z2,z3,ni z2}
def nj{y:Str}(hN:X.N.Nodup)(OW:X.N[i]? =some y)(hy:Loc X.env.scope y)(hf:X.fn y=true\/X.env.scope.names.lookup y=some .local)(hc:X.calm=true)(ok:kR XN sc scope own js N=true)(hsc:X.env.scope=sc)(hXN:X.N=XN)(hi:PI X tg ay wi)
  (hg:∀C s₀ H₀ ex,PG (X.comp scope C N s₀ H₀ ex λ_ _=>False) tg g) (ho:gw own g)
  (ht:∀C s₀ H₀ ex,gu (X.comp scope C N s₀ H₀ ex λ_ _=>False) N5 ti) (he:∀C s₀ H₀ ex,PE (X.comp scope C N s₀ H₀ ex λ_ _=>False) Of te)
  (hsw:swapsWith (.ListComp Of [{tg,ay,N5,(0)}] scope pos) (some (.Name y py)) PL.line X.env=pure true:=by rfl)
  (hs:∀x,foldedSetIterable ay X.env x=pure x:=by intro _;rfl):PS X (.Assign [.Name y py] (.ListComp Of [{tg,ay,N5,(0)}] scope pos) PL) (ja (jp own js wi g ti te) (cw i)):=by
 have{h1,h2,h3,h4,h5,h6}:=tR ok;subst hsc hXN;show FJ hN OW hy hf hc h1 h4 h2 h3 h5 (λi j x a b=>?_) hi hg ho ht he hsw hs;have{z1,z2,z3}:=h6 i j x a b;show{z1,C2 z2,z3,ni z2}
end
def jq{lo:Int}{ti:TT}{σ:St}{H1:Hp}{Q:VK}(Pv:Nat->Hp->Prop)(h0:Pv 0 (upd H1 acc (.lst [])))
  (hs:∀i H2,i<n->Pv i H2->g (.int (lo+i)) (dz own js σ) H2 λσ4 H4=>ti σ4 H4 λb H5=>if b=true then te σ4 H5 λy H6=>rAppend (.ref acc) [y] H6 λ_ H7=>Pv (i+1) H7 else Pv (i+1) H5) (hd:∀H2,Pv n H2->Q (.ref acc) H2)
  (mono:∀σ H (R R':St->Hp->Prop) x,(∀σ' H',R σ' H'->R' σ' H')->g x σ H R->g x σ H R') (N7:∀σ H (R R':Bool->Hp->Prop),(∀b H',R b H'->R' b H')->ti σ H R->ti σ H R') (N8:∀σ H (R R':VK),(∀v H',R v H'->R' v H')->te σ H R->te σ H R'):
  jo (Itr lo n) own js g ti te σ H1 acc Q:=by
 show{λi m H2=>m=n-i/\i<=n/\Pv i H2,{n,7,AW _,h0},?_};rintro i m H2 ⟨rfl,hi,p⟩;by_cases Nb:i<n
 .show .inr {Nb,λx H3 y=>?_};have{e1,e2}:=y;subst e1 e2;show mono _ _ _ _ _ (λσ4 H4 q=>N7 _ _ _ _ (λb H5 q=>?_) q) (hs i _ Nb p);cases b with
  |true=>
   show N8 _ _ _ _ (λv H6 q=>?_) q;have{l,xs,y,a1,a2,a3,a4,a5}:=q;show{l,xs,y,a1,a2,a3,a4,n-(i+1),4,0,Nb,a5}
  |false=>show{n-(i+1),4,0,Nb,q}
 .have e:i=n:=by lia
  subst e;show .inl {AB _,hd H2 p}
def gx{xs:Sk V}{ti:TT}{σ:St}{H1:Hp}{Q:VK}(Pv:Nat->Hp->Prop)(h0:Pv 0 (upd H1 acc (.lst [])))(hl:∀i H2,i<=xs.length->Pv i H2->SqL K H2 a xs)
  (hs:∀i x H2,xs[i]? =some x->Pv i H2->g x (dz own js σ) H2 λσ4 H4=>ti σ4 H4 λb H5=>if b=true then te σ4 H5 λy H6=>rAppend (.ref acc) [y] H6 λ_ H7=>Pv (i+1) H7 else Pv (i+1) H5) (hd:∀H2,Pv xs.length H2->Q (.ref acc) H2)
  (mono:∀σ H (R R':St->Hp->Prop) x,(∀σ' H',R σ' H'->R' σ' H')->g x σ H R->g x σ H R') (N7:∀σ H (R R':Bool->Hp->Prop),(∀b H',R b H'->R' b H')->ti σ H R->ti σ H R') (N8:∀σ H (R R':VK),(∀v H',R v H'->R' v H')->te σ H R->te σ H R'):
  jo (Itl K a) own js g ti te σ H1 acc Q:=by
 show{λi m H2=>m=xs.length-i/\i<=xs.length/\Pv i H2,{xs.length,7,AW _,h0},?_};rintro i m H2 ⟨rfl,hi,p⟩;have q:=hl i H2 hi p;by_cases Nb:i<xs.length
 .show .inr {{xs,xs[i],q,by simp[Nb]},λx H3 y=>?_};have{e1,y}:=y;subst e1;show mono _ _ _ _ _ (λσ4 H4 q=>N7 _ _ _ _ (λb H5 q=>?_) q) (hs i x _ (y xs q) p);cases b with
  |true=>
   show N8 _ _ _ _ (λv H6 q=>?_) q;have{l,xs,y,a1,a2,a3,a4,a5}:=q;show{l,xs,y,a1,a2,a3,a4,_,4,0,Nb,a5}
  |false=>show{_,4,0,Nb,q}
 .have e:i=xs.length:=by lia
  subst e;show .inl {{xs,q,AB _},hd H2 p}
def dP :∀(σ:St) (H:Hp) (R R':St->Hp->Prop) (x:V),(∀σ' H',R σ' H'->R' σ' H')->cw i x σ H R->cw i x σ H R':=λ_ _ _ _ _ k h=>k _ _ h
def eB{A B:St->Hp->Prop}{x:V}{σ:St}(h:A (σ.set i (some x)) H):cw i x σ H λσ4 H4=>kQ σ4 H4 λb H5=>if b=true then A σ4 H5 else B σ4 H5:=by
 change if true=true then A (σ.set i (some x)) H else B (σ.set i (some x)) H
 rw[A8 rfl];show h
def jr(h:i<n):ixN n (i:Int)=some i:=by
 unfold ixN;rw[A8 (by lia),A8 (by lia),Ag]
def dg:∀(σ:St) (H:Hp) (R R':Bool->Hp->Prop),(∀b H',R b H'->R' b H')->kQ σ H R->kQ σ H R':=λ_ _ _ _ k h=>k _ _ h
section
variable{X:Cx}{K:W.Frag}
def FK(h:X.K=K):IxR X (rIxL K):=h▸de
end
inductive EqR(K:W.Frag)(H:Hp):Nat->V->V->Bool->Prop where
 |int (d:Nat) (i j:Int):EqR K H d (.int i) (.int j) (decide (i=j))
 |lists {d:Nat}{a b:Addr}{xs ys:List V} (es:Nat->Bool) (h1:SqL K H a xs) (h2:SqL K H b ys) (hl:xs.length=ys.length) (he:∀(j:Nat) x y,xs[j]? =some x->ys[j]? =some y->EqR K H d x y (es j)):EqR K H (d+1) (.ref a) (.ref b) ((List.range xs.length).all es)
 |lens {d:Nat}{a b:Addr}{xs ys:List V} (h1:SqL K H a xs) (h2:SqL K H b ys) (hl:xs.length≠ys.length):EqR K H (d+1) (.ref a) (.ref b) false
 |tuples {d:Nat}{a b:Addr}{xs ys:List V} (es:Nat->Bool) (h1:SqT K H a xs) (h2:SqT K H b ys) (he:∀(j:Nat) x y,xs[j]? =some x->ys[j]? =some y->EqR K H d x y (es j)):EqR K H (d+1) (.ref a) (.ref b) ((List.range (min xs.length ys.length)).all es&&xs.length==ys.length)
section
variable{X:Cx}{M6:Sk (Se×Obj)}{σ:St}{H:Hp}{s:Sc}
def EqR.same(I:Inv X M6 σ H s){x:V}(h:EqR X.K H d x y e):x=y->e=true:=by
 induction h with
 |int d i j=>intro q;cases q;simp
 |lists es h1 h2 hl he ih=>
  intro q;cases q;have z:=I.list_inj h1 h2;subst z;rw[AV];intro j hj;rw[AY] at hj;have hx:=A2 hj;show ih j _ _ hx hx rfl
 |lens h1 h2 hl=>
  intro q;cases q;show absurd (BB List.length (I.list_inj h1 h2)) hl
 | @tuples d a b xs ys es h1 h2 he ih=>
  intro q;cases q;have z:=I.tuple_inj h1 h2;subst z;rw[A9];show{?_,7};rw[AV];intro j hj;rw[AY,Nat.min_self] at hj;have hx:=A2 hj;show ih j _ _ hx hx rfl
def cJ(A:Sj):A.in1.units=A.units+1:=rfl
def EqR.bN(I:Inv X M6 σ H s){x:V}(h:EqR X.K H d x y e):∀{A:Sj}{u v:PP},A.units+d<cLine->aw x u->aw y v->SeqAt.RcAt A s u v e/\SeqAt.RcNeAt A s u v (!e)/\SeqAt.EqAt A s u v e:=by
 induction h with
 |int d i j=>
  intro A u v hu ru rv;have{t,0}:=ru;have{t',0}:=rv;have e:decide (i=j)=(i==j):=by rw[Bool.beq_eq_decide_eq]
  rw[e];show{SeqAt.RcAt.int_int i t j t',SeqAt.RcNeAt.int_int i t j t',SeqAt.EqAt.int_int i t j t'}
 | @lists d a b xs ys es h1 h2 hl he ih=>
  intro A u v hu ru rv;obtain rfl:u=Value.ref a:=ru;obtain rfl:v=Value.ref b:=rv;have{is,r1,p1,z1}:=I.list h1;have{js,r2,p2,z2}:=I.list h2;have l1:=r1.length;have l2:=r2.length;have ln:xs.length=is.toArray.size:=by simpa using l1
  have sz:is.toArray.size=js.toArray.size:=by simp only[AH];lia
  have it:∀j (q1:j<is.toArray.size) (q2:j<js.toArray.size),SeqAt.EqAt A.in1 s is.toArray[j] js.toArray[j] (es j):=λj q1 q2=>by
   simp only[AH] at q1 q2;have hx:xs[j]? =some xs[j]:=A2 (by lia);have hy:ys[j]? =some ys[j]:=A2 (by lia);have{u1,e1,ru1}:=r1.get hx;have{u2,e2,ru2}:=r2.get hy;have g1:is.toArray[j]=u1:=by
    rw[A2 q1] at e1;simpa using Option.some.inj e1
   have g2:js.toArray[j]=u2:=by
    rw[A2 q2] at e2;simpa using Option.some.inj e2
   rw[g1,g2];show(ih j _ _ hx hy (by rw[cJ];lia) ru1 ru2).2.2
  rw[ln];have R:=SeqAt.RcAt.lists (A:=A) p1.isList p2.isList sz (by lia) it;show{R,SeqAt.RcNeAt.lists p1.isList p2.isList sz (by lia) it,?_};by_cases q:a=b
  .subst q;have:=(EqR.lists es h1 h2 hl he).same I rfl;rw[ln] at this;rw[this];show SeqAt.EqAt.same _
  .show SeqAt.EqAt.of_refs q R
 | @lens d a b xs ys h1 h2 hl=>
  intro A u v hu ru rv;obtain rfl:u=Value.ref a:=ru;obtain rfl:v=Value.ref b:=rv;have{is,r1,p1,z1}:=I.list h1;have{js,r2,p2,z2}:=I.list h2;have l1:=r1.length;have l2:=r2.length;have sz:(is.toArray.size !=js.toArray.size)=true:=by
   simp only[AH,bne_iff_ne,ne_eq];lia
  have R:=SeqAt.RcAt.lists_lengths (A:=A) p1.isList p2.isList sz (by lia);show{R,SeqAt.RcNeAt.lists_lengths p1.isList p2.isList sz (by lia),?_};by_cases q:a=b
  .subst q;show absurd (BB List.length (I.list_inj h1 h2)) hl
  .show SeqAt.EqAt.of_refs q R
 | @tuples d a b xs ys es h1 h2 he ih=>
  intro A u v hu ru rv;obtain rfl:u=Value.ref a:=ru;obtain rfl:v=Value.ref b:=rv;have{is,r1,p1,z1}:=I.tuple h1;have{js,r2,p2,z2}:=I.tuple h2;have l1:=r1.length;have l2:=r2.length;have ln:xs.length=is.toArray.size:=by simpa using l1
  have ln2:ys.length=js.toArray.size:=by simpa using l2
  have it:∀j (q1:j<is.toArray.size) (q2:j<js.toArray.size),SeqAt.EqAt A.in1 s is.toArray[j] js.toArray[j] (es j):=λj q1 q2=>by
   simp only[AH] at q1 q2;have hx:xs[j]? =some xs[j]:=A2 (by lia);have hy:ys[j]? =some ys[j]:=A2 (by lia);have{u1,e1,ru1}:=r1.get hx;have{u2,e2,ru2}:=r2.get hy;have g1:is.toArray[j]=u1:=by
    rw[A2 q1] at e1;simpa using Option.some.inj e1
   have g2:js.toArray[j]=u2:=by
    rw[A2 q2] at e2;simpa using Option.some.inj e2
   rw[g1,g2];show(ih j _ _ hx hy (by rw[cJ];lia) ru1 ru2).2.2
  rw[ln,ln2];have R:=SeqAt.RcAt.tuples (A:=A) (show s.heap.IsTuple a is.toArray from p1) (show s.heap.IsTuple b js.toArray from p2) (by lia) it;show{R,SeqAt.RcNeAt.tuples (show s.heap.IsTuple a is.toArray from p1) (show s.heap.IsTuple b js.toArray from p2) (by lia) it,?_};by_cases q:a=b
  .subst q;have:=(EqR.tuples es h1 h2 he).same I rfl;rw[ln,ln2] at this;rw[this];show SeqAt.EqAt.same _
  .show SeqAt.EqAt.of_refs q R
inductive rEqS(K:W.Frag)(neg:Bool)(x:V)(y:V)(H:Hp)(Q:VK):Prop
 |mk d e:EqR K H d x y e->d<=8->(Q (.bl (if neg then !e else e)) H)->rEqS K neg x y H Q
def nu(hr:Room k X.A):OpR X (compareOp .Eq) (rEqS X.K false):=by
 intro M6 s σ H x y v u Q I rx ry h;have{d,e,r,hd,q}:=h;have hu:=hr.un;show(r.bN I (A:=X.A) (by lia) rx ry).1 X.prog X.w X.xe _ {.bl e,H,I,0,q}
def tS(hr:Room k X.A):OpR X (compareOp .NotEq) (rEqS X.K true):=by
 intro M6 s σ H x y v u Q I rx ry h;have{d,e,r,hd,q}:=h;have hu:=hr.un;show(r.bN I (A:=X.A) (by lia) rx ry).2.1 X.prog X.w X.xe _ {.bl (!e),H,I,0,q}
def gy(hc:X.calm=true):bP X (.builtin "sum") (λxs H Q=>∃(p:Se) (ns:Sk Int),xs=[.ref p]/\SqL X.K H p (ns.map V.int)/\Q (.int ns.sum) H):=by
 intro M6 s σ H xs us Q I r h;have{p,ns,0,hq,q}:=h;have{u,0,rx}:=c8 r;cases rx;have{M9,r',pl,hz}:=I.list hq;have hi:IntsAre M9 ns:=m3 r';have{ys,e}:=hi.allInts.items;have hl:=pl.isList;rw[e] at hl;show sum_intListG (I.ok.hd hc) hl λh' tk t' hk=>{.int ns.sum,H,I.kept hk,{t',?_},q};have n1:=hi.numsOf;rw[show M9=M9.toArray.toList from rfl,e,nums_intItems] at n1;rw[preSum_eq,C5 (by simp),n1]
def CDB(_ j:Int):Prop:=j≠0/\j.natAbs<2^512
theorem tT:OpR X (binaryOp .FloorDiv) (rI CDB λi j=>.int (i.fdiv j)):=opI λi j _ _ _ _ _ hc q=>floordiv_int hc.1 q (.inl (PyProof.noPylong_of_log2 (by
 have h0:j.natAbs≠0:=by have:=hc.1;lia
 have:=(Nat.log2_lt h0).mpr hc.2;lia)))
end
def FL:typeLookup (.type "list_reverseiterator") "__len__"=pure none:=by rw[typeLookup_type,DW];kernel_rfl
theorem FM:Slot "list_reverseiterator" "__length_hint__" "list_reverseiterator.__length_hint__":=
 .of (owner:="list_reverseiterator") (n:="__length_hint__") (by rw[typeLookup_type,DW];kernel_rfl) (by ac_nf) (by ac_nf) (by ac_nf)
  (.inr (by ac_nf)) (by rw[Dk];kernel_rfl)
section
variable{prog:Sf}{w:Si}{A:Sj}{E:PP->Sc->Prop}{s:Sc}
def FN{it:Se}{i:Int}{Q:Bool->Sc->Prop}(Nd:s.heap.IsRevIter it l i)(h:Q false s):wpAny (model prog w) A (Builtin.List.listLengthHint (.ref it)) Q E s:=by
 unfold Builtin.List.listLengthHint;show A0 (C6 Nd.typeIs FL ?_);show D6 (λOO=>absurd OO (by ac_nf)) (λ_=>?_);show D6 (λOO=>absurd OO (by decide)) (λ_=>?_);show A0 (C6 Nd.typeIs FM.lookup ?_);generalize hid:("list_reverseiterator.__length_hint__":String)=id0
 wp_delta
 rw[show splitId id0=some ("list_reverseiterator","__length_hint__") from by subst hid;ac_nf];subst hid;show A0 (Bx (T:="list_reverseiterator") (b:=true) Nd.typeIs (by rw[Dk];kernel_rfl) ?_);show D6 (λOO=>absurd OO (by decide)) (λ_=>?_);show D6 (λ_=>?_) (λOO=>absurd (by ac_nf) OO);show D6 (λOO=>absurd OO (by ac_nf)) (λ_=>?_);show A3 h
def FO{it l:Addr}{items:Array Value}{Q:Value->Shared->Prop}(hh:A.handled=none)(Nd:s.heap.IsRevIter it l ((items.size:Int)-1))(hl:s.heap.IsList l items)(NC:l≠it)(hsz:items.size<=sizeLine)
  (hQ:∀h' tk c' Ox,(∀b o,b≠it->s.heap.get? b=some o->h'.get? b=some o)->h'.get? s.heap.objs.size=some {cls:= .type "list",dict:=none,data:= .seq Ox c',slots:= #[]}->
   ItemsOf (λi v=>items[items.size-1-i]? =some v) Ox items.size->Q (.ref s.heap.objs.size) {s with heap:=h',toks:=tk}):
  wpAny (model prog w) A (call (.type "list") [.ref it]) Q E s:=by
 have Rp:it<s.heap.objs.size:=let ⟨_,e,_⟩:=Nd;AM e;have llt:l<s.heap.objs.size:=let ⟨_,e,_⟩:=hl;AM e;show callType_codes (Q₁:=λobj s₁=>obj=.ref s.heap.objs.size/\s₁={s with heap:=s.heap.push {cls:= .type "list",data:= .seq #[]}}) F.called_list (F.typeCall_list_1 _) F.entry_list_init
  (code_list_new _ {0,0}) λobj s₁ h₁=>?_
 have{0,0}:=h₁;have hS:(s.heap.push {cls:= .type "list",data:= .seq #[]}).get? s.heap.objs.size=some {cls:= .type "list",data:= .seq #[]}:=AJ _ rfl;show{{_,hS,0},F.args_list_init_2 _ _,?_};have hit1:(s.heap.push {cls:= .type "list",data:= .seq #[]}).IsRevIter it l ((items.size:Int)-1):=Nd.at λo e=>A4 _ e;have NG:(s.heap.push {cls:= .type "list",data:= .seq #[]}).IsList l items:=hl.push _;have kp1:∀b o,s.heap.get? b=some o->(s.heap.push {cls:= .type "list",data:= .seq #[]}).get? b=some o:=λb o e=>A4 _ e;generalize s.heap.push {cls:= .type "list",data:= .seq #[]}=p at*
 generalize hSS:s.heap.objs.size=S at*
 have neS:∀{b o},s.heap.get? b=some o->b≠S:=λe=>AU (hSS▸AM e);change wpAny _ _ (do let Ot<-Builtin.List.listItems (.ref S);Builtin.List.listUpdate (.ref S) (λ_=> #[]);letGo Ot.toList.reverse;Builtin.List.listExtendWith (.ref S) (.ref it) .none) _ _ _;show A0 ?_;unfold Builtin.List.listItems;show A0 (Bj hS rfl (A3 ?_));change wpAny _ _ (updateSeq S (λ_=> #[])>>=λ_=>letGo (#[]:Array Value).toList.reverse>>=λ_=>Builtin.List.listExtendWith (.ref S) (.ref it) .none) _ _ _;show A0 (wpAny_updateSeq hS rfl ?_);have Rq:=Bw (Obj.mapSeq (λ_=>(#[]:Array Value))) hS rfl;have oth:∀b o,b≠S->p.get? b=some o->(p.update S (Obj.mapSeq (λ_=>(#[]:Array Value)))).get? b=some o:=λb o hb e=>(Heap.get?_update_other _ _ (DE hb)).trans e;generalize p.update S (Obj.mapSeq (λ_=>(#[]:Array Value)))=p2 at Rq oth⊢;have Qt:p2.IsRevIter it l ((items.size:Int)-1):=hit1.at λo e=>oth it o (AU Rp) e;have Nk:p2.IsList l items:=NG.at λo e=>oth l o (AU llt) e;show A0 (wpAny_letGo ?_);unfold Builtin.List.listExtendWith;show A0 (DI (T:="list_reverseiterator") Qt.typeIs ?_);have h1:Builtin.List.listSameRef (.ref S) (.ref it)=false:=by
  have:S≠it:=BM Rp;simp[Builtin.List.listSameRef,this]
 have h2:(Value.type "list_reverseiterator"==Value.type "list")=false:=by decide
 have h3:(Value.type "list_reverseiterator"==Value.type "tuple")=false:=by decide
 simp only[h1,h2,h3,Bool.or_false,AN,Au];show A0 (wpAny_pyIter_revIter Qt ?_);show A0 (B2 (FN Qt ?_));have Wq:=(Walks.listRev (prog:=prog) (w:=w) (A:=A.in1.in1) hh it l NC items).toS;show D6 (λOO=>absurd OO (by ac_nf)) (λ_=>?_);show A3 {D0 F.plain_extend_loop _,?_};show codeAny_extend_loopS Wq hsz S (by intro z;rcases AI.mp z with z|z;show absurd z (BM Rp);show absurd (AT.mp z) (BM llt)) .none items.size 0 _ #[] _ rfl (AW _) {AW _,by simpa using Qt,Nk} Rq (ItemsOf.nil _) λs' Ox c' hm PM M'=>?_;rw[Moved.eq_with hm];show{0,hQ s'.heap s'.toks c' Ox (λb o hb e=>hm.heap b o (λz=>?_) (oth b o (neS e) (kp1 b o e))) PM M'}
 .rcases AI.mp z with z|z
  .show neS e z
  .show hb (AT.mp z)
end
def FP{items:Array PP}{acc:Array PP}(h:ItemsOf (λi v=>items[items.size-1-i]? =some v) acc items.size):acc=items.toList.reverse.toArray:=by
 have{h1,h2}:=h;show Array.ext (by simp[h1]) λi p q=>?_;have this:items[items.size-1-i]? =some acc[i]:=h2 i acc[i] (by simp[p]);simp only[List.getElem_toArray,List.getElem_reverse,B0,Array.getElem_toList];rw[Ac (by lia)] at this;show(Ao this).symm
section
variable{X:Cx}{e:Sl}{te:TE}{p1 p2 p3 pos:Pos}
def FQ(K:W.Frag)(te:TE):TE:=λσ H Q=>te σ H λx H1=>∃a xs,x=.ref a/\SqL K H1 a xs/\∀l,H1 l=none->Q (.ref l) (upd H1 l (.lst xs.reverse))
def tU(hc:X.calm=true)(hg1:Gl X "list")(hm1:X.mg "list"=none)(hg2:Gl X "reversed")(hm2:X.mg "reversed"=none)(ha:PE X e te)
  (he1:starEach [.Call (.Name "reversed" p2) [e] [] p3] X.env=[(false,eval (.Call (.Name "reversed" p2) [e] [] p3) X.env)]:=by rfl) (Px:starEach [e] X.env=[(false,eval e X.env)]:=by rfl):
  PE X (.Call (.Name "list" p1) [.Call (.Name "reversed" p2) [e] [] p3] [] pos) (FQ X.K te):=by
 intro M6 s σ H Q I h;show BK (cR I hg1 hm1 Dm ?_);show B7 ?_ he1 (by rfl);rw[he1];change wpAny _ _ (spliced [(false,eval (.Call (.Name "reversed" p2) [e] [] p3) X.env)]) _ _ s;show CV ?_;show BK (cR I hg2 hm2 boot_reversed ?_);show B7 (thn ((ab ha af Px) _ M6 s σ H (λvs H1=>match vs with|[x]=>(∃a xs,x=.ref a/\SqL X.K H1 a xs/\∀l,H1 l=none->Q (.ref l) (upd H1 l (.lst xs.reverse)))|_=>False) I h) λus s1 zu52=>?_) Px (by rfl);have{vs,H1,I1,r1,q1}:=zu52
 .match vs,q1,r1 with
  |[x],q1,r1=>
  have{a,xs,0,hq,q}:=q1;have{u,0,ru}:=c8 r1;obtain rfl:u=Value.ref a:=ru;have{M9,rv,pl,hz}:=I1.list hq;have lt:a<s1.heap.objs.size:=let ⟨_,e,_⟩:=pl.isList;AM e;show call_reversed_list pl.isList ?_;show Calls.spliced_nil ?_;show FO (items:=M9.toArray) (I1.ok.hd hc) {_,AJ _ rfl,0,0} (pl.isList.push _) (AU lt) (by have:=rv.length;simp;lia) λh' tk c' Ox k hn ia=>?_;have ne:∀b o,s1.heap.get? b=some o->h'.get? b=some o:=λb o z=>k b o (AU (AM z)) (A4 _ z);rw[FP ia] at hn;have le:s1.heap.objs.size<=(s1.heap.push (revObj a ((M9.toArray.size:Int)-1))).objs.size:=by rw[B3];show Cu _
  show{.ref _,_,I1.laid (t':=tk) ne le (show aG X.prog X.w _ h' _ (.lst xs.reverse) from{by simpa using hz,M9.reverse,c',rv.reverse,hn}),0,q _ (I1.hok.fresh le)}
end
def Ite(K:W.Frag)(a:Se):It:=
 {λi H=>∃xs x,SqL K H a xs/\xs[i]? =some x,λi H v H'=>∃x p,(∀xs,SqL K H a xs->xs[i]? =some x)/\v=.ref p/\H p=none/\H'=upd H p (.tup [.int i,x]),λi H=>∃xs,SqL K H a xs/\xs.length<=i}
def FR{N0:Sk Sl}(a e it:Se)(NC:e≠it):
  Turn P w K (.Tuple N0 k pos) (Ite K a) [e,it] e (λi h=>(∃Ot,IsEnum h e it (i:Nat) Ot)/\h.IsListIter it a i) where
 mem:=by simp
 obj:=λi h st b hb=>by
  have{{Ot,h1},o,h2,h3,h4}:=st;rcases AI.mp hb with z|z
  .subst z;show{_,h1,λv y=>by cases y}
  .rw[AT.mp z];show{o,h2,λv y=>by rw[h4] at y;cases y}
 keep:=λi h h' st kk=>{st.1.imp λOt z=>kk e (by simp) _ z,st.2.at λo z=>kk it (by simp) o z}
 item:=by
  intro X hP hw hK hc i M6 s σ H E I hf st hg;subst hP hw hK;have{xs,x,hq,hx}:=hg;have{M9,rv,p,hz}:=I.list hq;have{u,hu,ru}:=rv.get hx;have{{Ot,he},Nd}:=st;have nf:H s.heap.objs.size=none:=I.hok.fresh (AB _);have ltE:e<s.heap.objs.size:=AM he;show wpAny_pyNext_enum_item he Nd p.isList (x:=u) (by simpa using hu) NC λh' ho O1 hT hsz hk=>{.ref s.heap.objs.size,0,?_};show wpAny_letOwnedTupleGo_enum ho λh2 Px sb=>?_;have k2:∀b o,b≠e->b≠it->s.heap.get? b=some o->h2.get? b=some o:=λb o n1 n2 z=>(sb.2 b n1).trans (hk b o n1 n2 z);have Rr:h2.get? s.heap.objs.size=some {cls:= .type "tuple",data:= .seq #[.int i s.toks,u]}:=(sb.2 _ (BM ltE)).trans hT;have OI:∀b,b∉[e,it]->b≠e/\b≠it:=λb z=>{λy=>z (by simp[y]),λy=>z (by simp[y])};show{.ref s.heap.objs.size,upd H s.heap.objs.size (.tup [.int i,x]),?_,0,{x,_,λys hy=>by rw[I.list_inj hy hq];show hx,0,nf,0},{{u,by simpa using Px},O1.at λo z=>(sb.2 it NC.symm).trans z},λb hb=>?_}
  .show I.step (s:=s) (h':=h2) (g':=s.gens) (d':=s.drawn) (t':=s.toks+1) (ch:=[e,it]) (λb hb=>?_) (λb o _ _ c z _=>k2 b o (OI b c).1 (OI b c).2 z) (λb o _ _ c z _=>{o.slots,k2 b o (OI b c).1 (OI b c).2 z})
    (λb o c z n=>?_) (λb o c z=>{o,k2 b o (OI b c).1 (OI b c).2 z}) (λb ys z=>?_) (λb o v z=>?_) (λb ps z=>{#[],?_}) (λm hm=>?_) (λb v z=>?_) I.bare
   .have{a1,a2,a3,a4,a5,a6}:=hf b hb;show{a4,a2,a5,a6}
   .rw[av (AU (AM z))];show n
   .rw[av (bi z nf)];show z
   .rw[av (bi z nf)];show z
   .rw[av (bi z nf),z];simp
   .have{o,es,ep,Ol,r}:=hm;show{o,es,ep,k2 _ o (λy=>(hf e (by simp)).2.1 y.symm) (λy=>(hf it (by simp)).2.1 y.symm) Ol,r}
   .by_cases hb:b=s.heap.objs.size
    .subst hb;rw[ak] at z;cases z;show{by change 2<=sizeLine;decide,[.int i s.toks,u],.cons {1} (.cons ru .nil),{_,Rr,0,1}}
    .rw[av hb] at z;show(I.hok b v z).stay (λc o hc y=>k2 c o ?_ ?_ y) (λc y=>?_) λc ys y=>?_
     .rcases hc with q|q
      .rw[q];show λy=>by rw[y,(hf e (by simp)).1] at z;cases z
      .show λy=>by rw[y,(hf e (by simp)).1] at q;cases q
     .rcases hc with q|q
      .rw[q];show λy=>by rw[y,(hf it (by simp)).1] at z;cases z
      .show λy=>by rw[y,(hf it (by simp)).1] at q;cases q
     .rw[av (bi y nf)];show y
     .rw[av (bi y nf)];show y
  .have{o,z,_}:=(show∃o,s.heap.get? b=some o/\True from by
    rcases AI.mp hb with q|q
    .rw[q];show{_,he,trivial}
    .rw[AT.mp q];have{o,y,_}:=Nd;show{o,y,trivial})
   rw[av (AU (AM z))];show(hf b hb).1
 done:=by
  intro X hP hw hK hc i M6 s σ H E I hf st hg;subst hP hw hK;have{xs,hq,hx}:=hg;have{M9,rv,p,hz}:=I.list hq;have{{Ot,he},Nd}:=st;have hl:=rv.length;have{f0,f1,f2,f3,f4,f5}:=hf it (by simp);show wpAny_pyNext_enum_end (I.ok.hd hc) he Nd p.isList (by simp;lia) λh' eb=>{0,I.turned (t':=s.toks) (λb o hb z=>eb b o hb z) f0 f1 f3 f4 f5}
 self:=λ_ _ _ _ _ st h=>let ⟨⟨_,z⟩,_⟩:=st;wpAny_pyIter_enum z h
section
variable{X:Cx}{N0:Sk Sl}{k:Nat}{Oe p pos:Pos}{e:Sl}{te:TE}
def FS(K:W.Frag)(tl:TE):TI:=λσ H R=>tl σ H λx H1=>∃a,x=.ref a/\(∃xs,SqL K H1 a xs)/\R (Ite K a) H1
def ie(hg:Gl X "enumerate")(hm:X.mg "enumerate"=none)(hl:PE X e te)(he:starEach [e] X.env=[(false,eval e X.env)]:=by rfl):PI X (.Tuple N0 k Oe) (.Call (.Name "enumerate" p) [e] [] pos) (FS X.K te):=by
 intro M6 s σ H R I h;show BK (cR I hg hm boot_enumerate ?_);show B7 (thn ((ab hl af he) _ M6 s σ H (λvs H1=>match vs with|[x]=>(∃a,x=.ref a/\(∃xs,SqL X.K H1 a xs)/\R (Ite X.K a) H1)|_=>False) I h) λus s1 zu53=>?_) he (by rfl);have{vs,H1,I1,r1,q1}:=zu53
 match vs,q1,r1 with
 |[x],q1,r1=>
 have{a,0,{xs,hq},q}:=q1;have{u,0,ru}:=c8 r1;obtain rfl:u=Value.ref a:=ru;have{M9,rv,pl,hz}:=I1.list hq;show call_enumerate_list pl.isList λh' hen Nd hsz hk=>?_;show wpAny_pyIter_enum hen ?_;show{_,[_,_],_,_,H1,0,I1.kept (t':=s1.toks) hk,FR a _ _ (BM (BZ _)),{{_,by simpa using hen},Nd},λb hb=>?_,q};have fr:∀b,s1.heap.objs.size<=b->cx X M6 H1 b:=λb z=>I1.fpOk z (I1.hok.fresh z);rcases AI.mp hb with z|z
 .rw[z];show fr _ (Cu _)
 .rw[AT.mp z];show fr _ (AB _)
end
def jt{xs:Sk V}{tb:TS}{D:Ends}{σ:St}(Pv:Nat->St->Hp->Prop)(h0:Pv 0 σ H)(hl:∀i σ H,i<=xs.length->Pv i σ H->SqL K H a xs)
  (hs:∀i x σ H p,xs[i]? =some x->Pv i σ H->H p=none->g (.ref p) σ (upd H p (.tup [.int i,x])) λσ2 H2=>tb (eLp D (Pv (i+1))) σ2 H2) (hd:∀σ H,Pv xs.length σ H->D.nx σ H):
  ∃Wq:Nat->Nat->St->Hp->Prop,(∃m,Wq 0 m σ H)/\∀i m σ H,Wq i m σ H->
   ((Ite K a).stop i H/\D.nx σ H)\/((Ite K a).go i H/\∃N:St->Hp->Prop,(∀σ' H',N σ' H'->∃m',m'<m/\Wq (i+1) m' σ' H')/\∀x H',(Ite K a).yld i H x H'->g x σ H' λσ2 H2=>tb (eLp D (N)) σ2 H2):=by
 show{λi m σ H=>m=xs.length-i/\i<=xs.length/\Pv i σ H,{xs.length,7,AW _,h0},?_};rintro i m σ H ⟨rfl,hi,p⟩;have q:=hl i σ H hi p;by_cases Nb:i<xs.length
 .show .inr {{xs,xs[i],q,by simp[Nb]},Pv (i+1),λσ' H' p'=>{xs.length-(i+1),4,0,Nb,p'},λx H' y=>?_};have{z,pp,e1,e2,e3,e4}:=y;subst e2 e4;show hs i z σ H pp (e1 xs q) p e3
 .have e:i=xs.length:=by lia
  subst e;show .inl {{xs,q,AB _},hd σ H p}
inductive rGetN(K:W.Frag)(o:V)(i:V)(H:Hp)(Q:VK):Prop
 |mk (p:Addr) (xs:List V) (j:Nat) (k:Int) (v:V):o=.ref p->i=.int k->k=j->SqL K H p xs->xs[j]? =some v->Q v H->rGetN K o i H Q
def kS :rX X (rGetN X.K):=by
 intro M6 s σ H o i ov iv Q I r1 r2 h;have{p,xs,j,k,v,0,0,e,hq,hx,q}:=h;cases r1;have{t,0}:=r2;have{M9,r,pl,hz}:=I.list hq;have{w,ew,Ow}:=r.get hx;have hl:=r.length;have hn:=gp;have hj:j<xs.length:=(AF.mp hx).1;show wpAny_getItem_list pl.isList (by lia) (by lia) (by rw[e,Ag];simpa using ew) {v,H,I,Ow,q}
section
variable{X:Cx}{st:So}{t:TS}
def FT(t:TS):TS:=λD σ H=>∃I:St->Hp->Prop,t (eTo D (I)) σ H/\∀σ' H',I σ' H'->D.nx σ' H'
theorem FU(h:PS X st t):PS X st (FT t):=λM6 s σ H D Iv ⟨J,h1,h2⟩=>
 thn (h M6 s σ H _ Iv h1) λf s' hf=>by
  cases f with
  |next=>have{σ',H',a,b}:=hf;show{σ',H',a,h2 _ _ b}
  |brk=>show hf
  |cont=>show hf
  |ret u=>show hf
end
inductive D where
 |i (n:Int)|l (xs:List D)|t (xs:List D)
mutual
def Is(H:Hp):D->V->Prop
 |.i n,v=>v=.int n
 |.l xs,v=>∃a vs,v=.ref a/\H a=some (.lst vs)/\Iss H xs vs
 |.t xs,v=>∃a vs,v=.ref a/\H a=some (.tup vs)/\Iss H xs vs
def Iss(H:Hp):Sk D->Sk V->Prop
 |[],vs=>vs=[]
 |x::xs,vs=>∃u us,vs=u::us/\Is H x u/\Iss H xs us
end
def bj{H:Hp}{n:Int}:Is H (.i n) (.int n):=by unfold Is;rfl
def aA{H:Hp}{a:Se}{xs:Sk D}{vs:Sk V}(h:H a=some (.lst vs))(k:Iss H xs vs):Is H (.l xs) (.ref a):=by unfold Is;show{a,vs,0,h,k}
def bt{H:Hp}{a:Se}{xs:Sk D}{vs:Sk V}(h:H a=some (.tup vs))(k:Iss H xs vs):Is H (.t xs) (.ref a):=by unfold Is;show{a,vs,0,h,k}
def aB{H:Hp}{n:Int}{v:V}(h:Is H (.i n) v):v=.int n:=by unfold Is at h;show h
def aD{H:Hp}{xs:Sk D}{v:V}(h:Is H (.l xs) v):∃a vs,v=.ref a/\H a=some (.lst vs)/\Iss H xs vs:=by unfold Is at h;show h
def bu{H:Hp}{xs:Sk D}{v:V}(h:Is H (.t xs) v):∃a vs,v=.ref a/\H a=some (.tup vs)/\Iss H xs vs:=by unfold Is at h;show h
def ax{H:Hp}:Iss H [] []:=by unfold Iss;rfl
def ap{H:Hp}{x:D}{xs:Sk D}{u:V}{us:Sk V}(h:Is H x u)(k:Iss H xs us):Iss H (x::xs) (u::us):=by unfold Iss;show{u,us,0,h,k}
def aM{H:Hp}{x:D}{xs:Sk D}{vs:Sk V}(h:Iss H (x::xs) vs):∃u us,vs=u::us/\Is H x u/\Iss H xs us:=by unfold Iss at h;show h
def bm{H:Hp}{vs:Sk V}(h:Iss H [] vs):vs=[]:=by unfold Iss at h;show h
mutual
theorem Is.mono{H H':Hp}(s:ae H H'):∀{d:D}{v:V},Is H d v->Is H' d v
 |.i _,_,h=>by rw[aB h];show bj
 |.l xs,_,h=>by
  have{a,vs,e,q,r}:=aD h;rw[e];show aA (s _ _ q) (Iss.mono s r)
 |.t xs,_,h=>by
  have{a,vs,e,q,r}:=bu h;rw[e];show bt (s _ _ q) (Iss.mono s r)
theorem Iss.mono{H H':Hp}(s:ae H H'):∀{xs:Sk D}{vs:Sk V},Iss H xs vs->Iss H' xs vs
 |[],_,h=>by rw[bm h];show ax
 |x::xs,_,h=>by
  have{u,us,e,q,r}:=aM h;rw[e];show ap (Is.mono s q) (Iss.mono s r)
end
theorem Iss.length{H:Hp}:∀{xs:Sk D}{vs:Sk V},Iss H xs vs->vs.length=xs.length
 |[],_,h=>by rw[bm h];rfl
 |x::xs,_,h=>by
  have{u,us,0,_,r}:=aM h;rw[Af,Af,r.length]
theorem Iss.get{H:Hp}:∀{xs:Sk D}{vs:Sk V}{j:Nat}{x:D},Iss H xs vs->xs[j]? =some x->∃v,vs[j]? =some v/\Is H x v
 |[],_,_,_,_,e=>by simp at e
 |x::xs,_,0,_,h,e=>by
  have{u,us,0,q,_}:=aM h;simp at e;subst e;show{u,0,q}
 |x::xs,_,j+1,_,h,e=>by
  have{u,us,0,_,r}:=aM h;have{v,e',k}:=r.get (j:=j) (by simpa using e);show{v,by simpa using e',k}
def Iss.of_get{H:Hp}{xs:Sk D}{vs:Sk V}{j:Nat}{v:V}(h:Iss H xs vs)(e:vs[j]? =some v):∃x,xs[j]? =some x/\Is H x v:=by
 have hj:j<vs.length:=(AF.mp e).1;have hj':j<xs.length:=by rw[<-h.length];show hj
 have{u,e1,k}:=h.get (A2 hj');rw[e] at e1;cases e1;show{_,A2 hj',k}
theorem Iss.append{H:Hp}:∀{xs ys:Sk D}{vs ws:Sk V},Iss H xs vs->Iss H ys ws->Iss H (xs++ys) (vs++ws)
 |[],_,_,_,h,k=>by rw[bm h];show k
 |x::xs,_,_,_,h,k=>by
  have{u,us,0,q,r}:=aM h;show ap q (r.append k)
theorem Iss.take{H:Hp}:∀{xs:Sk D}{vs:Sk V} (n:Nat),Iss H xs vs->Iss H (xs.take n) (vs.take n)
 |[],_,n,h=>by rw[bm h];simp;show ax
 |x::xs,_,0,h=>by simp;show ax
 |x::xs,_,n+1,h=>by
  have{u,us,0,q,r}:=aM h;show ap q (r.take n)
theorem Iss.drop{H:Hp}:∀{xs:Sk D}{vs:Sk V} (n:Nat),Iss H xs vs->Iss H (xs.drop n) (vs.drop n)
 |[],_,n,h=>by rw[bm h];simp;show ax
 |x::xs,_,0,h=>h
 |x::xs,_,n+1,h=>by
  have{u,us,0,q,r}:=aM h;show r.drop n
theorem Iss.rep{H:Hp}{x:D}{v:V}(h:Is H x v):∀n:Nat,Iss H (List.replicate n x) (List.replicate n v)
 |0=>ax
 |n+1=>by rw[Aj,Aj];show ap h (Iss.rep h n)
mutual
def Kin:D->D->Prop
 |.i _,.i _=>True
 |.l xs,.l ys=>cm xs ys
 |.t xs,.t ys=>cm xs ys
 |_,_=>False
def cm:Sk D->Sk D->Prop
 |x::xs,y::ys=>Kin x y/\cm xs ys
 |_,_=>True
end
mutual
def eqD:D->D->Bool
 |.i a,.i b=>decide (a=b)
 |.l xs,.l ys=>cV xs ys
 |.t xs,.t ys=>cV xs ys
 |_,_=>false
def cV:Sk D->Sk D->Bool
 |[],[]=>true
 |x::xs,y::ys=>eqD x y&&cV xs ys
 |_,_=>false
end
mutual
def dep:D->Nat
 |.i _=>0
 |.l xs=>cK xs+1
 |.t xs=>cK xs+1
def cK:Sk D->Nat
 |[]=>0
 |x::xs=>max (dep x) (cK xs)
end
mutual
theorem kT:∀{a b:D},eqD a b=true↔a=b
 |.i a,.i b=>by simp[eqD]
 |.i _,.l _=>by simp[eqD]
 |.i _,.t _=>by simp[eqD]
 |.l _,.i _=>by simp[eqD]
 |.l xs,.l ys=>by simp[eqD,kU (xs:=xs) (ys:=ys)]
 |.l _,.t _=>by simp[eqD]
 |.t _,.i _=>by simp[eqD]
 |.t _,.l _=>by simp[eqD]
 |.t xs,.t ys=>by simp[eqD,kU (xs:=xs) (ys:=ys)]
theorem kU:∀{xs ys:Sk D},cV xs ys=true↔xs=ys
 |[],[]=>by simp[cV]
 |[],_::_=>by simp[cV]
 |_::_,[]=>by simp[cV]
 |x::xs,y::ys=>by simp[cV,kT (a:=x) (b:=y),kU (xs:=xs) (ys:=ys)]
end
def tV{a:D}:eqD a a=true:=kT.mpr rfl
def FV{a b:D}(h:a≠b):eqD a b=false:=by
 cases e:eqD a b with
 |false=>rfl
 |true=>show absurd (kT.mp e) h
theorem nv:∀{xs ys:Sk D},xs.length=ys.length->cV xs ys=(List.range xs.length).all λj=>eqD (xs.getD j (.i 0)) (ys.getD j (.i 0))
 |[],[],_=>by simp[cV]
 |x::xs,y::ys,h=>by
  have ih:=nv (xs:=xs) (ys:=ys) (by simpa using h);rw[cV,ih,Af,List.range_succ_eq_map];simp[List.all_map,Function.comp_def]
def tW{xs ys:Sk D}(h:xs.length≠ys.length):cV xs ys=false:=by
 cases e:cV xs ys with
 |false=>rfl
 |true=>show absurd (BB List.length (kU.mp e)) h
mutual
theorem Is.eqr{K:W.Frag}{H:Hp}:∀{d e:D}{v w:V}{n:Nat},dep d<=n->Kin d e->Is H d v->Is H e w->EqR K H n v w (eqD d e)
 |.i a,.i b,_,_,n,_,_,h,k=>by
  rw[aB h,aB k,eqD];show EqR.int n a b
 |.l xs,.l ys,_,_,0,hn,_,_,_=>absurd hn (by unfold dep;lia)
 |.l xs,.l ys,_,_,n+1,hn,hk,h,k=>by
  have{a,vs,0,ha,ra}:=aD h;have{b,ws,0,hb,rb}:=aD k;have QP:cK xs<=n:=by unfold dep at hn;lia
  have OX:cm xs ys:=by unfold Kin at hk;show hk
  have l1:=ra.length;have l2:=rb.length;rw[eqD];by_cases hl:xs.length=ys.length
  .rw[nv hl,<-l1];show EqR.lists _ (SqL.of ha) (SqL.of hb) (by lia) λj x y hx hy=>Iss.eqr QP OX ra rb hx hy
  .rw[tW hl];show EqR.lens (SqL.of ha) (SqL.of hb) (by lia)
 |.t xs,.t ys,_,_,0,hn,_,_,_=>absurd hn (by unfold dep;lia)
 |.t xs,.t ys,_,_,n+1,hn,hk,h,k=>by
  have{a,vs,0,ha,ra}:=bu h;have{b,ws,0,hb,rb}:=bu k;have QP:cK xs<=n:=by unfold dep at hn;lia
  have OX:cm xs ys:=by unfold Kin at hk;show hk
  have l1:=ra.length;have l2:=rb.length;rw[eqD];have q:=EqR.tuples (d:=n) (λj=>eqD (xs.getD j (.i 0)) (ys.getD j (.i 0))) (SqT.of (K:=K) ha) (SqT.of (K:=K) hb) λj x y hx hy=>Iss.eqr QP OX ra rb hx hy;by_cases hl:xs.length=ys.length
  .rw[nv hl];rw[l1,l2,<-hl,Nat.min_self] at q;simpa using q
  .rw[tW hl];have z:(vs.length==ws.length)=false:=by rw[l1,l2];simpa using hl
   rw[z,Cd] at q;show q
 |.i _,.l _,_,_,_,_,hk,_,_=>by unfold Kin at hk;show hk.elim
 |.i _,.t _,_,_,_,_,hk,_,_=>by unfold Kin at hk;show hk.elim
 |.l _,.i _,_,_,_,_,hk,_,_=>by unfold Kin at hk;show hk.elim
 |.l _,.t _,_,_,_,_,hk,_,_=>by unfold Kin at hk;show hk.elim
 |.t _,.i _,_,_,_,_,hk,_,_=>by unfold Kin at hk;show hk.elim
 |.t _,.l _,_,_,_,_,hk,_,_=>by unfold Kin at hk;show hk.elim
theorem Iss.eqr{K:W.Frag}{H:Hp}:∀{xs ys:Sk D}{vs ws:Sk V}{n:Nat},cK xs<=n->cm xs ys->Iss H xs vs->Iss H ys ws->∀{j:Nat}{x y:V},vs[j]? =some x->ws[j]? =some y->
  EqR K H n x y (eqD (xs.getD j (.i 0)) (ys.getD j (.i 0)))
 |[],_,_,_,_,_,_,h,_,_,_,_,e,_=>by rw[bm h] at e;simp at e
 |_::_,[],_,_,_,_,_,_,k,_,_,_,_,e=>by rw[bm k] at e;simp at e
 |x::xs,y::ys,_,_,n,hn,hk,h,k,0,u,w,e1,e2=>by
  have{u',us,0,q,_}:=aM h;have{w',ws,0,q',_}:=aM k;simp at e1 e2;subst e1 e2;have OX:Kin x y/\cm xs ys:=by unfold cm at hk;show hk
  have hd:dep x<=n:=by unfold cK at hn;lia
  show Is.eqr (d:=x) (e:=y) hd OX.1 q q'
 |x::xs,y::ys,_,_,n,hn,hk,h,k,j+1,u,w,e1,e2=>by
  have{u',us,0,_,r}:=aM h;have{w',ws,0,_,r'}:=aM k;have OX:Kin x y/\cm xs ys:=by unfold cm at hk;show hk
  have hd:cK xs<=n:=by unfold cK at hn;lia
  have:=Iss.eqr (K:=K) hd OX.2 r r' (j:=j) (by simpa using e1) (by simpa using e2);simpa using this
end
abbrev Pt:=Int×Int
def pt(p:Pt):D:= .t [.i p.1,.i p.2]
def pts(ps:Sk Pt):D:= .l (ps.map pt)
def FW{p q:Pt}(h:pt p=pt q):p=q:=by
 unfold pt at h;injection h with h;injection h with h1 h2;injection h2 with h2 _;injection h1 with h1;injection h2 with h2;show Prod.ext h1 h2
def FX{p q:Pt}:eqD (pt p) (pt q)=decide (p=q):=by
 rw[DV,kT,decide_eq_true_iff];show{FW,λh=>by rw[h]}
def FY{p q:Pt}:Kin (pt p) (pt q):=by simp[pt,Kin,cm]
def FZ{p:Pt}:dep (pt p)=1:=by simp[pt,dep,cK]
def F'{K:W.Frag}{H:Hp}{p q:Pt}{v w:V}(h:Is H (pt p) v)(k:Is H (pt q) w):EqR K H 1 v w (decide (p=q)):=by
 rw[<-FX];show h.eqr (by rw[FZ];lia) FY k
def kW{H:Hp}{p:Pt}{v:V}(h:Is H (pt p) v):∃a,v=.ref a/\H a=some (.tup [.int p.1,.int p.2]):=by
 have{a,vs,e,q,r}:=bu h;have{u,us,0,h1,r}:=aM r;have{u',us',0,h2,r}:=aM r;rw[bm r,aB h1,aB h2] at q;show{a,e,q}
def gC{H:Hp}{p:Pt}{a:Se}(h:H a=some (.tup [.int p.1,.int p.2])):Is H (pt p) (.ref a):=bt h (ap bj (ap bj ax))
def ju{H:Hp}{ps:Sk Pt}{v:V}(h:Is H (pts ps) v):∃a vs,v=.ref a/\H a=some (.lst vs)/\Iss H (ps.map pt) vs:=aD h
def hid(H:Hp)(a:Se):Hp:=λb=>if b=a then none else H b
def eC{H:Hp}{a b:Se}(h:b≠a):hid H a b=H b:=by unfold hid;rw[A6 h]
def Ga{H:Hp}{a:Se}:hid H a a=none:=by unfold hid;rw[A8 rfl]
theorem tX{H:Hp}{a:Se}:ae (hid H a) H:=λb o e=>by
 unfold hid at e;split at e
 .cases e
 .show e
theorem dQ{H H':Hp}{a:Se}(s:ae H H'):ae (hid H a) (hid H' a):=λb o e=>by
 unfold hid at e⊢;split at e
 .cases e
 .rename_i h;rw[A6 h];show s b o e
def Gb{H:Hp}{a:Se}{o:HO}:hid (upd H a o) a=hid H a:=by
 funext b
 unfold hid;split
 .rfl
 .rename_i h;show av h
def b8(H:Hp)(a:Se)(xs:Sk D):Prop:=∃vs,H a=some (.lst vs)/\Iss (hid H a) xs vs
def b8.start{H:Hp}{a:Se}:b8 (upd H a (.lst [])) a []:={[],ak,ax}
def b8.mono{H H':Hp}{a:Se}{xs:Sk D}(s:ae H H')(g:b8 H a xs):b8 H' a xs:=by have{vs,e,h}:=g;show{vs,s _ _ e,h.mono (dQ s)}
def b8.is{H:Hp}{a:Se}{xs:Sk D}(g:b8 H a xs):Is H (.l xs) (.ref a):=by have{_,e,h}:=g;show aA e (h.mono tX)
theorem jv{H:Hp}{a:Se}{xs:Sk D}{x:D}{vs:Sk V}{v:V}(h:Iss (hid H a) xs vs)(k:Is (hid H a) x v):b8 (upd H a (.lst (vs++[v]))) a (xs++[x]):=
 {_,ak,by rw[Gb];show h.append (ap k ax)}
section
variable{X:Cx}{es:Sk Sl}{t:TA}{pos:Pos}
def New(H:Hp)(o:HO)(Q:VK):Prop:=∀p H2,H p=none->ae H H2->H2 p=some o->Q (.ref p) H2
def New.at{H:Hp}{o:HO}{Q:VK}(q:New H o Q){p:Se}(np:H p=none):Q (.ref p) (upd H p o):=q p _ np (ae.new np) ak
def Gc(t:TA):TE:=λσ H Q=>t σ H λxs H1=>xs.length<=sizeLine/\New H1 (.tup xs) Q
def Gd(t:TA):TE:=λσ H Q=>t σ H λxs H1=>xs.length<=sizeLine/\New H1 (.lst xs) Q
def bv{x1}(h:PA X es t):PE X (.Tuple es x1 pos) (Gc t):=by
 intro M6 s σ H Q I hq;show wpAny_Tuple_spliced (thn (h pos M6 s σ H _ I hq) λus s1 ⟨xs,H1,I1,r,z,q⟩=>{by rw[<-r.length];show z,?_});show{.ref s1.heap.objs.size,upd H1 s1.heap.objs.size (.tup xs),I1.laid (t':=s1.toks) (λb u e=>A4 _ e) (AB _) ?_,0,q.at (I1.hok.fresh (AB _))};show{z,us,r,{_,AJ _ rfl,0,1}}
def bd(h:PA X es t):PE X (.List es pos) (Gd t):=by
 intro M6 s σ H Q I hq;show wpAny_List_spliced (thn (h pos M6 s σ H _ I hq) λus s1 ⟨xs,H1,I1,r,z,q⟩=>{by rw[<-r.length];show z,?_});show{.ref s1.heap.objs.size,upd H1 s1.heap.objs.size (.lst xs),I1.laid (t':=s1.toks) (λb u e=>A4 _ e) (AB _) ?_,0,q.at (I1.hok.fresh (AB _))};show{z,us,(0),r,AJ _ rfl}
def OpR.imp{f:PP->PP->Sem PP}{r r':R2}(h:OpR X f r)(k:∀x y H Q,r' x y H Q->r x y H Q):OpR X f r':=λM6 s σ H x y v u Q I rx ry q=>h M6 s σ H x y v u Q I rx ry (k _ _ _ _ q)
def bP.imp{f:PP}{r r':Sk V->Hp->VK->Prop}(h:bP X f r)(k:∀xs H Q,r' xs H Q->r xs H Q):bP X f r':=λM6 s σ H xs us Q I rs q=>h M6 s σ H xs us Q I rs (k _ _ _ q)
theorem dR:OpR X (binaryOp .Add) (λx y H Q=>∃xs zs,Is H (.l xs) x/\Is H (.l zs) y/\xs.length+zs.length<=sizeLine/\∀p H2,H p=none->ae H H2->Is H2 (.l (xs++zs)) (.ref p)->Q (.ref p) H2):=
 hG.imp λx y H Q Pm=>by
  have{xs,zs,hx,hz,hl,q}:=Pm;have{a,vs,0,ha,ra}:=aD hx;have{b,ws,0,hb,rb}:=aD hz;show{a,b,vs,ws,0,0,ha,hb,by rw[ra.length,rb.length];show hl,λp np=>q p _ np (ae.new np) (aA ak ((ra.append rb).mono (ae.new np)))}
theorem tY{α:Type}{x:α}:∀n:Nat,(List.replicate n [x]).flatten=List.replicate n x
 |0=>rfl
 |n+1=>by rw[Aj,CU,tY n,Aj];rfl
theorem gD:OpR X (binaryOp .Mult) (λx y H Q=>∃d n,Is H (.l [d]) x/\y=.int n/\-(2^63)<=n/\n<2^63/\n.toNat<=sizeLine/\∀p H2,H p=none->ae H H2->Is H2 (.l (List.replicate n.toNat d)) (.ref p)->Q (.ref p) H2):=
 jg.imp λx y H Q Pm=>by
  have{d,n,hx,ey,h1,h2,hl,q}:=Pm;have{a,vs,0,ha,ra}:=aD hx;have{u,us,0,hu,ru}:=aM ra;rw[bm ru] at ha;show{a,n,1,ey,ha,h1,h2,by rw[Bc,Nat.one_mul];show hl,λp np=>q p _ np (ae.new np) ?_};rw[tY];show aA ak ((Iss.rep hu _).mono (ae.new np))
theorem ny:bP X (.type "list") (λvs H Q=>∃v xs,vs=[v]/\(Is H (.l xs) v\/Is H (.t xs) v)/\∀p H2,H p=none->ae H H2->Is H2 (.l xs) (.ref p)->Q (.ref p) H2):=
 m4.imp λvs H Q Pm=>by
  have{v,xs,ev,hx,q}:=Pm;subst ev;rcases hx with hx|hx
  .have{a,ws,0,ha,ra}:=aD hx;show{a,ws,0,.inl (SqL.of ha),λp np=>q p _ np (ae.new np) (aA ak (ra.mono (ae.new np)))}
  .have{a,ws,0,ha,ra}:=bu hx;show{a,ws,0,.inr (SqT.of ha),λp np=>q p _ np (ae.new np) (aA ak (ra.mono (ae.new np)))}
theorem fK:bP X (.type "tuple") (λvs H Q=>∃v xs,vs=[v]/\Is H (.l xs) v/\∀p H2,H p=none->ae H H2->Is H2 (.t xs) (.ref p)->Q (.ref p) H2):=
 E6.imp λvs H Q Pm=>by
  have{v,xs,ev,hx,q}:=Pm;subst ev;have{a,ws,0,ha,ra}:=aD hx;show{a,ws,0,.inl {SqL.of ha,λp np=>q p _ np (ae.new np) (bt ak (ra.mono (ae.new np)))}}
def gF{α:Type}{xs:Sk α}{i:Int}{j:Nat}{x:α}(e:i=j)(h:xs[j]? =some x):atI xs i=some x:=by rw[e];show jd h
def Iss.atI{H:Hp}{xs:Sk D}{vs:Sk V}{i:Int}{x:D}(h:Iss H xs vs)(e:L2.atI xs i=some x):∃u,L2.atI vs i=some u/\Is H x u:=by
 unfold L2.atI at e⊢;rw[h.length];cases q:ixN xs.length i with
 |none=>rw[q] at e;cases e
 |some j=>
  rw[q] at e;have{u,e1,k}:=h.get (j:=j) e;show{u,e1,k}
def fh:IxR X (λx y H Q=>∃xs i d,Is H (.l xs) x/\y=.int i/\atI xs i=some d/\∀u,Is H d u->Q u H):=by
 intro value Nt M6 s σ H x y v u Q I rx ry h hs;have{xs,i,d,hx,ey,e,q}:=h;have{a,vs,0,ha,ra}:=aD hx;have{z,ez,hz}:=ra.atI e;show de value Nt M6 s σ H (.ref a) y v u Q I rx ry {a,vs,i,z,0,ey,SqL.of ha,ez,q z hz} hs
def aO:IxR X (λx y H Q=>∃xs i d,Is H (.t xs) x/\y=.int i/\atI xs i=some d/\∀u,Is H d u->Q u H):=by
 intro value Nt M6 s σ H x y v u Q I rx ry h hs;have{xs,i,d,hx,ey,e,q}:=h;have{a,vs,0,ha,ra}:=bu hx;have{z,ez,hz}:=ra.atI e;show bA value Nt M6 s σ H (.ref a) y v u Q I rx ry {a,vs,i,z,0,ey,SqT.of ha,ez,q z hz} hs
theorem nz:bP X (.builtin "len") (λvs H Q=>∃v xs,vs=[v]/\(Is H (.l xs) v\/Is H (.t xs) v)/\Q (.int xs.length) H):=
 dw.imp λvs H Q Pm=>by
  have{v,xs,ev,hx,q}:=Pm;subst ev;rcases hx with hx|hx
  .have{a,ws,0,ha,ra}:=aD hx;show{a,ws,0,.inl (SqL.of ha),by rw[ra.length];show q}
  .have{a,ws,0,ha,ra}:=bu hx;show{a,ws,0,.inr (SqT.of ha),by rw[ra.length];show q}
end
section
variable{X:Cx}{pos np Nh:Pos}{x:Str}{C:Se}{E:XK}{e:Sl}{es:Sk Sl}{t:TA}
abbrev bmV:Sk PP:=[.type "ValueError",.type "Exception",.type "BaseException",.type "object"]
end
end L2
namespace L2
open PySem PySem.Calls PyProof.Rows PySem.W Builtin Builtin.ObjectAttr Builtin.Getset_descriptor
structure XC(K:Frag)(C:Se):Prop where
 cl:(clsIn K C).isSome=true
 ga:findIn K (.ref C) "__getattribute__"=some (some (.builtin "BaseException.__getattribute__"))
 gt:findIn K (.ref C) "__getattr__"=some none
 ca:findIn K (.ref C) "__class__"=some (some (.builtin "object.__class__"))
 gn:specialIn K (.builtin "object.__class__") "__get__"=some (some (.builtin "getset_descriptor.__get__"))
 tk:takesIn K (.builtin "object.__class__")=some true
 ob:mroIn K C (.type "object")=some true
 be:mroIn K C (.type "BaseException")=some true
end L2
namespace L2
open PySem PySem.Spec PyProof.Rows PySem.W
variable{H:Hp}{K:W.Frag}{hi:Int}{n:Nat}
def Itd(hi:Int)(n:Nat):It:={λi _=>i<n,λi H x H'=>H'=H/\x=.int (hi-i),λi _=>n<=i}
def Ge{P:Sf}{w:Si}{tg:Sl}(it:Se)(hi:Int)(n:Nat):Turn P w K tg (Itd hi n) [it] it (λi h=>IsRangeIter h it (hi+(i:Nat)*(-1)) ((n:Int)-(i:Nat)) (-1)) where
 mem:=by simp
 obj:=λi h st b hb=>by
  obtain rfl:b=it:=by simpa using hb
  show{_,st,λv z=>by cases (show Data.fields _=Data.cell v from z)}
 keep:=λi h h' st k=>k it (by simp) _ st
 item:=by
  intro X hP hw hK hc i M6 s σ H E I hf st hg;subst hP hw hK;have{f0,f1,f2,f3,f4,f5}:=hf it (by simp);show(Walks.range (prog:=X.prog) (w:=X.w) (I.ok.hd hc) it hi (-1) n).item i s _ _ hg st λv h' tk hv NP kk=>?_;have{t,0}:=hv;have I1:Inv X M6 σ H {s with heap:=h',toks:=tk}:=I.turned (λb o hb e=>kk b o (by simpa using hb) e) f0 f1 f3 f4 f5;show{1,go_of (s:={s with heap:=h',toks:=tk}) (n:="range_iterator") NP rfl rfl (by decide) {.int (hi-i),H,I1,{t,?_},{0,0},NP,λb hb=>(hf b hb).1}};rw[show hi+(i:Int)*(-1)=hi-i by lia]
 done:=by
  intro X hP hw hK hc i M6 s σ H E I hf st hg;subst hP hw hK;have{f0,f1,f2,f3,f4,f5}:=hf it (by simp);show wpAny_pyNext_range_end (I.ok.hd hc) st (by have:n<=i:=hg;lia) λh' eb=>{0,I.turned (t':=s.toks) (λb o hb e=>eb b o hb e) f0 f1 f3 f4 f5}
 self:=λ_ _ _ _ _ st h=>wpAny_pyIter_rangeiter st h
def tZ(a b:Int):Builtin.Range.rangeSize a b (-1)=if a>b then a-b else 0:=by
 unfold Builtin.Range.rangeSize;rw[A6 (by decide)];split
 .rw[show -(-1:Int)=1 by decide,Int.ediv_one];lia
 .rfl
def Gf{a b:Int}(ha: -(2^62)<=a)(ha':a<2^62)(hb: -(2^62)<=b)(PN:b<2^62):Builtin.Range.small a b (-1)=true:=by
 unfold Builtin.Range.small;rw[tZ];simp only[Builtin.Range.rangeFitsLong,A9,CA,AQ,D',show((-1:Int)>0)=False by simp,Au];split<;>lia
section
variable{X:Cx}{tg:Sl}
def Gg{M6:Sk (Se×Obj)}{σ:St}{s:Sc}{R:It->Hp->Prop}{E:PP->Sc->Prop}{lo:Int}{t u v:Tok}{tk:Nat}(I:Inv X M6 σ H s)(h1: -(2^62)<=hi)(h2:hi<2^62)(h3: -(2^62)<=lo)(h4:lo<2^62)
  (q:R (Itd hi (hi-lo).toNat) H):wpAny (model X.prog X.w) X.A (pyIter (.ref s.heap.objs.size)) (PIE X M6 σ tg R) E {s with heap:=s.heap.push {cls:= .type "range",data:= .fields #[.int hi t,.int lo u,.int (-1) v]},toks:=tk}:=by
 show wpAny_pyIter_range (IsRange.new ..) (Gf h1 h2 h3 h4) ?_;generalize hg:s.heap.push {cls:= .type "range",data:= .fields #[.int hi t,.int lo u,.int (-1) v]}=g;have I1:Inv X M6 σ H {s with heap:=g,toks:=tk}:=I.kept λb o e=>by rw[<-hg];show A4 _ e
 show{g.objs.size,[g.objs.size],_,_,H,0,I1.kept (t':=tk) λb o e=>A4 _ e,Ge _ hi (hi-lo).toNat,?_,λb hb=>?_,q}
 .have e1:hi+((0:Nat):Int)*(-1)=hi:=by simp
  have e2:(((hi-lo).toNat:Nat):Int)-((0:Nat):Int)=Builtin.Range.rangeSize hi lo (-1):=by rw[tZ];split<;>lia
  change IsRangeIter _ _ (hi+((0:Nat):Int)*(-1)) ((((hi-lo).toNat:Nat):Int)-((0:Nat):Int)) (-1);rw[e1,e2];show AJ _ rfl
 .obtain rfl:b=g.objs.size:=by simpa using hb
  show I1.fpOk (AB _) (I1.hok.fresh (AB _))
inductive iDown_(R:(It->Hp->Prop))(vs:List V)(H1:Hp):Prop
 |mk (i j:Int):vs=[.int i,.int j,.int (-1)]->(-(2^62)<=i/\i<2^62/\-(2^62)<=j/\j<2^62)->R (Itd i (i-j).toNat) H1->iDown_ R vs H1
def Gh(ta:TA):TI:=λσ H R=>ta σ H λvs H1=>iDown_ R vs H1
def Gi{a b c:Sl}{ta:TA}{p pos:Pos}(hg:Gl X "range")(hm:X.mg "range"=none)(ha:PA X [a,b,c] ta)(hs:starEach [a,b,c] X.env=(false,eval a X.env)::starEach [b,c] X.env:=by rfl)(hs2:(backTo pos (starEach [b,c] X.env)).any (·.1)=false:=by rfl):
  PI X tg (.Call (.Name "range" p) [a,b,c] [] pos) (Gh ta):=by
 intro M6 s σ H R I h;show Call_ (cR I hg hm boot_range (B7 (thn (ha pos M6 s σ H _ I h) λus s1 zu54=>?_) hs hs2));have{vs,H1,I1,r1,q1}:=zu54;have{i,j,e,{q1,q2,q3,q4},q}:=q1;subst e;cases r1 with
 |cons r rr=>
  cases rr with
  |cons r' rr=>
   cases rr with
   |cons r2 rr=>
    cases rr;have{t,0}:=r;have{t',0}:=r';have{t2,0}:=r2;show call_range_3 (by decide) (Gg I1 q1 q2 q3 q4 q) (.inl (PyProof.noPylong_small (by decide)))
end
def Gj{g:TG}{tb:TS}{D:Ends}{σ:St}(Pv:Nat->St->Hp->Prop)(h0:Pv 0 σ H)
  (hs:∀i σ H,i<n->Pv i σ H->g (.int (hi-i)) σ H λσ2 H2=>tb (eLp D (Pv (i+1))) σ2 H2) (hd:∀σ H,Pv n σ H->D.nx σ H):
  ∃Wq:Nat->Nat->St->Hp->Prop,(∃m,Wq 0 m σ H)/\∀i m σ H,Wq i m σ H->
   ((Itd hi n).stop i H/\D.nx σ H)\/((Itd hi n).go i H/\∃N:St->Hp->Prop,(∀σ' H',N σ' H'->∃m',m'<m/\Wq (i+1) m' σ' H')/\∀x H',(Itd hi n).yld i H x H'->g x σ H' λσ2 H2=>tb (eLp D (N)) σ2 H2):=by
 show{λi m σ H=>m=n-i/\i<=n/\Pv i σ H,{n,7,AW _,h0},?_};rintro i m σ H ⟨rfl,OW,p⟩;by_cases Nb:i<n
 .show .inr {Nb,Pv (i+1),λσ' H' p'=>{n-(i+1),4,0,Nb,p'},λx H' y=>?_};have{e,y}:=y;subst e y;show hs i σ _ Nb p
 .obtain rfl:i=n:=by lia
  show .inl {AB _,hd σ H p}
def Gk(H:Hp)(v:V):Prop:=(∃i,v=.int i)\/(∃b,v=.bl b)\/v=.non\/(∃x,v=.str x)\/(∃a xs,v=.ref a/\H a=some (.lst xs))\/(∃a xs,v=.ref a/\H a=some (.tup xs))
def isI(v:V):Bool:=match v with
 |.int _=>true
 |_=>false
def Within(lo hi:Int)(v:V):Prop:=∃i,v=.int i/\lo<=i/\i<=hi
theorem t4 :W.kitOne K (.type "NoneType") (.type "int")=some false:=ic (by ac_nf) (by ac_nf) (by ac_nf)
theorem ud :W.kitOne K (.type "str") (.type "int")=some false:=ic (by ac_nf) (by ac_nf) (by ac_nf)
theorem ue :W.kitOne K (.type "list") (.type "int")=some false:=ic (by ac_nf) (by ac_nf) (by ac_nf)
theorem uf :W.kitOne K (.type "tuple") (.type "int")=some false:=ic (by ac_nf) (by ac_nf) (by ac_nf)
inductive sp_whole(vs:List V)(H:Hp)(Q:VK)(E':XK):Prop
 |mk v:vs=[v]->Gk H v->Q (.bl (isI v)) H->sp_whole vs H Q E'
theorem Gm{ps:Sk Pt}{i:Int}{j:Nat}{p:Pt}(e:i=j)(h:ps[j]? =some p):atI (ps.map pt) i=some (pt p):=gF e (by rw[AC,h];rfl)
section
variable{X:Cx}{M6:Sk (Se×Obj)}{σ:St}{H:Hp}{s:Sc}{h':Sm}{ch:Sk Se}{t':Nat}
theorem cx.chs(hf:∀b∈ch,cx X M6 H b):∀b∈ch,(b∈X.ex\/X.s₀.heap.objs.size<=b)/\b≠X.env.locals/\(∀x c,X.env.cells.lookup x=some c->c≠b)/\∀p∈X.pn++M6,p.1≠b:=λb hb=>by
 have{_,a2,_,a4,a5,a6}:=hf b hb;show{a4,a2,a5,a6}
def Inv.turnAll(I:Inv X M6 σ H s)(hf:∀b∈ch,cx X M6 H b)(k:∀b o,b∉ch->s.heap.get? b=some o->h'.get? b=some o):Inv X M6 σ H {s with heap:=h',toks:=t'}:=by
 have nin:∀{b u},H b=some u->b∉ch:=λe z=>by rw[(hf _ z).1] at e;cases e
 show I.step (g':=s.gens) (d':=s.drawn) (ch:=ch) (cx.chs hf) (λb o _ _ c e _=>k b o c e) (λb o _ _ c e _=>{o.slots,k b o c e}) (λ_ _ _ _ n=>n) (λb o c e=>{o,k b o c e}) (λ_ _ e=>e) (λ_ _ _ e=>e) (λb ps e=>{#[],by rw[e];simp}) (λm hm=>?_) (λb u e=>?_) I.bare
 .have{o,es,ep,ho,r}:=hm;show{o,es,ep,k _ o (λz=>(hf _ z).2.1 rfl) ho,r}
 .show(I.hok b u e).stay (λc v hc q=>k c v ?_ q) (λ_ q=>q) λ_ _ q=>q;rcases hc with z|z
  .rw[z];show nin e
  .show nin z
def Inv.turnNew{o:HO}(I:Inv X M6 σ H s)(hf:∀b∈ch,cx X M6 H b)(k:∀b ob,b∉ch->s.heap.get? b=some ob->h'.get? b=some ob)(new:aG X.prog X.w (upd H s.heap.objs.size o) h' s.heap.objs.size o):
  Inv X M6 σ (upd H s.heap.objs.size o) {s with heap:=h',toks:=t'}:=by
 have nf:H s.heap.objs.size=none:=I.hok.fresh (AB _);have nin:∀{b u},H b=some u->b∉ch:=λe z=>by rw[(hf _ z).1] at e;cases e
 show I.step (g':=s.gens) (d':=s.drawn) (ch:=ch) (cx.chs hf) (λb o _ _ c e _=>k b o c e) (λb o _ _ c e _=>{o.slots,k b o c e}) (λb ob c e n=>?_) (λb o c e=>{o,k b o c e}) (λb ys e=>?_) (λb o u e=>?_) (λb ps e=>{#[],?_}) (λm hm=>?_) (λb u e=>?_) I.bare
 .rw[av (AU (AM e))];show n
 .rw[av (bi e nf)];show e
 .rw[av (bi e nf)];show e
 .rw[av (bi e nf),e];simp
 .have{o,es,ep,ho,r}:=hm;show{o,es,ep,k _ o (λz=>(hf _ z).2.1 rfl) ho,r}
 .by_cases hb:b=s.heap.objs.size
  .subst hb;rw[ak] at e;cases e;show new
  .rw[av hb] at e;show(I.hok b u e).stay (λc v hc q=>k c v ?_ q) (λc q=>?_) λc ys q=>?_
   .rcases hc with z|z
    .rw[z];show nin e
    .show nin z
   .rw[av (bi q nf)];show q
   .rw[av (bi q nf)];show q
end
def nA :gw 2 (gTup K 2 (gCons (cw 0) (gCons (cw 1) kB))):=by
 intro v σ H Q ⟨a,xs,e,hq,hl,x,r,ex,y,r2,er,en,q⟩;show{a,xs,e,hq,hl,x,r,ex,y,r2,er,en,q,?_,λi hi=>?_}
 .rw[C1,C1]
 .rw[Cb (by lia),Cb (by lia)]
theorem nB :∀(σ:St) (H:Hp) (R R':St->Hp->Prop) (x:V),(∀σ' H',R σ' H'->R' σ' H')->gTup K 2 (gCons (cw 0) (gCons (cw 1) kB)) x σ H R->gTup K 2 (gCons (cw 0) (gCons (cw 1) kB)) x σ H R':=
 λσ H R R' v k No=>by have{a,xs,e,hq,hl,x,r,ex,y,r2,er,en,q}:=No;show{a,xs,e,hq,hl,x,r,ex,y,r2,er,en,k _ _ q}
theorem nC{X:Cx}{es:Sk Sl}{k:Nat}{pos:Pos}{t:TGs}(hK:X.K=K)(hc:X.calm=true)(h:PGs X es t)
  (hn:(assignEach es X.env).length=n:=by rfl) (Os:(assignEach es X.env).findIdx? (·.1)=none:=by rfl):PG X (.Tuple es k pos) (gTup K n t):=hK▸bV hc h hn Os
end L2
namespace PySem.SeqAt
open AutoSeq1 (wpAny_loadPart')
open MeetsSeq MeetsSeq2 MeetsSeq3 SeqRoads2
def LtAt(A:Sj)(s:Sc)(y x:PP)(b:Bool):Prop:=
 ∀(prog:Sf) (w:Si) (E:PP->Sc->Prop) (Q:PP->Sc->Prop),Q (.bool b) s->wpAny (model prog w) A (richCompare .Lt y x) Q E s
def lex(e f:Nat->Bool)(m n:Nat):Nat->Nat->Bool
 |0,_=>decide (m<n)
 |k+1,i=>if e i=true then lex e f m n k (i+1) else f i
def Gn(l b:Se)(items M8:Array PP)(n n2:Nat)(dd OK:Sn Se)(sl OL:Array (Sn PP))(e f:Nat->Bool)(k:Nat):
  ∀i:Nat,min items.size M8.size-i=k->Meets (Builtin.«list.__eq__.loop» {[.ref l,.ref b,rawInt i,rawInt 0],[]})
   (λA R s=>s.heap.get? l=some {cls:= .type "list",dict:=dd,data:= .seq items n,slots:=sl}/\s.heap.get? b=some {cls:= .type "list",dict:=OK,data:= .seq M8 n2,slots:=OL}/\
    (∀j (h1:j<items.size) (h2:j<M8.size),EqAt A.in1 s items[j] M8[j] (e j))/\(∀j (h1:j<items.size) (h2:j<M8.size),e j=false->LtAt A.in1 s items[j] M8[j] (f j))/\
    R (.ok (.ret (.bool (lex e f items.size M8.size k i)))) s):=by
 induction k with
 |zero=>
  intro i hk prog w A R s h;have{hp,g,d,tk,os}:=s;have{hl,hb,he,hf,h}:=h
  wp_walk using wpAny_loadPart' hl,CY hb
  rcases(by lia:items.size<=i\/(i<items.size/\M8.size<=i)) with q|⟨q1,q2⟩
  .have hi1:items[((i:Nat):Int).toNat]? =none:=by simp;lia
   rw[hi1]
   wp_walk using wpAny_loadPart' hl,CY hb
   show h
  .have hi1:items[((i:Nat):Int).toNat]? =some items[i]:=by simp[q1]
   have OP:M8[((i:Nat):Int).toNat]? =none:=by simp;lia
   rw[hi1,OP]
   wp_walk using wpAny_loadPart' hl,CY hb
   show h
 |succ k ih=>
  intro i hk prog w A R s h;have{hp,g,d,tk,os}:=s;have{hl,hb,he,hf,h}:=h
  wp_walk using wpAny_loadPart' hl,CY hb
  have Nb:i<items.size:=by lia
  have NJ:i<M8.size:=by lia
  have hi1:items[((i:Nat):Int).toNat]? =some items[i]:=by simp[Nb]
  have OP:M8[((i:Nat):Int).toNat]? =some M8[i]:=by simp[NJ]
  have hc:((i:Int)+1)=((i+1:Nat):Int):=by push_cast;rfl
  unfold lex at h;rw[hi1,OP];show A0 (he i Nb NJ prog w _ _ ?_);cases PN:e i with
  |true=>
   rw[PN,A8 rfl] at h
   wp_walk
   rw[hc];show{D0 plain_eq_loop _,CI entry_eq_loop (by
    rw[C3 plain_eq_loop _];show ih (i+1) (by lia) prog w A R _ {hl,hb,he,hf,h})}
  |false=>
   rw[PN,A6 (by simp)] at h
   wp_walk using wpAny_loadPart' hl,CY hb
   rw[hi1,OP];show A0 (hf i Nb NJ PN prog w _ _ ?_)
   wp_walk
   show h
def ug(l b:Se)(items M8:Array PP)(n n2:Nat)(dd OK:Sn Se)(sl OL:Array (Sn PP))(e f:Nat->Bool):
  Meets (Builtin.«list.__lt__» {[.ref l,.ref b],[]})
   (λA R s=>s.heap.get? l=some {cls:= .type "list",dict:=dd,data:= .seq items n,slots:=sl}/\s.heap.get? b=some {cls:= .type "list",dict:=OK,data:= .seq M8 n2,slots:=OL}/\
    (∀j (h1:j<items.size) (h2:j<M8.size),EqAt A.in1 s items[j] M8[j] (e j))/\(∀j (h1:j<items.size) (h2:j<M8.size),e j=false->LtAt A.in1 s items[j] M8[j] (f j))/\
    R (.ok (.ret (.bool (lex e f items.size M8.size (min items.size M8.size) 0)))) s):=by
 intro prog w A R s h;have{hp,g,d,tk,os}:=s;have{hl,hb,he,hf,h}:=h;have f3:=AutoSeq1.sub_list_list
 wp_walk using wpAny_loadPart' hl,CY hb
 show{D0 plain_eq_loop _,CI entry_eq_loop (by
  rw[C3 plain_eq_loop _];show Gn l b items M8 n n2 dd OK sl OL e f _ 0 rfl prog w A R _ {hl,hb,he,hf,by simpa using h})}
theorem Go(l b:Se)(items M8:Array PP)(n n2:Nat)(dd OK:Sn Se)(sl OL:Array (Sn PP))(e f:Nat->Bool):
  Meets (Builtin.«tuple.__lt__» {[.ref l,.ref b],[]})
   (λA R s=>s.heap.get? l=some {cls:= .type "tuple",dict:=dd,data:= .seq items n,slots:=sl}/\s.heap.get? b=some {cls:= .type "tuple",dict:=OK,data:= .seq M8 n2,slots:=OL}/\
    (∀j (h1:j<items.size) (h2:j<M8.size),EqAt A.in1 s items[j] M8[j] (e j))/\(∀j (h1:j<items.size) (h2:j<M8.size),e j=false->LtAt A.in1 s items[j] M8[j] (f j))/\
    R (.ok (.ret (.bool (lex e f items.size M8.size (min items.size M8.size) 0)))) s):=
 .of_wp λprog w A R s h=>by
  have{hp,g,d,tk,os}:=s;have{hl,hb,he,hf,h}:=h;have f2:=AutoSeq1.sub_tuple_tuple;have hZ:(items.toList.zip M8.toList).length=min items.size M8.size:=by simp
  wp_walk using wpAny_loadPart' hl,CY hb,C9 _ (λaW b s'=>b.1=none/\s'={hp,g,d,tk,os}/\∃i,aW=(items.toList.zip M8.toList).drop i/\i<=min items.size M8.size/\
   R (.ok (.ret (.bool (lex e f items.size M8.size (min items.size M8.size-i) i)))) {hp,g,d,tk,os}) _
  case turn=>
   rintro⟨y,x⟩ aW b s' ⟨PN,rfl,i,hz,hile,hR⟩;have Nb:i<(items.toList.zip M8.toList).length:=by
    rcases Be i (items.toList.zip M8.toList).length with h'|h'
    .show h'
    .rw[CN h'] at hz;cases hz
   have hm:i<min items.size M8.size:=hZ▸Nb;have h1:i<items.size:=Aq hm (Nat.min_le_left _ _);have h2:i<M8.size:=Aq hm (Nat.min_le_right _ _);rw[As Nb] at hz;injection hz with hyx hrest;have hy:y=items[i]:=by have:=BB Prod.fst hyx;simpa using this
   have hx:x=M8[i]:=by have:=BB Prod.snd hyx;simpa using this
   subst hy hx;rw[show min items.size M8.size-i=(min items.size M8.size-(i+1))+1 by lia,lex] at hR;show A0 (he i h1 h2 prog w _ _ ?_);cases hy:e i with
   |true=>
    rw[hy,A8 rfl] at hR
    wp_walk
    show{0,0,i+1,hrest,4,hR}
   |false=>
    rw[hy,A6 (by simp)] at hR;rw[A8 (show(!false)=true from rfl)];show A0 (CD ?_);show A0 (hf i h1 h2 hy prog w _ _ ?_)
    wp_walk
    show{1,hR}
  case fin=>
   rintro⟨b1,b2⟩ s' ⟨PN,rfl,i,hz,hile,hR⟩;simp only at PN;subst PN;have hi:i=min items.size M8.size:=by
    rcases Be i (items.toList.zip M8.toList).length with h'|h'
    .rw[As h'] at hz;cases hz
    .lia
   subst hi;rw[Nat.sub_self] at hR
   wp_walk
   show{1,hR}
  case h=>
   show{0,0,(0),0,AW _,by simpa using h}
section
variable{A:Sj}{s:Sc}
def LtAt.int_int(i:Int)(t:Tok)(j:Int)(u:Tok):LtAt A s (.int i t) (.int j u) (decide (i<j)):=λprog w E Q h=>wpAny_lt_int h
theorem LtAt.lists{l b:Se}{items M8:Array PP}{e f:Nat->Bool}(hl:s.heap.IsList l items)(hb:s.heap.IsList b M8)(hu:A.units<cLine)
  (he:∀j (h1:j<items.size) (h2:j<M8.size),EqAt A.in1 s items[j] M8[j] (e j)) (hf:∀j (h1:j<items.size) (h2:j<M8.size),e j=false->LtAt A.in1 s items[j] M8[j] (f j)):
  LtAt A s (.ref l) (.ref b) (lex e f items.size M8.size (min items.size M8.size) 0):=λprog w E Q h=>by
 have{{cls,dd,data,sl},ho,hc,n,hd}:=id hl;have{{Qp,OK,data2,OL},NW,Ou,n2,Om}:=id hb;simp only at hc hd Ou Om;subst hc hd Ou Om;show richCompare_meets_room (op:= .Lt) {_,ho,0} {_,NW,0} F.slot_list_lt F.entry_list_lt (F.args_list_lt_2 _ _) (ug l b items M8 n n2 dd OK sl OL e f)
  {ho,NW,he,hf,show Value.bool (lex e f items.size M8.size (min items.size M8.size) 0)≠Value.notImplemented/\Q (.bool (lex e f items.size M8.size (min items.size M8.size) 0)) s from{(λx=>nomatch x),h}} hu
theorem LtAt.tuples{l b:Se}{items M8:Array PP}{e f:Nat->Bool}(hl:s.heap.IsTuple l items)(hb:s.heap.IsTuple b M8)(hu:A.units<cLine)
  (he:∀j (h1:j<items.size) (h2:j<M8.size),EqAt A.in1 s items[j] M8[j] (e j)) (hf:∀j (h1:j<items.size) (h2:j<M8.size),e j=false->LtAt A.in1 s items[j] M8[j] (f j)):
  LtAt A s (.ref l) (.ref b) (lex e f items.size M8.size (min items.size M8.size) 0):=λprog w E Q h=>by
 have{{cls,dd,data,sl},ho,hc,n,hd}:=id hl;have{{Qp,OK,data2,OL},NW,Ou,n2,Om}:=id hb;simp only at hc hd Ou Om;subst hc hd Ou Om;show richCompare_meets_room (op:= .Lt) {_,ho,0} {_,NW,0} F.slot_tuple_lt F.entry_tuple_lt (F.args_tuple_lt_2 _ _) (Go l b items M8 n n2 dd OK sl OL e f)
  {ho,NW,he,hf,show Value.bool (lex e f items.size M8.size (min items.size M8.size) 0)≠Value.notImplemented/\Q (.bool (lex e f items.size M8.size (min items.size M8.size) 0)) s from{(λx=>nomatch x),h}} hu
def key_lists{prog:Sf}{w:Si}{E:PP->Sc->Prop}{l b:Se}{items M8:Array PP}{e f:Nat->Bool}{Q:Bool->Sc->Prop}(hl:s.heap.IsList l items)(hb:s.heap.IsList b M8)(hu:A.units<cLine)
  (he:∀j (h1:j<items.size) (h2:j<M8.size),EqAt A.in1 s items[j] M8[j] (e j)) (hf:∀j (h1:j<items.size) (h2:j<M8.size),e j=false->LtAt A.in1 s items[j] M8[j] (f j))
  (h:Q (lex e f items.size M8.size (min items.size M8.size) 0) s):wpAny (model prog w) A (PyProof.Rows.keyLt' PyProof.Rows.oneType' (.ref l) (.ref b)) Q E s:=by
 rw[PyProof.Rows.keyLt'_oneType,PyProof.Rows.oneLt'_eq];simp only[CF];show A0 (wpAny_cRoomFor hu ?_);have{{cls,dd,data,sl},ho,hc,n,hd}:=id hl;have{{Qp,OK,data2,OL},NW,Ou,n2,Om}:=id hb;simp only at hc hd Ou Om;subst hc hd Ou Om;show A0 (wpAny_callSpecialIfBound?_slot (T:="list") {_,ho,0} F.slot_list_lt (Dc F.slot_list_lt {_,ho,0} F.entry_list_lt (F.args_list_lt_2 _ _) (ug l b items M8 n n2 dd OK sl OL e f) {ho,NW,he,hf,?_}));show Bo h
end
end PySem.SeqAt
namespace L2
open PySem PySem.Spec PyProof.Rows
variable{A:Sj}{E:PP->Sc->Prop}{H:Hp}{Q:Bool->Sc->Prop}{a b:Se}{p:Array Nat}{prog:Sf}{q:Sk Pt}{v:V}{vs:Sk PP}{w:Si}{xs:Sk Int}
inductive LtR(K:W.Frag)(H:Hp):Nat->V->V->Bool->Prop where
 |int (d:Nat) (i j:Int):LtR K H d (.int i) (.int j) (decide (i<j))
 |lists {d:Nat}{a b:Addr}{xs ys:List V} (es fs:Nat->Bool) (h1:SqL K H a xs) (h2:SqL K H b ys) (he:∀(j:Nat) x y,xs[j]? =some x->ys[j]? =some y->EqR K H d x y (es j)) (hf:∀(j:Nat) x y,xs[j]? =some x->ys[j]? =some y->es j=false->LtR K H d x y (fs j)):
  LtR K H (d+1) (.ref a) (.ref b) (SeqAt.lex es fs xs.length ys.length (min xs.length ys.length) 0)
 |tuples {d:Nat}{a b:Addr}{xs ys:List V} (es fs:Nat->Bool) (h1:SqT K H a xs) (h2:SqT K H b ys) (he:∀(j:Nat) x y,xs[j]? =some x->ys[j]? =some y->EqR K H d x y (es j)) (hf:∀(j:Nat) x y,xs[j]? =some x->ys[j]? =some y->es j=false->LtR K H d x y (fs j)):
  LtR K H (d+1) (.ref a) (.ref b) (SeqAt.lex es fs xs.length ys.length (min xs.length ys.length) 0)
section
variable{X:Cx}{M6:Sk (Se×Obj)}{σ:St}{H:Hp}{s:Sc}
def dA{xs:Sk V}{is:Sk PP}{j:Nat}(r:au xs is)(q:j<is.toArray.size):∃x,xs[j]? =some x/\aw x is.toArray[j]:=by
 have l:=r.length;have q':j<is.length:=by simpa using q
 have hx:xs[j]? =some xs[j]:=A2 (by lia);have{u,e,ru}:=r.get hx;show{_,hx,?_};have g:is.toArray[j]=u:=by
  rw[A2 q'] at e;simpa using Option.some.inj e
 rw[g];show ru
def LtR.bN(I:Inv X M6 σ H s){d:Nat}{x y:V}{b:Bool}(h:LtR X.K H d x y b):∀{A:Sj}{u v:PP},A.units+d<cLine->aw x u->aw y v->SeqAt.LtAt A s u v b:=by
 induction h with
 |int d i j=>
  intro A u v hu ru rv;have{t,0}:=ru;have{t',0}:=rv;show SeqAt.LtAt.int_int i t j t'
 | @lists d a b xs ys es fs h1 h2 he hf ih=>
  intro A u v hu ru rv;obtain rfl:u=Value.ref a:=ru;obtain rfl:v=Value.ref b:=rv;have{is,r1,p1,z1}:=I.list h1;have{js,r2,p2,z2}:=I.list h2;have l1:xs.length=is.toArray.size:=by have:=r1.length;simpa using this
  have l2:ys.length=js.toArray.size:=by have:=r2.length;simpa using this
  rw[l1,l2];show SeqAt.LtAt.lists p1.isList p2.isList (by lia) (λj q1 q2=>?_) (λj q1 q2 z=>?_)
  .have{x,hx,rx}:=dA r1 q1;have{y,hy,ry}:=dA r2 q2;show((he j _ _ hx hy).bN I (by rw[cJ];lia) rx ry).2.2
  .have{x,hx,rx}:=dA r1 q1;have{y,hy,ry}:=dA r2 q2;show ih j _ _ hx hy z (by rw[cJ];lia) rx ry
 | @tuples d a b xs ys es fs h1 h2 he hf ih=>
  intro A u v hu ru rv;obtain rfl:u=Value.ref a:=ru;obtain rfl:v=Value.ref b:=rv;have{is,r1,p1,z1}:=I.tuple h1;have{js,r2,p2,z2}:=I.tuple h2;have l1:xs.length=is.toArray.size:=by have:=r1.length;simpa using this
  have l2:ys.length=js.toArray.size:=by have:=r2.length;simpa using this
  rw[l1,l2];show SeqAt.LtAt.tuples (show s.heap.IsTuple a is.toArray from p1) (show s.heap.IsTuple b js.toArray from p2) (by lia) (λj q1 q2=>?_) (λj q1 q2 z=>?_)
  .have{x,hx,rx}:=dA r1 q1;have{y,hy,ry}:=dA r2 q2;show((he j _ _ hx hy).bN I (by rw[cJ];lia) rx ry).2.2
  .have{x,hx,rx}:=dA r1 q1;have{y,hy,ry}:=dA r2 q2;show ih j _ _ hx hy z (by rw[cJ];lia) rx ry
def LtR.key(I:Inv X M6 σ H s){d:Nat}{xs ys:Sk V}{es fs:Nat->Bool}(h1:SqL X.K H a xs)(h2:SqL X.K H b ys)(he:∀(j:Nat) x y,xs[j]? =some x->ys[j]? =some y->EqR X.K H d x y (es j))(hf:∀(j:Nat) x y,xs[j]? =some x->ys[j]? =some y->es j=false->LtR X.K H d x y (fs j))
  (hu:A.units+(d+1)<cLine) (q:Q (SeqAt.lex es fs xs.length ys.length (min xs.length ys.length) 0) s):
  wpAny (model prog w) A (keyLt' oneType' (.ref a) (.ref b)) Q E s:=by
 have{is,r1,p1,z1}:=I.list h1;have{js,r2,p2,z2}:=I.list h2;have l1:xs.length=is.toArray.size:=by have:=r1.length;simpa using this
 have l2:ys.length=js.toArray.size:=by have:=r2.length;simpa using this
 rw[l1,l2] at q;show SeqAt.key_lists p1.isList p2.isList (by lia) (λj q1 q2=>?_) (λj q1 q2 z=>?_) q
 .have{x,hx,rx}:=dA r1 q1;have{y,hy,ry}:=dA r2 q2;show((he j _ _ hx hy).bN I (by rw[cJ];lia) rx ry).2.2
 .have{x,hx,rx}:=dA r1 q1;have{y,hy,ry}:=dA r2 q2;show(hf j _ _ hx hy z).bN I (by rw[cJ];lia) rx ry
end
def jw(ns:Sk Int):Int:=ns.getD (argBest (λi j=>decide (ns.getD i 0<ns.getD j 0)) (ns.length-1)) 0
section
variable{X:Cx}
def uh{ys:Array (Int×Tok)}{ns:Sk Int}(h:ys.toList.map (·.1)=ns)(i:Nat):numAt ys i=ns.getD i 0:=by
 subst h;unfold numAt;rw[List.getD,AC,BU]
def Gp(hc:X.calm=true):bP X (.builtin "min") (λxs H Q=>∃(p:Se) (ns:Sk Int),xs=[.ref p]/\SqL X.K H p (ns.map V.int)/\0<ns.length/\Q (.int (jw ns)) H):=by
 intro M6 s σ H xs us Q I r h;have{p,ns,0,hq,h0,q}:=h;have{u,0,rx}:=c8 r;cases rx;have{M9,r',pl,hz}:=I.list hq;have hi:IntsAre M9 ns:=m3 r';have{ys,e}:=hi.allInts.items;have n1:=hi.numsOf;rw[show M9=M9.toArray.toList from rfl,e,nums_intItems] at n1;have hsz:ys.size=ns.length:=by rw[<-n1];simp
 have hl:=pl.isList;rw[e] at hl;show min_intList (I.ok.hd hc) hl (by lia) λv h' tk hv hk=>?_;have{t,0}:=intItems_at hv;show{.int (jw ns),H,I.kept hk,{t,?_},q};unfold jw;rw[uh n1,hsz];simp only[uh n1]
inductive ipM(x:V)(y:V)(H:Hp)(Q:VK):Prop
 |mk i j:x=.int i->y=.int j->kI i j->Q (.int (i*j)) H->ipM x y H Q
def nD:PIp X .Mult ipM:=by
 intro M6 s σ H x y v u Q I r1 r2 h;have{i,j,e1,e2,c,q}:=h;subst e1;subst e2;have{t,0}:=r1;have{t',0}:=r2;show imul_int {.int _,H,I.tok _,{1},q} c.ok
end
def tI(xs:Sk Int):D:= .t (xs.map .i)
theorem ig{H:Hp}:∀{xs:Sk Int}{vs:Sk V},Iss H (xs.map .i) vs->vs=xs.map V.int
 |[],vs,h=>h
 |x::xs,vs,h=>by
  have{u,us,0,h1,h2}:=h;rw[aB h1,ig h2];rfl
theorem cW{H:Hp}:∀(xs:Sk Int),Iss H (xs.map .i) (xs.map V.int)
 |[]=>rfl
 |x::xs=>{3,bj,cW xs}
def bK(h:Is H (tI xs) v):∃a,v=.ref a/\H a=some (.tup (xs.map V.int)):=by
 have{a,vs,0,ha,hi}:=bu h;rw[ig hi] at ha;show{a,0,ha}
def eD(h:H a=some (.tup (xs.map V.int))):Is H (tI xs) (.ref a):=bt h (cW xs)
open PySem.W
section
variable{n:Nat}
def Ord(n:Nat)(p:Array Nat):Prop:=p.Perm (List.range n).toArray
def Ord.size{p:Array Nat}(h:Ord n p):p.size=n:=by
 have:=(Ce.mp h).length_eq;simpa using this
def Ord.lt(h:Ord n p){i:Nat}(hi:i∈p.toList):i<n:=by
 have:=(Ce.mp h).mem_iff.mp hi;simpa using this
theorem Ord.bubble{p:Array Nat}(h:Ord n p)(i j:Nat):Ord n (PyProof.Rows.bubble p i j):=(bubble_perm p i j).trans h
def Ord.kas(h:Ord n p)(i j:Nat):Ord n (kas_rev p i j):=(mirror_perm p i j _).trans h
def Ord.getD{p:Array Nat}(h:Ord n p)(hn:0<n)(i:Nat):p.getD i 0<n:=by
 by_cases hi:i<p.size
 .have e:p.getD i 0=p[i]:=by simp[Array.getD,hi]
  rw[e];show h.lt (by simp)
 .have e:p.getD i 0=0:=by simp[Array.getD,hi]
  rw[e];show hn
variable(hn:0<n)
include hn
end
section
variable{prog:Sf}{w:Si}{A:Sj}{E:PP->Sc->Prop}{s:Sc}
def fj(vs:Sk PP)(i:Nat):Keyed:=(vs.getD i .none,vs.getD i .none)
abbrev bS(h:Sm)(a:Se)(vs:Sk PP):Sm:=((h.update a (Obj.mapSeq λ_=>(#[]:Array PP))).push (seqObj "tuple" vs.toArray 0)).push (seqObj "list" #[] 0)
def Gq(vs:Sk PP):(List.toArray (List.range vs.length)).map (fj vs)=vs.toArray.zip vs.toArray:=by
 show Array.ext (by simp) λi h1 h2=>?_;have hi:i<vs.length:=by simpa using h1
 simp[fj,hi]
abbrev jx(h:Sm)(vs:Sk PP):Sm:=bS (((h.push (seqObj "list" #[] 0)).update h.objs.size (Obj.mapSeq (· ++vs.toArray))).push (seqObj "list" vs.toArray 0)) (h.objs.size+1) vs
def Gr{h:Sm}{o:Obj}(hb:h.get? b=some o):(jx h vs).get? b=some o:=by
 have Nb:b<h.objs.size:=AM hb;have sz:(((h.push (seqObj "list" #[] 0)).update h.objs.size (Obj.mapSeq (· ++vs.toArray))).push (seqObj "list" vs.toArray 0)).objs.size=h.objs.size+2:=by rw[C',BI,C']
 have n0:b≠h.objs.size:=AU Nb;have n1:b≠h.objs.size+1:=AU (Am Nb);have n2:b≠h.objs.size+2:=AU (Am (Am Nb));have n3:b≠h.objs.size+2+1:=AU (Am (Am (Am Nb)));rw[BJ _ _ _ (by rw[C',BI,sz];show n3),BJ _ _ _ (by rw[BI,sz];show n2),Dh _ _ _ _ n1,
  BJ _ _ _ (by rw[BI,C'];show n1),Dh _ _ _ _ n0,BJ _ _ _ n0]
 show hb
end
section
variable{prog:Sf}{w:Si}{A:Sj}{E:PP->Sc->Prop}{s:Sc}
def ui{n:Nat}{P:PySem.Fin->Sc->Prop}(ho:s.heap.get? a=some (seqObj "list" vs.toArray n))(h2:vs.length<2)
  (h:P (.done (.ret .none)) {s with heap:=sortedHeap s.heap a vs vs.toArray}):wpAny (model prog w) A (Builtin.«list.sort» {[.ref a],[]}) P E s:=by
 rw[list_sort_plain];have ha:a<s.heap.objs.size:=AM ho;show A0 (listItems_at ho rfl ?_);show A0 (Dj ho rfl ?_ (by rw[AH,B1];lia) (AW _));obtain⟨e1,NX⟩:∃e1,(s.heap.update a (Obj.mapSeq λ_=>(#[]:Array PP))).get? a=some (seqObj "list" #[] e1):={_,DR ho (λ_=> #[])};show A0 (seqEpoch_at NX rfl ?_);show A0 (wpAny_newTuple ?_ (by change vs.length<=_;rw[B1];lia));show A0 (wpAny_newList ?_ (AW _));show B2 ?_;have Qs:(bS s.heap a vs).get? a=some (seqObj "list" #[] e1):=by
  rw[BJ _ _ _ (by rw[C',BI];show AU (Am ha)),BJ _ _ _ (by rw[BI];show AU ha)];show NX
 change wpAny (model prog w) A _ P E {s with heap:=bS s.heap a vs};dsimp only;have Rl:vs.toArray.size<2:=by rw[AH];lia
 rw[A8 Rl,A8 Rl];show A0 (A3 ?_);rw[StateT.run_pure];show A0 (A3 ?_);dsimp only;have eo:(vs.toArray.zip vs.toArray).map (·.2)=vs.toArray:=by
  show Array.ext (by simp) λi h1 h2=>?_;simp
 show A0 (seqEpoch_at Qs rfl ?_);rw[eo];show A0 (Dj Qs rfl ?_ (AW _) (by rw[AH,B1];lia));simp only[bne_self_eq_false,AN,Au];show A3 h
def Gs{l:Se}{Q:PP->Sc->Prop}(hl:s.heap.IsList l vs.toArray)(h2:vs.length<2)
  (h:Q (.ref (s.heap.objs.size+1)) {s with heap:=sortedAll s.heap vs vs.toArray}):wpAny (model prog w) A (call (.builtin "sorted") [.ref l]) Q E s:=by
 show Calls.call_function_entry kind_sorted plain_sorted entry_sorted (args_sorted1 _) ?_;unfold Builtin.«sorted»;show A0 (m:=checkCount "sorted" 1 1 _) (A3 ?_);show A0 (collect_list hl ?_ (by rw[B1];lia));show A0 (wpAny_newList ?_ (by rw[B1];lia));have hsz:((s.heap.push (seqObj "list" #[] 0)).update s.heap.objs.size (Obj.mapSeq (· ++vs.toArray))).objs.size=s.heap.objs.size+1:=by
  rw[BI,C']
 have Rc:(((s.heap.push (seqObj "list" #[] 0)).update s.heap.objs.size (Obj.mapSeq (· ++vs.toArray))).push (seqObj "list" vs.toArray 0)).get? (s.heap.objs.size+1)=some (seqObj "list" vs.toArray 0):=by
  rw[<-hsz];show AJ _ rfl
 change wpAny _ _ _ _ _ {s with heap:=((s.heap.push (seqObj "list" #[] 0)).update s.heap.objs.size (Obj.mapSeq (· ++vs.toArray))).push (seqObj "list" vs.toArray 0)};rw[hsz];show A0 (B2 (Al slot_list_sort {_,Rc,0} entry_list_sort (ui (s:={s with heap:=((s.heap.push (seqObj "list" #[] 0)).update s.heap.objs.size (Obj.mapSeq (· ++vs.toArray))).push (seqObj "list" vs.toArray 0)}) Rc h2 {1,?_}) (args_list_sort _)));show A3 {1,h}
end
section
variable{X:Cx}
theorem nE{rs:Sk V}{M9:Sk PP}(r:au rs M9):∀(l:Sk Nat),(∀i∈l,i<rs.length)->au (l.map λi=>rs.getD i .non) (l.map λi=>M9.getD i .none)
 |[],_=>.nil
 |i::l,h=>by
  have hi:i<rs.length:=h i (by simp);have e:rs[i]? =some rs[i]:=A2 hi;have{u,hu,ru}:=r.get e;rw[AK,AK];show .cons ?_ (nE r l λj hj=>h j (by simp[hj]));rw[List.getD,List.getD,e,hu];show ru
end
def cz(fin:Bool):Sk Int->Sk Int->Bool
 |x::xs,y::ys=>if x=y then cz fin xs ys else decide (x<y)
 |_,_=>fin
def ltI(xs ys:Sk Int):Bool:=cz (decide (xs.length<ys.length)) xs ys
section
variable{prog:Sf}{w:Si}{A:Sj}{E:PP->Sc->Prop}{s:Sc}
theorem uj{fin:Bool}{Q:Bool->Sc->Prop}:∀{xs ys:Sk Int}{is js:Sk PP} (i:Nat),au (xs.map V.int) is->au (ys.map V.int) js->Q (cz fin xs ys) s->KatLex prog w A true fin Q (is.zip js) i s
 |[],ys,is,js,i,h1,h2,q=>by
  cases h1;rw[List.zip_nil_left];show kat_nil (by cases ys<;>show q)
 |x::xs,[],is,js,i,h1,h2,q=>by
  cases h2;rw[List.zip_nil_right];show kat_nil q
 |x::xs,y::ys,is,js,i,h1,h2,q=>by
  cases h1 with
  |cons r1 h1=>
  cases h2 with
  |cons r2 h2=>
  have{t,0}:=r1;have{t',0}:=r2;rw[List.zip_cons_cons];show kat_cons ?_;show wpAny_eqBool_int ?_;unfold cz at q;by_cases e:x=y
  .rw[A8 e] at q;rw[show(x==y)=true by simp[e]];show kat_yes (uj (i+1) h1 h2 q)
  .rw[A6 e] at q;rw[show(x==y)=false by simp[e]];show kat_no ?_;cases hb:(true&&i==0) with
   |true=>show oneLt_int q
   |false=>show kat_one _ _ (SeqAt.LtAt.int_int x t y t' prog w _ _ q)
end
def Gu(xss:Sk (Sk Int)):(List.range xss.length).map (λi=>xss.getD i [])=xss:=by
 show DD (by simp) λi h1 h2=>?_;simp[List.getD,h2]
theorem uk{H:Hp}{xss:Sk (Sk Int)}{rs:Sk V}(h:Iss H (xss.map tI) rs):∀(l:Sk Nat),(∀i∈l,i<xss.length)->Iss H ((l.map λi=>xss.getD i []).map tI) (l.map λi=>rs.getD i .non)
 |[],_=>rfl
 |i::l,hl=>by
  have hi:i<xss.length:=hl i (by simp);have hr:i<rs.length:=by rw[h.length,A1];show hi
  show{3,?_,uk h l λj hj=>hl j (by simp[hj])};have{d,hd,h1}:=h.of_get (A2 hr);rw[AC,A2 hi] at hd;cases hd;change Is H (tI (xss.getD i [])) (rs.getD i .non);rw[A5,A5,A2 hi,A2 hr];show h1
section
variable{X:Cx}{M6:Sk (Se×Obj)}{σ:St}{H:Hp}{s:Sc}
theorem um(I:Inv X M6 σ H s):∀{xss:Sk (Sk Int)}{rs:Sk V}{M9:Sk PP},Iss H (xss.map tI) rs->au rs M9->(∀xs∈xss,xs≠[])->∃fs:Sk PP,KatTups s.heap M9 fs/\fs.length=M9.length/\∀f∈fs,∃z t,f=Value.int z t
 |[],rs,M9,h,r,_=>by
  obtain rfl:rs=[]:=h;cases r;show{[],KatTups.nil,0,λ_ h=>nomatch h}
 |xs::xss,rs,M9,h,r,NC=>by
  have{u,us,0,h1,h2}:=h;cases r with
  |cons r1 r2=>
  rename_i v M9;have{fs,k1,k2,k3}:=um I h2 r2 λys hy=>NC ys (by simp[hy]);have{a,0,ha}:=bK h1;obtain rfl:v=Value.ref a:=r1;have{is,q1,q2,q3}:=I.tuple (SqT.of (K:=X.K) ha);have{o,ho,hc,n,hd}:=(show s.heap.IsTuple a is.toArray from q2)
  match xs,NC xs (by simp) with
  |x::PQ,_=>
  cases q1 with
  |cons q0 q1=>
  have{t,0}:=q0;show{.int x t::fs,KatTups.cons ho hc hd (by simp) k1,by simp[k2],λf hf=>?_};rcases AI.mp hf with rfl|hf
  .show{3}
  .show k3 f hf
def Gv(I:Inv X M6 σ H s){ys:Sk Int}(h1:SqT X.K H a (xs.map V.int))(h2:SqT X.K H b (ys.map V.int))(q:Q (ltI xs ys) s):
  wpAny (model prog w) A (keyLt' (tuples' true) (.ref a) (.ref b)) Q E s:=by
 have{is,r1,p1,z1}:=I.tuple h1;have{js,r2,p2,z2}:=I.tuple h2;have{o1,NX,QT,n1,hd1}:=(show s.heap.IsTuple a is.toArray from p1);have{o2,NW,Ou,n2,Om}:=(show s.heap.IsTuple b js.toArray from p2);show kat_lt NX hd1 NW Om ?_;have l1:is.toArray.size=xs.length:=by have:=r1.length;simp at this⊢;lia
 have l2:js.toArray.size=ys.length:=by have:=r2.length;simp at this⊢;lia
 rw[l1,l2];show uj 0 r1 r2 q
end
def kX(v:PP)(k:Int):Bool:=match v with
 |.int i _=>decide (i=k)
 |_=>false
def fk:Sk DictEntry->Sk (Int×Int)->Bool
 |[],[]=>true
 |e::es,p::M7=>kX e.key p.1&&decide (e.hash=hashInt p.1)&&kX e.val p.2&&fk es M7
 |_,_=>false
def uo(o:Obj)(M7:Sk (Int×Int)):Bool:=match o.cls,o.dict,o.data with
 |.type c,none,.dict es _=>c=="dict"&&o.slots.isEmpty&&fk es.toList M7
 |_,_,_=>false
def ii(K:W.Frag)(a:Se)(M7:Sk (Int×Int)):Bool:=match K.lookup a with
 |some o=>uo o M7
 |none=>false
def uq{v:PP}{k:Int}(h:kX v k=true):∃t,v=.int k t:=by
 unfold kX at h;split at h
 .rename_i i t;show{t,by rw[B6 h]}
 .cases h
def ur{e:DictEntry}{es:Sk DictEntry}{p:Int×Int}{M7:Sk (Int×Int)}(h:fk (e::es) (p::M7)=true):(∃t,e.key=.int p.1 t)/\e.hash=hashInt p.1/\(∃t,e.val=.int p.2 t)/\fk es M7=true:=by
 unfold fk at h;rw[A9,A9,A9] at h;show{uq h.1.1.1,B6 h.1.1.2,uq h.1.2,h.2}
theorem ut:∀{es:Sk DictEntry}{M7:Sk (Int×Int)},fk es M7=true->∀e∈es,∃k,Value.isInt k e.key=true/\e.hash=hashInt k
 |[],_,_,e,he=>nomatch he
 |e::es,[],h,_,_=>by unfold fk at h;cases h
 |e::es,p::M7,h,e',he=>by
  have{{t,h1},h2,_,h4}:=ur h;rcases AI.mp he with rfl|he
  .show{p.1,by rw[h1];simp[Value.isInt],h2}
  .show ut h4 e' he
theorem uu{k v:Int}:∀{es:Sk DictEntry}{M7:Sk (Int×Int)},fk es M7=true->M7.lookup k=some v->∃t,(es.find? λe=>Value.isInt k e.key).map (·.val)=some (.int v t)
 |_,[],_,hv=>nomatch hv
 |[],p::M7,h,_=>by unfold fk at h;cases h
 |e::es,p::M7,h,hv=>by
  have{{t,h1},h2,{u,h3},h4}:=ur h;rw[CJ] at hv;rw[Bg];by_cases q:k=p.1
  .have b:(k==p.1)=true:=by simp[q]
   rw[b] at hv;have Rs:p.2=v:=Ao hv;have i:Value.isInt k e.key=true:=by rw[h1,q];simp[Value.isInt]
   rw[i];show{u,by rw[<-Rs,<-h3];rfl}
  .have b:(k==p.1)=false:=by simp[q]
   rw[b] at hv;have i:Value.isInt k e.key=false:=by rw[h1];simp[Value.isInt];show λz=>q z.symm
   rw[i];show uu h4 hv
inductive tDGetM_(K:W.Frag)(Q:VK)(x:V)(y:V)(H2:Hp):Prop
 |mk a M7 k v:x=.ref a->ii K a M7=true->y=.int k->M7.lookup k=some v->Q (.int v) H2->tDGetM_ K Q x y H2
def Gw(K:W.Frag)(td ty:TE):TE:=λσ H Q=>td σ H λx H1=>ty σ H1 λy H2=>tDGetM_ K Q x y H2
def uv{X:Cx}{o i:Sl}{pos:Pos}{td ty:TE}(ho:PE X o td)(hi:PE X i ty)(hs:hU i):PE X (.Subscript o i pos) (Gw X.K td ty):=by
 intro M6 s σ H Q I h;show m8 PySem.F.slot_dict_getitem.lookup hs (thn (ho M6 s σ H _ I h) λu s1 zu55=>?_);have{x,H1,I1,rx,q1}:=zu55;show thn (hi M6 s1 σ H1 _ I1 q1) λiv s2 zu56=>?_;have{y,H2,I2,ry,a,M7,k,v,ex,hd,ey,hv,q2}:=zu56;subst ex ey;obtain rfl:u=Value.ref a:=rx;have{t,0}:=ry;unfold ii at hd;split at hd
 .rename_i ob hob;have hg:=I2.kIn a ob hob;unfold uo at hd;split at hd
  .rename_i c es ep hc Oy OF;rw[A9,A9] at hd;have{{d1,d2},d3}:=hd;have hc':ob.cls=.type "dict":=by rw[hc,eq_of_beq d1]
   have{t',ht}:=uu d3 hv;have mp:s2.heap.MapOf (intKind X.prog X.w) a (findBy Value.isInt es):={ob,es,ep,hg,{hc',Oy,Array.isEmpty_iff.mp d2},OF,λe he=>ut d3 e (by simpa using he),λ_=>rfl};show{{ob,hg,hc'},wpAny_getItem_of (knd:=intKind X.prog X.w) (k:=k) (by simp[intKind,Value.isInt]) mp (v:= .int v t') ?_ {.int v,H2,I2.tok _,{1},q2}};change findBy Value.isInt es k=_;unfold findBy;obtain⟨l⟩:=es;simpa using ht
  .cases hd
 .cases hd
def Gx(K:W.Frag)(H:Hp)(n:Nat)(xs:Sk V)(x:V)(es:Nat->Bool):Prop:=n<=8/\(∀(j:Nat) z,xs[j]? =some z->(∃a,z=.ref a)/\EqR K H n z x (es j))/\∀(i j:Nat) z,xs[i]? =some z->xs[j]? =some z->es i=es j
section
variable{X:Cx}{M6:Sk (Se×Obj)}{σ:St}{H:Hp}{s:Sc}
open Classical in
noncomputable def fL(M9:Sk PP)(es:Nat->Bool)(u:PP):Bool:=decide (∃j:Nat,M9[j]? =some u/\es j=true)
end
def Ask(K:W.Frag)(H:Hp)(x y:V)(b:Bool):Prop:=∃(a1 a2:Se) (xs ys:Sk V) (d:Nat) (es fs:Nat->Bool),x=.ref a1/\y=.ref a2/\SqL K H a1 xs/\SqL K H a2 ys/\d<=4/\
 (∀(j:Nat) x y,xs[j]? =some x->ys[j]? =some y->EqR K H d x y (es j))/\(∀(j:Nat) x y,xs[j]? =some x->ys[j]? =some y->es j=false->LtR K H d x y (fs j))/\b=SeqAt.lex es fs xs.length ys.length (min xs.length ys.length) 0
def ij(p q:Pt):Bool:=decide (p.1<q.1)||(decide (p.1=q.1)&&decide (p.2<q.2))
def gG:Sk Pt->Sk Pt->Bool
 |_,[]=>false
 |[],_::_=>true
 |x::xs,y::ys=>if x=y then gG xs ys else ij x y
section
variable{K:W.Frag}{H:Hp}
def Gy{p q:Pt}{w:V}(h:Is H (pt p) v)(k:Is H (pt q) w):LtR K H 1 v w (ij p q):=by
 have{a,0,ha}:=kW h;have{b,0,hb}:=kW k;have e:=LtR.tuples (K:=K) (H:=H) (d:=0) (a:=a) (b:=b) (λj=>if j=0 then decide (p.1=q.1) else decide (p.2=q.2)) (λj=>if j=0 then decide (p.1<q.1) else decide (p.2<q.2)) (SqT.of ha) (SqT.of hb) (λj x y hx hy=>?_) (λj x y hx hy _=>?_)
 .have e2:SeqAt.lex (λj=>if j=0 then decide (p.1=q.1) else decide (p.2=q.2)) (λj=>if j=0 then decide (p.1<q.1) else decide (p.2<q.2)) 2 2 2 0=ij p q:=by
   unfold ij;by_cases e0:p.1=q.1
   .have n0:¬p.1<q.1:=by lia
    by_cases e1:p.2=q.2
    .have n1:¬p.2<q.2:=by lia
     simp[SeqAt.lex,e0,e1]
    .simp[SeqAt.lex,e0,e1]
   .simp[SeqAt.lex,e0]
  show e2▸e
 .match j,hx,hy with
  |0,hx,hy=>cases hx;cases hy;show EqR.int 0 _ _
  |1,hx,hy=>cases hx;cases hy;show EqR.int 0 _ _
  |j+2,hx,_=>simp at hx
 .match j,hx,hy with
  |0,hx,hy=>cases hx;cases hy;show LtR.int 0 _ _
  |1,hx,hy=>cases hx;cases hy;show LtR.int 0 _ _
  |j+2,hx,_=>simp at hx
theorem uw(p q:Sk Pt):∀(k i:Nat),min p.length q.length-i=k->i<=min p.length q.length->SeqAt.lex (λj=>decide (p.getD j (0,0)=q.getD j (0,0))) (λj=>ij (p.getD j (0,0)) (q.getD j (0,0))) p.length q.length k i=gG (p.drop i) (q.drop i)
 |0,i,hk,hi=>by
  rw[SeqAt.lex];rcases(by lia:q.length=i\/(p.length=i/\i<q.length)) with e|⟨e,e2⟩
  .rw[CN (l:=q) (by lia)];have:¬p.length<q.length:=by lia
   cases p.drop i<;>simp[gG,this]
  .rw[CN (l:=p) (by lia),As e2];have:p.length<q.length:=by lia
   simp[gG,this]
 |k+1,i,hk,hi=>by
  have h1:i<p.length:=by lia
  have h2:i<q.length:=by lia
  have g1:p.getD i (0,0)=p[i]:=by simp[List.getD,h1]
  have g2:q.getD i (0,0)=q[i]:=by simp[List.getD,h2]
  rw[SeqAt.lex,As h1,As h2,gG,g1,g2];by_cases e:p[i]=q[i]
  .rw[A8 (Ay e),A8 e];show uw p q k (i+1) (by lia) (by lia)
  .rw[A6 (by simpa using e),A6 e]
def Gz{p:Sk Pt}{vs ws:Sk V}(h:Iss H (p.map pt) vs)(k:Iss H (q.map pt) ws):
  (∀(j:Nat) x y,vs[j]? =some x->ws[j]? =some y->EqR K H 1 x y (decide (p.getD j (0,0)=q.getD j (0,0))))/\(∀(j:Nat) x y,vs[j]? =some x->ws[j]? =some y->decide (p.getD j (0,0)=q.getD j (0,0))=false->LtR K H 1 x y (ij (p.getD j (0,0)) (q.getD j (0,0)))):=by
 have go:∀(j:Nat) x y,vs[j]? =some x->ws[j]? =some y->Is H (pt (p.getD j (0,0))) x/\Is H (pt (q.getD j (0,0))) y:=λj x y hx hy=>by
  have{d,hd,h1}:=h.of_get hx;have{e,he,h2}:=k.of_get hy;rw[AC] at hd he;have{d',Pf,0}:=A'.mp hd;have{e',Qu,0}:=A'.mp he;rw[List.getD,Pf,List.getD,Qu];show{h1,h2}
 show{λj x y hx hy=>F' (go j x y hx hy).1 (go j x y hx hy).2,λj x y hx hy _=>Gy (go j x y hx hy).1 (go j x y hx hy).2}
def GA{p:Sk Pt}{w:V}(h:Is H (pts p) v)(k:Is H (pts q) w):Ask K H v w (gG p q):=by
 have{a,vs,0,ha,h}:=ju h;have{b,ws,0,hb,k}:=ju k;have{e1,e2}:=Gz (K:=K) h k;show{a,b,vs,ws,(1),2,SqL.of ha,SqL.of hb,5,e1,e2,?_};rw[h.length,k.length,A1,A1,uw p q _ 0 (Nat.sub_zero _) (AW _),Dg,Dg]
end
end L2
namespace L2
open PySem PyProof.Rows
variable{N1 Nw a p p':Array Nat}{Ng base g i j k l m n x:Nat}{Q:Sn Bool->SortSt->Prop}{b left:Bool}{vs:Sk PP}{xss:Sk (Sk Int)}
def GB:Bool->Keyed->Array Keyed->Nat->Nat->Nat->StateT SortSt Sem (Sn Nat):=sortPriv%PySem.Builtin.gallop
def GC:Array Keyed->Array Keyed->StateT SortSt Sem (Array Keyed):=sortPriv%PySem.Builtin.mergeLo
def GD:Array Keyed->Array Keyed->StateT SortSt Sem (Array Keyed):=sortPriv%PySem.Builtin.mergeHi
def GE:Nat->StateT SortSt Sem Unit:=sortPriv%PySem.Builtin.setMinGallop
def ay{γ:Type}(step:γ->Sn (Bool×γ)):Nat->γ->Sn γ
 |0,g=>some g
 |f+1,g=>(step g).bind λr=>if r.1=true then some r.2 else ay step f r.2
section
variable{M:Model}{A:Sj}{E:PP->Sc->Prop}{s:Sc}{σ:Type}
def cM{β γ:Type}{step:γ->Sn (Bool×γ)}(φ:γ->β)(τ:γ->σ){f:Nat->β->StateT σ Sem (ForInStep β)}{Q:β->σ->Prop}
  (hs:∀x g r,step g=some r->∀R:ForInStep β->σ->Prop,R (if r.1=true then .done (φ r.2) else .yield (φ r.2)) (τ r.2)->wpS M A E s (f x (φ g)) R (τ g))
  {a b:Nat}{g g':γ} (h:ay step (b-a) g=some g') (hq:Q (φ g') (τ g')):wpS M A E s (forIn [a:b] (φ g) f) Q (τ g):=by
 rw[Std.Legacy.Range.forIn_eq_forIn_range'];have hsz:([a:b]:Std.Legacy.Range).size=b-a:=by simp[Std.Legacy.Range.size]
 change wpS M A E s (forIn (List.range' a ([a:b]:Std.Legacy.Range).size 1) (φ g) f) Q (τ g);rw[hsz];have go:∀(k:Nat) (l:Sk Nat) (g:γ),l.length=k->ay step k g=some g'->wpS M A E s (forIn l (φ g) f) Q (τ g):=by
  intro k;induction k with
  |zero=>
   intro l g hl h;cases l with
   |nil=>rw[List.forIn_nil];cases h;show Av hq
   |cons _ _=>simp at hl
  |succ k ih=>
   intro l g hl h;cases l with
   |nil=>simp at hl
   |cons x l=>
    rw[Cp];unfold ay at h;have{r,hr,h}:=AA.mp h;show Aa (hs x g r hr _ ?_);by_cases hd:r.1=true
    .rw[A8 hd] at h⊢;cases h;show Av hq
    .rw[A6 hd] at h⊢;show ih l r.2 (by simpa using hl) h
 show go _ _ g (by simp) h
end
section
variable{prog:Sf}{w:Si}{A:Sj}{E:PP->Sc->Prop}{s:Sc}{item:Nat->Keyed}{c:Nat->Nat->Sn Bool}{kd:SortKind}
def cX(kd:SortKind)(prog:Sf)(w:Si)(A:Sj)(s:Sc)(item:Nat->Keyed)(c:Nat->Nat->Sn Bool):Prop:=
 ∀i j b,c i j=some b->∀Q:Bool->Sc->Prop,Q b s->wpAny (model prog w) A (keyLt' kd (item i).1 (item j).1) Q (λ_ _=>False) s
def kY(hc:cX kd prog w A s item c){st:SortSt}(hk:kindOf st=kd)(h:c i j=some b)(hq:Q (some b) st):wpS (model prog w) A E s (lt' (item i) (item j)) Q st:=by
 rw[lt'_eq];show Aa (Di ?_);rw[hk];show Aa (wpS_lift (CK (Bp (hc i j b h _ {0,Av hq}) (λ_ _ h=>h) λ_ _ hF=>hF.elim)))
def fM{st:SortSt}(h:N1[i]? =some x){Q:Keyed->SortSt->Prop}(hq:Q (item x) st):wpS (model prog w) A E s (elem' (N1.map item) i) Q st:=by
 rw[elem'_eq,Array.getElem?_map,h];show Av hq
def fm(c:Nat->Nat->Sn Bool)(left:Bool)(key:Nat)(N1:Array Nat)(i:Nat):Sn Bool:=N1[i]?.bind λx=>if left=true then c x key else(c key x).map (!·)
def gUp(b:Nat->Sn Bool)(m:Nat)(g:Nat×Nat):Sn (Bool×Nat×Nat):=if g.2>=m then some (true,g) else(b g.2).map λy=>if y=true then(false,g.2,2*g.2+1) else(true,g)
def gDn(b:Nat->Sn Bool)(m:Nat)(g:Nat×Nat):Sn (Bool×Nat×Nat):=if g.2>=m then some (true,g) else(b g.2).map λy=>if y=true then(true,g) else(false,g.2,2*g.2+1)
def jy(b:Nat->Sn Bool)(g:Nat×Nat):Sn (Bool×Nat×Nat):=
 if g.1>=g.2 then some (true,g) else(b (g.1+(g.2-g.1)/2)).map λy=>if y=true then(false,g.1+(g.2-g.1)/2+1,g.2) else(false,g.1,g.1+(g.2-g.1)/2)
def gal(c:Nat->Nat->Sn Bool)(left:Bool)(key:Nat)(N1:Array Nat)(base n Ng:Nat):Sn Nat:=
 (fm c left key N1 (base+Ng)).bind λright=>
  (if right=true then(ay (gUp (λo=>fm c left key N1 (base+(Ng+o))) (n-Ng)) n (0,1)).map λg=>(Ng+g.1+1,Ng+min g.2 (n-Ng))
   else(ay (gDn (λo=>fm c left key N1 (base+(Ng-o))) (Ng+1)) n (0,1)).map λg=>(Ng+1-min g.2 (Ng+1),Ng-g.1)).bind λlh=>
   (ay (jy λi=>fm c left key N1 (base+i)) n lh).map (·.2)
def jz(hc:cX kd prog w A s item c){st:SortSt}(hk:kindOf st=kd){key:Nat}(h:fm c left key N1 i=some b){Q:Option Bool->SortSt->Prop}(hq:Q (some b) st):
  wpS (model prog w) A E s (do
   let x<-elem' (N1.map item) i
   if left=true then lt' x (item key) else do
    let y<-lt' (item key) x
    pure (y.map (!·))) Q st:=by
 have{x,hx,h}:=AA.mp h;show Aa (fM hx ?_);by_cases hl:left=true
 .rw[A8 hl] at h⊢;show kY hc hk h hq
 .rw[A6 hl] at h⊢;have{y,hy,0}:=A'.mp h;show Aa (kY hc hk hy (Av hq))
def nF(hc:cX kd prog w A s item c){st:SortSt}(hk:kindOf st=kd){key:Nat}(h:gal c left key N1 base n Ng=some k){Q:Sn Nat->SortSt->Prop}(hq:Q (some k) st):
  wpS (model prog w) A E s (GB left (item key) (N1.map item) base n Ng) Q st:=by
 unfold wpS
 wp_delta
 wp_delta
 wp_delta
 show(show wpS _ _ _ _ _ _ _ from ?_);dsimp only;have{right,hr,h}:=AA.mp h;have{lh,h1,h2}:=AA.mp h;have{lh2,h3,0}:=A'.mp h2;show Aa (jz hc hk hr ?_);dsimp only;by_cases e:right=true
 .rw[A8 e] at h1⊢;have{g0,h0,0}:=A'.mp h1;show Aa (cM (γ:=Nat×Nat) (step:=gUp (λo=>fm c left key N1 (base+(Ng+o))) (n-Ng)) (λg=>(none,g.1,g.2)) (λ_=>st) (λx g r hs R hR=>?_) (a:=0) (b:=n) (g:=(0,1)) (g':=g0) h0 ?_)
  .unfold gUp at hs;dsimp only;by_cases e:g.2>=n-Ng
   .rw[A8 e] at hs⊢;cases hs;show Av hR
   .rw[A6 e] at hs⊢;have{y,hy,0}:=A'.mp hs;show Aa (jz hc hk hy ?_);cases y<;>show Av hR
  .dsimp only;show Aa (cM (γ:=Nat×Nat) (step:=jy λi=>fm c left key N1 (base+i)) (λg=>(none,g.1,g.2)) (λ_=>st) (λx g r hs R hR=>?_) (a:=0) (b:=n) (g:=(Ng+g0.1+1,Ng+min g0.2 (n-Ng))) (g':=lh2) h3 (Av hq));unfold jy at hs;dsimp only;by_cases e:g.1>=g.2
   .rw[A8 e] at hs⊢;cases hs;show Av hR
   .rw[A6 e] at hs⊢;have{y,hy,0}:=A'.mp hs;show Aa (jz hc hk hy ?_);cases y<;>show Av hR
 .rw[A6 e] at h1⊢;have{g0,h0,0}:=A'.mp h1;show Aa (cM (γ:=Nat×Nat) (step:=gDn (λo=>fm c left key N1 (base+(Ng-o))) (Ng+1)) (λg=>(none,g.1,g.2)) (λ_=>st) (λx g r hs R hR=>?_) (a:=0) (b:=n) (g:=(0,1)) (g':=g0) h0 ?_)
  .unfold gDn at hs;dsimp only;by_cases e:g.2>=Ng+1
   .rw[A8 e] at hs⊢;cases hs;show Av hR
   .rw[A6 e] at hs⊢;have{y,hy,0}:=A'.mp hs;show Aa (jz hc hk hy ?_);cases y<;>show Av hR
  .dsimp only;show Aa (cM (γ:=Nat×Nat) (step:=jy λi=>fm c left key N1 (base+i)) (λg=>(none,g.1,g.2)) (λ_=>st) (λx g r hs R hR=>?_) (a:=0) (b:=n) (g:=(Ng+1-min g0.2 (Ng+1),Ng-g0.1)) (g':=lh2) h3 (Av hq));unfold jy at hs;dsimp only;by_cases e:g.1>=g.2
   .rw[A8 e] at hs⊢;cases hs;show Av hR
   .rw[A6 e] at hs⊢;have{y,hy,0}:=A'.mp hs;show Aa (jz hc hk hy ?_);cases y<;>show Av hR
def nG(a b Nw:Array Nat)(ia ib:Nat):Array Nat:=Nw++a.extract ia a.size++b.extract ib b.size
def nH(a b Nw:Array Nat)(ia ib:Nat):Array Nat:=Nw++b.extract ib b.size++a.extract ia a.size
def mLo(c:Nat->Nat->Sn Bool)(a b:Array Nat)(sg:Nat):Sn (Array Nat×Nat):=
 b[0]?.bind λy=>
  if(1==b.size)=true then some (nG a b #[y] 0 1,sg)
  else if(0+1==a.size)=true then some (nH a b #[y] 0 1,sg)
  else none
abbrev stG(st:SortSt)(g:Nat):SortSt:=SortSt.mk' (kindOf st) (arrOf st) (pendingOf st) g (failedOf st)
def GF(a b Nw:Array Nat)(ia ib:Nat):(nG a b Nw ia ib).map item=Nw.map item++(a.map item).extract ia (a.map item).size++(b.map item).extract ib (b.map item).size:=by
 unfold nG;simp
def GG(a b Nw:Array Nat)(ia ib:Nat):(nH a b Nw ia ib).map item=Nw.map item++(b.map item).extract ib (b.map item).size++(a.map item).extract ia (a.map item).size:=by
 unfold nH;simp
def GH{st:SortSt}{Q:PUnit->SortSt->Prop}(h:Q ⟨⟩ (stG st g)):wpS (model prog w) A E s (GE g) Q st:=by
 unfold wpS
 wp_delta
 wp_delta
 wp_delta
 show(show wpS _ _ _ _ _ _ _ from ?_);show Cm h
def ux{st:SortSt}(h:N1[i]? =some x){Q:Keyed->SortSt->Prop}(hq:Q (item x) st):wpS (model prog w) A E s ((sortPriv%PySem.Builtin.elem) (N1.map item) i) Q st:=fM h hq
def uy(hc:cX kd prog w A s item c){st:SortSt}(hk:kindOf st=kd)(h:c i j=some b)(hq:Q (some b) st):wpS (model prog w) A E s ((sortPriv%PySem.Builtin.lt) (item i) (item j)) Q st:=kY hc hk h hq
def uz(hc:cX kd prog w A s item c){st:SortSt}(hk:kindOf st=kd){key:Nat}(h:gal c left key N1 base n Ng=some k){Q:Sn Nat->SortSt->Prop}(hq:Q (some k) st):
  wpS (model prog w) A E s ((sortPriv%PySem.Builtin.gallop) left (item key) (N1.map item) base n Ng) Q st:=nF hc hk h hq
def uA{st:SortSt}{Q:PUnit->SortSt->Prop}(h:Q ⟨⟩ (stG st g)):wpS (model prog w) A E s ((sortPriv%PySem.Builtin.setMinGallop) g) Q st:=GH h
def GI(hc:cX kd prog w A s item c){st:SortSt}(hk:kindOf st=kd){b:Array Nat}(h:mLo c a b (gallopOf st)=some (Nw,g)){Q:Array Keyed->SortSt->Prop}(hq:Q (Nw.map item) (stG st g)):
  wpS (model prog w) A E s (GC (a.map item) (b.map item)) Q st:=by
 have{κ,ar,pd,g0,fl}:=st;unfold wpS
 wp_delta
 wp_delta
 wp_delta
 show(show wpS _ _ _ _ _ _ _ from ?_);show Aa (wpS_lift (CD {0,?_}));unfold mLo at h;have{y,hy,h}:=AA.mp h;show Aa (fM hy ?_);by_cases e1:(1==b.size)=true
 .rw[A8 e1] at h;cases h;rw[A8 (by simpa using e1)];show Av ?_;rw[GF] at hq;simpa using hq
 rw[A6 e1] at h;by_cases e2:(0+1==a.size)=true
 .rw[A8 e2] at h;cases h;rw[A6 (by simpa using e1),A8 (by simpa using e2)];show Av ?_;rw[GG] at hq;simpa using hq
 rw[A6 e2] at h;cases h
end
section
variable{prog:Sf}{w:Si}{A:Sj}{E:PP->Sc->Prop}{s:Sc}{item:Nat->Keyed}{c:Nat->Nat->Sn Bool}{kd:SortKind}
def nI(a b Nw:Array Nat)(na nb:Nat):Array Nat:=a.extract 0 na++b.extract 0 nb++Nw.reverse
def uB(a b Nw:Array Nat)(na nb:Nat):Array Nat:=b.extract 0 nb++a.extract 0 na++Nw.reverse
abbrev H1:=Sn (Array Nat)×Nat×Nat×Array Nat×Nat×Nat
abbrev H3:=(Sn (Array Nat)×Nat×Nat×Array Nat×Nat×Nat×Nat)×Nat
abbrev H0:=(Sn (Array Nat)×Nat×Nat×Array Nat×Nat)×Nat
def hi1(c:Nat->Nat->Sn Bool)(a b:Array Nat)(mg:Nat)(g:H1):Sn (Bool×H1):=
 b[g.2.2.1-1]?.bind λy=>a[g.2.1-1]?.bind λx=>(c y x).bind λq=>
  if q=true then
   if(g.2.1-1==0)=true then none
   else if g.2.2.2.2.1+1>=mg then some (true,none,g.2.1-1,g.2.2.1,g.2.2.2.1.push x,g.2.2.2.2.1+1,0)
   else some (false,none,g.2.1-1,g.2.2.1,g.2.2.2.1.push x,g.2.2.2.2.1+1,0)
  else
   if(g.2.2.1-1==1)=true then none
   else if g.2.2.2.2.2+1>=mg then some (true,none,g.2.1,g.2.2.1-1,g.2.2.2.1.push y,0,g.2.2.2.2.2+1)
   else some (false,none,g.2.1,g.2.2.1-1,g.2.2.2.1.push y,0,g.2.2.2.2.2+1)
def uC(c:Nat->Nat->Sn Bool)(a b Nw:Array Nat)(na nb mg bc:Nat):Sn (Bool×H3):=
 b[nb-1]?.bind λy=>(gal c false y a 0 na (na-1)).bind λRt=>
  if na-Rt>0 then
   if(Rt==0)=true then some (true,(some (nI a b (Nw++(a.extract Rt na).reverse) Rt nb),Rt,nb,Nw++(a.extract Rt na).reverse,mg,na-Rt,bc),mg)
   else none
  else none
def hi3(c:Nat->Nat->Sn Bool)(a b:Array Nat)(g:H3):Sn (Bool×H3):=
 if g.1.2.2.2.2.1>1 then uC c a b g.1.2.2.2.1 g.1.2.1 g.1.2.2.1 (g.1.2.2.2.2.1-1) g.1.2.2.2.2.2.2
 else none
def hi0(c:Nat->Nat->Sn Bool)(a b:Array Nat)(g:H0):Sn (Bool×H0):=
 (ay (hi1 c a b g.1.2.2.2.2) (a.size+b.size) (none,g.1.2.1,g.1.2.2.1,g.1.2.2.2.1,0,0)).bind λt=>
  match t.1 with
  |some r=>some (true,(some r,t.2.1,t.2.2.1,t.2.2.2.1,g.1.2.2.2.2),g.2)
  |none=>(ay (hi3 c a b) (a.size+b.size) ((none,t.2.1,t.2.2.1,t.2.2.2.1,g.1.2.2.2.2+1,t.2.2.2.2.1,t.2.2.2.2.2),g.2)).bind λu=>
   match u.1.1 with
   |some r=>some (true,(some r,u.1.2.1,u.1.2.2.1,u.1.2.2.2.1,u.1.2.2.2.2.1),u.2)
   |none=>none
def mHi(c:Nat->Nat->Sn Bool)(a b:Array Nat)(sg:Nat):Sn (Array Nat×Nat):=
 a[a.size-1]?.bind λx=>
  if(a.size-1==0)=true then none
  else if(b.size==1)=true then none
  else(ay (hi0 c a b) (a.size+b.size) ((none,a.size-1,b.size, #[x],sg),sg)).bind λt=>t.1.1.map λr=>(r,t.2)
def uD(a b Nw:Array Nat)(na nb:Nat):(nI a b Nw na nb).map item=(a.map item).extract 0 na++(b.map item).extract 0 nb++(Nw.map item).reverse:=by
 unfold nI;simp
def uE(a b Nw:Array Nat)(na nb:Nat):(uB a b Nw na nb).map item=(b.map item).extract 0 nb++(a.map item).extract 0 na++(Nw.map item).reverse:=by
 unfold uB;simp
def GJ(hc:cX kd prog w A s item c){st:SortSt}(hk:kindOf st=kd){b:Array Nat}(h:mHi c a b (gallopOf st)=some (Nw,g)){Q:Array Keyed->SortSt->Prop}(hq:Q (Nw.map item) (stG st g)):
  wpS (model prog w) A E s (GD (a.map item) (b.map item)) Q st:=by
 have{κ,ar,pd,g0,fl}:=st;unfold wpS
 wp_delta
 wp_delta
 wp_delta
 show(show wpS _ _ _ _ _ _ _ from ?_);dsimp only;show Aa (wpS_lift (CD {0,?_}));unfold mHi at h;have{y,hy,h}:=AA.mp h;simp only[Array.size_map];show Aa (fM hy ?_);have ey:(#[item y]:Array Keyed)=(#[y]:Array Nat).map item:=by simp
 simp only[ey];by_cases e1:(a.size-1==0)=true
 .rw[A8 e1] at h;cases h
 rw[A6 e1] at h⊢;by_cases e2:(b.size==1)=true
 .rw[A8 e2] at h;cases h
 rw[A6 e2] at h⊢;show Aa (Di ?_);have{t,h0,h}:=AA.mp h;have{r,hr,h}:=A'.mp h;cases h;show Aa (cM (γ:=H0) (step:=hi0 c a b) (λg=>(g.1.1.map (·.map item),g.1.2.1,g.1.2.2.1,g.1.2.2.2.1.map item,g.1.2.2.2.2)) (λg=>SortSt.mk' κ ar pd g.2 fl) (λx g r hs R hR=>?_) (a:=0) (b:=a.size+b.size) (g:=((none,a.size-1,b.size, #[y],g0),g0)) (g':=t) h0 ?_)
 .unfold hi0 at hs;have{t1,h1,hs}:=AA.mp hs;dsimp only;show Aa (cM (γ:=H1) (step:=hi1 c a b g.1.2.2.2.2) (λg=>(g.1.map (·.map item),g.2.1,g.2.2.1,g.2.2.2.1.map item,g.2.2.2.2.1,g.2.2.2.2.2)) (λ_=>SortSt.mk' κ ar pd g.2 fl) (λx u r hs R hR=>?_) (a:=0) (b:=a.size+b.size) (g:=(none,g.1.2.1,g.1.2.2.1,g.1.2.2.2.1,0,0)) (g':=t1) h1 ?_)
  .unfold hi1 at hs;dsimp only;have hk2:kindOf (SortSt.mk' κ ar pd g.2 fl)=kd:=hk
   repeat' (first|(rw[AA] at hs;have{_,_,hs}:=hs)|split at hs)
   all_goals
    cases hs<;>(simp only[Option.map_some,Option.map_none,uD,uE,Array.map_push,Array.map_append,Array.map_extract,Array.map_reverse,Array.size_map,if_true,Bool.false_eq_true,if_false] at hR;repeat (first|with_reducible show wpS_bind (ux (by assumption) ?_)|with_reducible show wpS_bind (uy (by assumption) (by assumption) (by assumption) ?_)|with_reducible show wpS_bind (uz (by assumption) (by assumption) (by assumption) ?_)|with_reducible show wpS_bind (uA ?_)|rw[if_pos (by assumption)]|rw[if_neg (by assumption)]|show wpS_pure (by assumption)|dsimp only))
  .dsimp only;cases e:t1.1 with
   |some r=>
    rw[e] at hs;cases hs;show Av hR
   |none=>
    rw[e] at hs;have{t3,h3,hs}:=AA.mp hs;simp only[Option.map_none];show Aa (wpS_lift (CD {0,?_}));show Aa (cM (γ:=H3) (step:=hi3 c a b) (λg=>(g.1.1.map (·.map item),g.1.2.1,g.1.2.2.1,g.1.2.2.2.1.map item,g.1.2.2.2.2.1,g.1.2.2.2.2.2.1,g.1.2.2.2.2.2.2)) (λg=>SortSt.mk' κ ar pd g.2 fl) (λx u r hs R hR=>?_) (a:=0) (b:=a.size+b.size) (g:=((none,t1.2.1,t1.2.2.1,t1.2.2.2.1,g.1.2.2.2.2+1,t1.2.2.2.2.1,t1.2.2.2.2.2),g.2)) (g':=t3) h3 ?_)
    .have hk2:∀g,kindOf (SortSt.mk' κ ar pd g fl)=kd:=λ_=>hk;unfold hi3 uC at hs;dsimp only;by_cases m:u.1.2.2.2.2.1>1
     .rw[A8 m] at hs⊢;have Qi:=hk2 (u.1.2.2.2.2.1-1)
      repeat' (first|(rw[AA] at hs;have{_,_,hs}:=hs)|split at hs)
      all_goals
       cases hs<;>(simp only[Option.map_some,Option.map_none,uD,uE,Array.map_push,Array.map_append,Array.map_extract,Array.map_reverse,Array.size_map,if_true,Bool.false_eq_true,if_false] at hR;repeat (first|with_reducible show wpS_bind (ux (by assumption) ?_)|with_reducible show wpS_bind (uy (by assumption) (by assumption) (by assumption) ?_)|with_reducible show wpS_bind (uz (by assumption) (by assumption) (by assumption) ?_)|with_reducible show wpS_bind (uA ?_)|rw[if_pos (by assumption)]|rw[if_neg (by assumption)]|show wpS_pure (by assumption)|dsimp only))
     .rw[A6 m] at hs;cases hs
    .dsimp only;cases e:t3.1.1 with
     |some r=>
      rw[e] at hs;cases hs;show Av hR
     |none=>
      rw[e] at hs;cases hs
 .dsimp only;rw[hr];show Av hq
end
def gH{γ:Type}(step:Nat->γ->Sn (Bool×γ)):Nat->Nat->γ->Sn γ
 |0,_,g=>some g
 |f+1,i,g=>(step i g).bind λr=>if r.1=true then some r.2 else gH step f (i+1) r.2
section
variable{M:Model}{A:Sj}{E:PP->Sc->Prop}{s:Sc}{σ:Type}
def GK{β γ:Type}{step:Nat->γ->Sn (Bool×γ)}(φ:γ->β)(τ:γ->σ){f:Nat->β->StateT σ Sem (ForInStep β)}{Q:β->σ->Prop}
  (hs:∀x g r,step x g=some r->∀R:ForInStep β->σ->Prop,R (if r.1=true then .done (φ r.2) else .yield (φ r.2)) (τ r.2)->wpS M A E s (f x (φ g)) R (τ g))
  {a b:Nat}{g g':γ} (h:gH step (b-a) a g=some g') (hq:Q (φ g') (τ g')):wpS M A E s (forIn [a:b] (φ g) f) Q (τ g):=by
 rw[Std.Legacy.Range.forIn_eq_forIn_range'];have hsz:([a:b]:Std.Legacy.Range).size=b-a:=by simp[Std.Legacy.Range.size]
 change wpS M A E s (forIn (List.range' a ([a:b]:Std.Legacy.Range).size 1) (φ g) f) Q (τ g);rw[hsz];have go:∀(k i:Nat) (g:γ),gH step k i g=some g'->wpS M A E s (forIn (List.range' i k 1) (φ g) f) Q (τ g):=by
  intro k;induction k with
  |zero=>
   intro i g h;cases h;rw[List.range'_zero,List.forIn_nil];show Av hq
  |succ k ih=>
   intro i g h;rw[List.range'_succ,Cp];unfold gH at h;have{r,hr,h}:=AA.mp h;show Aa (hs i g r hr _ ?_);by_cases hd:r.1=true
   .rw[A8 hd] at h⊢;cases h;show Av hq
   .rw[A6 hd] at h⊢;show ih (i+1) r.2 h
 show go _ a g h
end
section
variable{prog:Sf}{w:Si}{A:Sj}{E:PP->Sc->Prop}{s:Sc}{item:Nat->Keyed}{c:Nat->Nat->Sn Bool}{kd:SortKind}{pd:Array (Nat×Nat×Nat)}{g:Nat}
abbrev sst(kd:SortKind)(item:Nat->Keyed)(p:Array Nat)(pd:Array (Nat×Nat×Nat))(g:Nat):SortSt:=SortSt.mk' kd (p.map item) pd g none
def cAt(c:Nat->Nat->Sn Bool)(p:Array Nat)(i j:Nat):Sn Bool:=p[i]?.bind λx=>p[j]?.bind λy=>c x y
def ik(hc:cX kd prog w A s item c)(h:cAt c p i j=some b)(hq:Q (some b) (sst kd item p pd g)):wpS (model prog w) A E s (ltAt' i j) Q (sst kd item p pd g):=by
 have{x,hx,h}:=AA.mp h;have{y,hy,h}:=AA.mp h;rw[ltAt'_eq];show Aa (Di ?_);dsimp only;show Aa (fM hx (Aa (fM hy (kY hc rfl h hq))))
def rev(p:Array Nat)(i j:Nat):Array Nat:=mirror p i j ((j-i)/2)
def GL{Q:Unit->SortSt->Prop}(h:Q () (sst kd item (rev p i j) pd g)):wpS (model prog w) A E s (reverseSlice' i j) Q (sst kd item p pd g):=by
 rw[reverseSlice'_eq];show Cm ?_;have e1:mirror (p.map item) i j ((j-i)/2)=(rev p i j).map item:=W.kas_swaps_map item (λk=>i+k) (λk=>j-1-k) _ p;change Q () (SortSt.mk' kd (mirror (p.map item) i j ((j-i)/2)) pd g none);rw[e1];show h
def GM{Q:Unit->SortSt->Prop}(h:Q () (sst kd item (bubble p k (k-l)) pd g)):wpS (model prog w) A E s (moveDown' k l) Q (sst kd item p pd g):=by
 rw[moveDown'_eq];show Cm ?_;have e1:bubble (p.map item) k (k-l)=(bubble p k (k-l)).map item:=W.kas_swaps_map item (λi=>k-i) (λi=>k-i-1) _ p;change Q () (SortSt.mk' kd (bubble (p.map item) k (k-l)) pd g none);rw[e1];show h
def im(c:Nat->Nat->Sn Bool)(p:Array Nat)(l:Nat)(m:Nat):Sn (Bool×Nat):=(cAt c p (l+m) (l+m-1)).map λq=>if q=true then(true,m) else(false,m+1)
def jA(c:Nat->Nat->Sn Bool)(l:Nat)(t:Array Nat×Nat×Nat):Sn (Bool×Array Nat×Nat×Nat):=
 (cAt c t.1 (l+t.2.1) (l+t.2.1-1)).bind λq=>
  if q=true then if t.2.2>0 then none else some (false,t.1,t.2.1+1,0)
  else(cAt c t.1 (l+t.2.1-1) (l+t.2.1)).bind λr=>if r=true then some (true,t.1,t.2.1,t.2.2) else none
def nJ(c:Nat->Nat->Sn Bool)(l n:Nat)(p:Array Nat)(m:Nat):Sn (Nat×Array Nat):=(ay (im c (rev p l (l+m)) l) (n-m) m).map λk=>(k,rev p l (l+m))
def nL(c:Nat->Nat->Sn Bool)(l n:Nat)(p:Array Nat)(m:Nat):Sn (Nat×Array Nat):=
 (ay (jA c l) (n-(m+1)) (p,m+1,0)).bind λt=>if t.2.2>0 then none else nJ c l n t.1 t.2.1
def jB(c:Nat->Nat->Sn Bool)(l n:Nat)(p:Array Nat):Sn (Nat×Array Nat):=
 (ay (im c p l) (n-1) 1).bind λm=>if(m==n)=true then some (m,p) else if m>1 then(cAt c p l (l+m-1)).bind λq=>if q=true then some (m,p) else none else nL c l n p m
def GN(hc:cX kd prog w A s item c)(h:jB c l n p=some (k,p')){Q:Sn Nat->SortSt->Prop}(hq:Q (some k) (sst kd item p' pd g)):wpS (model prog w) A E s (countRun' l n) Q (sst kd item p pd g):=by
 unfold wpS
 wp_delta
 wp_delta
 wp_delta
 show(show wpS _ _ _ _ _ _ _ from ?_);dsimp only;unfold jB at h;have{m,h0,h}:=AA.mp h;have hz:=h0;show Aa (cM (γ:=Nat) (step:=im c _ l) (λm=>(none,m)) (λ_=>sst kd item _ pd g) (λx m r hs R hR=>?_) hz ?_)
 .have{q,PR,0}:=A'.mp hs;show Aa (ik hc PR ?_);cases q<;>show Av hR
 dsimp only;by_cases e1:(m==n)=true
 .rw[A8 e1] at h⊢;cases h;show Av hq
 rw[A6 e1] at h⊢;by_cases e2:m>1
 .rw[A8 e2] at h⊢;have{q,PR,h}:=AA.mp h;show Aa (ik hc PR ?_);dsimp only;by_cases e3:q=true
  .rw[A8 e3] at h⊢;cases h;show Av hq
  rw[A6 e3] at h;cases h
 .rw[A6 e2] at h⊢;unfold nL nJ at h;show Aa (wpS_lift (CD {0,?_}));have{t,h1,h2}:=AA.mp h;show Aa (cM (γ:=Array Nat×Nat×Nat) (step:=jA c l) (λt=>(none,t.2.1,t.2.2)) (λt=>sst kd item t.1 pd g) (λx t r hs R hR=>?_) h1 ?_)
  .unfold jA at hs;have{q,PR,hs}:=AA.mp hs;show Aa (ik hc PR ?_);cases q with
   |true=>
    dsimp only;rw[A8 rfl] at hs⊢;split at hs
    .rename_i z;cases hs
    .rename_i z;rw[A6 z];cases hs;show Av hR
   |false=>
    dsimp only;rw[A6 (by simp)] at hs⊢;have{r,hr1,hs}:=AA.mp hs;show Aa (ik hc hr1 ?_);cases r<;>(cases hs<;>show Av hR)
  .dsimp only;split at h2
   .cases h2
   .rename_i z;rw[A6 z];show Aa (GL ?_);have{k2,h3,h4}:=A'.mp h2;cases h4;have hz:=h3;show Aa (cM (γ:=Nat) (step:=im c _ l) (λm=>(none,m)) (λ_=>sst kd item _ pd g) (λx m r hs R hR=>?_) hz ?_)
    .have{q,PR,0}:=A'.mp hs;show Aa (ik hc PR ?_);cases q<;>show Av hR
    show Av hq
def bPl(c:Nat->Nat->Sn Bool)(p:Array Nat)(l k:Nat)(t:Nat×Nat):Sn (Bool×Nat×Nat):=
 if t.1>=t.2 then some (true,t.1,t.2) else(cAt c p (l+k) (l+(t.1+t.2)/2)).bind λq=>if q=true then some (false,t.1,(t.1+t.2)/2) else some (false,(t.1+t.2)/2+1,t.2)
def jC(c:Nat->Nat->Sn Bool)(l k:Nat)(p:Array Nat):Sn (Bool×Array Nat):=(ay (bPl c p l k) k (0,k)).map λt=>(false,bubble p (l+k) (l+k-(l+t.1)))
def nM(c:Nat->Nat->Sn Bool)(l n ok:Nat)(p:Array Nat):Sn (Array Nat):=gH (jC c l) (n-max ok 1) (max ok 1) p
def GO(hc:cX kd prog w A s item c){ok:Nat}(h:nM c l n ok p=some p'){Q:Bool->SortSt->Prop}(hq:Q true (sst kd item p' pd g)):wpS (model prog w) A E s (binarySort' l n ok) Q (sst kd item p pd g):=by
 unfold wpS
 wp_delta
 wp_delta
 wp_delta
 show(show wpS _ _ _ _ _ _ _ from ?_);dsimp only;show Aa (GK (γ:=Array Nat) (step:=jC c l) (λ_=>(none,())) (λp=>sst kd item p pd g) (λk p r hs R hR=>?_) h (Av hq));have{t,ht,0}:=A'.mp hs;show Aa (cM (γ:=Nat×Nat) (step:=bPl c p l k) (λt=>(none,t.1,t.2)) (λ_=>sst kd item p pd g) (λx t r hs R hR=>?_) (a:=0) (b:=k) ht ?_)
 .unfold bPl at hs;dsimp only;by_cases e:t.1>=t.2
  .rw[A8 e] at hs⊢;cases hs;show Av hR
  .rw[A6 e] at hs⊢;have{q,PR,hs}:=AA.mp hs;show Aa (ik hc PR ?_);cases q<;>(cases hs;show Av hR)
 .show Aa (GM (Av hR))
end
section
variable{prog:Sf}{w:Si}{A:Sj}{E:PP->Sc->Prop}{s:Sc}{item:Nat->Keyed}{c:Nat->Nat->Sn Bool}{kd:SortKind}
abbrev Pd:=Array (Nat×Nat×Nat)
def lay(p:Array Nat)(o:Nat)(xs:Array Nat):Array Nat:=xs.toList.zipIdx.foldl (λa x=>a.setIfInBounds (o+x.2) x.1) p
def uF(p:Array Nat)(o:Nat)(xs:Array Nat):(xs.map item).toList.zipIdx.foldl (λa x=>a.setIfInBounds (o+x.2) x.1) (p.map item)=(lay p o xs).map item:=by
 have go:∀(l:Sk Nat) (k:Nat) (p:Array Nat),((l.map item).zipIdx k).foldl (λa x=>a.setIfInBounds (o+x.2) x.1) (p.map item)=((l.zipIdx k).foldl (λa x=>a.setIfInBounds (o+x.2) x.1) p).map item:=by
  intro l;induction l with
  |nil=>intro k p;rfl
  |cons x l ih=>
   intro k p;rw[AK,List.zipIdx_cons,List.zipIdx_cons,BY,BY];rw[show(p.map item).setIfInBounds (o+k) (item x)=(p.setIfInBounds (o+k) x).map item from(Array.map_setIfInBounds ..).symm];show ih _ _
 rw[Array.toList_map];show go _ 0 p
abbrev Ts:=Array Nat×Pd×Nat
def mAt(c:Nat->Nat->Sn Bool)(i:Nat)(t:Ts):Sn Ts:=
 t.2.1[i]?.bind λu=>t.2.1[i+1]?.bind λv=>t.1[v.1]?.bind λy=>(gal c false y t.1 u.1 u.2.1 0).bind λk=>
  if(u.2.1-k==0)=true then none
  else t.1[u.1+k+(u.2.1-k)-1]?.bind λx=>(gal c true x t.1 v.1 v.2.1 (v.2.1-1)).bind λnb=>
   if(nb==0)=true then none
   else if u.2.1-k<=nb then(mLo c (t.1.extract (u.1+k) v.1) (t.1.extract v.1 (v.1+nb)) t.2.2).bind λr=>some (lay t.1 (u.1+k) r.1,(t.2.1.setIfInBounds i (u.1,u.2.1+v.2.1,u.2.2)).eraseIdxIfInBounds (i+1),r.2)
   else(mHi c (t.1.extract (u.1+k) v.1) (t.1.extract v.1 (v.1+nb)) t.2.2).bind λr=>some (lay t.1 (u.1+k) r.1,(t.2.1.setIfInBounds i (u.1,u.2.1+v.2.1,u.2.2)).eraseIdxIfInBounds (i+1),r.2)
def GP{M:Model}{σ:Type}{x:σ}{Q:PUnit->σ->Prop}{st:σ}(h:Q ⟨⟩ x):wpS M A E s (set x:StateT σ Sem PUnit) Q st:=by
 unfold wpS;change wpAny M A (pure ((),x)) _ E s;show A3 {0,h}
def GQ(hc:cX kd prog w A s item c){t t':Ts}(h:mAt c i t=some t'){Q:Bool->SortSt->Prop}(hq:Q true (sst kd item t'.1 t'.2.1 t'.2.2)):wpS (model prog w) A E s (mergeAt' i) Q (sst kd item t.1 t.2.1 t.2.2):=by
 unfold wpS
 wp_delta
 wp_delta
 wp_delta
 show(show wpS _ _ _ _ _ _ _ from ?_);dsimp only;show Aa (Di ?_);unfold mAt at h;have{{sa,na,pw},hu,h}:=AA.mp h;have{{sb,nb,pw2},hv,h}:=AA.mp h;have{y,hy,h}:=AA.mp h;have{k,hk,h}:=AA.mp h;dsimp only at*
 rw[hu,hv];dsimp only;show Aa (GP ?_);show Aa (fM hy ?_);show Aa (nF hc rfl hk ?_);dsimp only;by_cases e1:(na-k==0)=true
 .rw[A8 e1] at h;cases h
 rw[A6 e1] at h⊢;have{x,hx,h}:=AA.mp h;have{nb2,hk2,h}:=AA.mp h;show Aa (fM hx ?_);show Aa (nF hc rfl hk2 ?_);dsimp only;by_cases e2:(nb2==0)=true
 .rw[A8 e2] at h;cases h
 rw[A6 e2] at h⊢;have x1:(t.1.map item).extract (sa+k) sb=(t.1.extract (sa+k) sb).map item:=by simp
 have x2:(t.1.map item).extract sb (sb+nb2)=(t.1.extract sb (sb+nb2)).map item:=by simp
 rw[x1,x2];by_cases e3:na-k<=nb2
 .rw[A8 e3] at h⊢;have{r,hr,h}:=AA.mp h;cases h;show Aa (GI hc rfl hr ?_);show Aa (Cm ?_);show Aa (Di (Av ?_));dsimp only;rw[uF];show hq
 .rw[A6 e3] at h⊢;have{r,hr,h}:=AA.mp h;cases h;show Aa (GJ hc rfl hr ?_);show Aa (Cm ?_);show Aa (Di (Av ?_));dsimp only;rw[uF];show hq
end
section
variable{prog:Sf}{w:Si}{A:Sj}{E:PP->Sc->Prop}{s:Sc}{item:Nat->Keyed}{c:Nat->Nat->Sn Bool}{kd:SortKind}
def jD(c:Nat->Nat->Sn Bool)(pw:Nat)(t:Ts):Sn (Bool×Ts):=
 match(if t.2.1.size>1 then t.2.1[t.2.1.size-2]? else none) with
 |some u=>if u.2.2<=pw then some (true,t) else none
 |none=>some (true,t)
def io(c:Nat->Nat->Sn Bool)(size lo n:Nat)(t:Ts):Sn (Bool×Nat×Ts):=
 match t.2.1.back? with
 |some u=>(ay (jD c (power' size (2*u.1+u.2.1) (2*u.1+u.2.1+u.2.1+n) size)) size t).bind λt'=>
  some (false,lo+n,t'.1,(t'.2.1.modify (t'.2.1.size-1) λx=>(x.1,x.2.1,power' size (2*u.1+u.2.1) (2*u.1+u.2.1+u.2.1+n) size)).push (lo,n,0),t'.2.2)
 |none=>some (false,lo+n,t.1,t.2.1.push (lo,n,0),t.2.2)
def fN(c:Nat->Nat->Sn Bool)(size:Nat)(g:Nat×Ts):Sn (Bool×Nat×Ts):=
 if g.1>=size then some (true,g) else(jB c g.1 (size-g.1) g.2.1).bind λr=>
  if r.1<minRun' size size 0 then(nM c g.1 (min (size-g.1) (minRun' size size 0)) r.1 r.2).bind λp2=>io c size g.1 (min (size-g.1) (minRun' size size 0)) (p2,g.2.2)
  else io c size g.1 r.1 (r.2,g.2.2)
def kZ(c:Nat->Nat->Sn Bool)(t:Ts):Sn (Bool×Ts):=
 if t.2.1.size<=1 then some (true,t)
 else(mAt c (if Option.any (λx=>decide (x<t.2.1[t.2.1.size-2+1]?.elim 0 λx=>x.2.1)) (if t.2.1.size-2>0 then Option.map (λx=>x.2.1) t.2.1[t.2.1.size-2-1]? else none)=true then t.2.1.size-2-1 else t.2.1.size-2) t).bind λt'=>some (false,t')
def fq(c:Nat->Nat->Sn Bool)(n:Nat):Sn (Array Nat):=
 (ay (fN c n) n (0,List.toArray (List.range n), #[],7)).bind λg=>(ay (kZ c) n g.2).map (·.1)
def GR(hc:cX kd prog w A s item c)(h:fq c n=some p){Q:Unit->SortSt->Prop}(hq:∀pd g,Q () (sst kd item p pd g)):wpS (model prog w) A E s sortRuns' Q (sst kd item (List.toArray (List.range n)) #[] 7):=by
 rw[sortRuns'_eq];try dsimp only
 show Aa (Di ?_);have hz:(arrOf (sst kd item (List.toArray (List.range n)) #[] 7)).size=n:=by
  change((List.toArray (List.range n)).map item).size=n;simp
 rw[hz];unfold fq at h;have{g,h1,h}:=AA.mp h;have{t,h2,0}:=A'.mp h;show Aa (cM (γ:=Nat×Ts) (step:=fN c n) (λg=>(none,g.1)) (λg=>sst kd item g.2.1 g.2.2.1 g.2.2.2) (λx g r hs R hR=>?_) (a:=0) (b:=n) (g:=(0,List.toArray (List.range n), #[],7)) h1 ?_)
 .unfold fN at hs;try dsimp only
  by_cases e1:g.1>=n
  .rw[A8 e1] at hs⊢;cases hs;show Av hR
  rw[A6 e1] at hs⊢;have{k,hk,hs}:=AA.mp hs;show Aa (GN hc hk ?_);try dsimp only
  by_cases e2:k.1<minRun' n n 0
  .rw[A8 e2] at hs⊢;have{p2,hp,hs}:=AA.mp hs;show Aa (wpS_lift (CD {0,?_}));show Aa (GO hc hp ?_);simp only[BL,AN,Au];unfold io at hs;show Aa (Di ?_);try dsimp only at hs⊢
   split at hs
   .rename_i u hu;rw[hu];try dsimp only
    have{t',ht,hs}:=AA.mp hs;cases hs;show Aa (cM (γ:=Ts) (step:=jD c _) (λ_=>(none,())) (λt=>sst kd item t.1 t.2.1 t.2.2) (λx t r hs R hR=>?_) (a:=0) ht ?_)
    .unfold jD at hs;show Aa (Di ?_);try dsimp only
     split at hs
     .rename_i v hv;rw[hv];try dsimp only
      split at hs
      .rename_i z;rw[A8 z];cases hs;show Av hR
      .rename_i z;cases hs
     .rename_i hv;rw[hv];cases hs;show Av hR
    .try dsimp only
     show Aa (Cm (Aa (Cm (Av hR))))
   .rename_i hu;rw[hu];cases hs;show Aa (Cm (Av hR))
  .rw[A6 e2] at hs⊢;unfold io at hs;show Aa (Di ?_);try dsimp only at hs⊢
   split at hs
   .rename_i u hu;rw[hu];try dsimp only
    have{t',ht,hs}:=AA.mp hs;cases hs;show Aa (cM (γ:=Ts) (step:=jD c _) (λ_=>(none,())) (λt=>sst kd item t.1 t.2.1 t.2.2) (λx t r hs R hR=>?_) (a:=0) ht ?_)
    .unfold jD at hs;show Aa (Di ?_);try dsimp only
     split at hs
     .rename_i v hv;rw[hv];try dsimp only
      split at hs
      .rename_i z;rw[A8 z];cases hs;show Av hR
      .rename_i z;cases hs
     .rename_i hv;rw[hv];cases hs;show Av hR
    .try dsimp only
     show Aa (Cm (Aa (Cm (Av hR))))
   .rename_i hu;rw[hu];cases hs;show Aa (Cm (Av hR))
 .try dsimp only
  show Aa (cM (γ:=Ts) (step:=kZ c) (λ_=>(none,())) (λt=>sst kd item t.1 t.2.1 t.2.2) (λx t r hs R hR=>?_) (a:=0) (b:=n) (g:=g.2) h2 (Av (hq _ _)));unfold kZ at hs;show Aa (Di ?_);try dsimp only
  by_cases e1:t.2.1.size<=1
  .rw[A8 e1] at hs⊢;cases hs;show Av hR
  rw[A6 e1] at hs⊢;have{t',hm,hs}:=AA.mp hs;cases hs;show Aa (GQ hc hm (Av hR))
end
open PySem.Spec PySem.W
section
variable{prog:Sf}{w:Si}{A:Sj}{E:PP->Sc->Prop}{s:Sc}
def uG{kd:SortKind}{a:Se}{c:Nat->Nat->Sn Bool}{P:PySem.Fin->Sc->Prop}(ho:s.heap.get? a=some (seqObj "list" vs.toArray n))(h2:2<=vs.length)(hL:vs.length<=1000)(hp:p.size<=1000)
  (QU:∀(R:SortKind->Sc->Prop),R kd {s with heap:=bS s.heap a vs}->wpAny (model prog w) A (keyKind' vs.toArray) R E {s with heap:=bS s.heap a vs}) (hc:cX kd prog w A {s with heap:=bS s.heap a vs} (fj vs) c) (hs:fq c vs.length=some p)
  (h:P (.done (.ret .none)) {s with heap:=sortedHeap s.heap a vs (p.map λi=>vs.getD i .none)}):wpAny (model prog w) A (Builtin.«list.sort» {[.ref a],[]}) P E s:=by
 rw[list_sort_plain];have ha:a<s.heap.objs.size:=AM ho;show A0 (listItems_at ho rfl ?_);show A0 (Dj ho rfl ?_ (by rw[AH,B1];lia) (AW _));obtain⟨e1,NX⟩:∃e1,(s.heap.update a (Obj.mapSeq λ_=>(#[]:Array PP))).get? a=some (seqObj "list" #[] e1):={_,DR ho (λ_=> #[])};show A0 (seqEpoch_at NX rfl ?_);show A0 (wpAny_newTuple ?_ (by change vs.length<=_;rw[B1];lia));show A0 (wpAny_newList ?_ (AW _));show B2 ?_;have Qs:(bS s.heap a vs).get? a=some (seqObj "list" #[] e1):=by
  rw[BJ _ _ _ (by rw[C',BI];show AU (Am ha)),BJ _ _ _ (by rw[BI];show AU ha)];show NX
 change wpAny (model prog w) A _ P E {s with heap:=bS s.heap a vs};dsimp only;have Rl:¬vs.toArray.size<2:=by rw[AH];lia
 rw[A6 Rl,A6 Rl];show A0 (QU _ ?_);have run:=GR (E:=E) hc hs (Q:=λ_ NP=>arrOf NP=p.map (fj vs)/\failedOf NP=none) λpd g=>{0,0};have est:sst kd (fj vs) (List.toArray (List.range vs.length)) #[] 7=SortSt.mk' kd (vs.toArray.zip vs.toArray) #[] 7 none:=by
  change SortSt.mk' kd ((List.toArray (List.range vs.length)).map (fj vs)) #[] 7 none=_;rw[Gq]
 rw[est] at run;show A0 (Bp run ?_ λ_ _ e=>e);rintro⟨⟨⟩,NP⟩ s' ⟨rfl,har,hf⟩;dsimp only at har hf⊢;have eo:(arrOf NP).map (·.2)=p.map λi=>vs.getD i .none:=by
  rw[har,Array.map_map];rfl
 rw[eo];show A0 (seqEpoch_at Qs rfl ?_);show A0 (Dj Qs rfl ?_ (AW _) (by rw[Array.size_map,B1];lia));rw[hf];simp only[bne_self_eq_false,AN,Au];show A3 h
def GS{kd:SortKind}{l:Se}{c:Nat->Nat->Sn Bool}{Q:PP->Sc->Prop}(hl:s.heap.IsList l vs.toArray)(h2:2<=vs.length)(hL:vs.length<=1000)(hp:p.size<=1000)
  (QU:∀(R:SortKind->Sc->Prop) (E:PP->Sc->Prop),R kd {s with heap:=jx s.heap vs}->wpAny (model prog w) A.in1.in1 (keyKind' vs.toArray) R E {s with heap:=jx s.heap vs}) (hc:cX kd prog w A.in1.in1 {s with heap:=jx s.heap vs} (fj vs) c) (hs:fq c vs.length=some p)
  (h:Q (.ref (s.heap.objs.size+1)) {s with heap:=sortedAll s.heap vs (p.map λi=>vs.getD i .none)}):wpAny (model prog w) A (call (.builtin "sorted") [.ref l]) Q E s:=by
 show Calls.call_function_entry kind_sorted plain_sorted entry_sorted (args_sorted1 _) ?_;unfold Builtin.«sorted»;show A0 (m:=checkCount "sorted" 1 1 _) (A3 ?_);show A0 (collect_list hl ?_ (by rw[B1];lia));show A0 (wpAny_newList ?_ (by rw[B1];lia));have hsz:((s.heap.push (seqObj "list" #[] 0)).update s.heap.objs.size (Obj.mapSeq (· ++vs.toArray))).objs.size=s.heap.objs.size+1:=by
  rw[BI,C']
 have Rc:(((s.heap.push (seqObj "list" #[] 0)).update s.heap.objs.size (Obj.mapSeq (· ++vs.toArray))).push (seqObj "list" vs.toArray 0)).get? (s.heap.objs.size+1)=some (seqObj "list" vs.toArray 0):=by
  rw[<-hsz];show AJ _ rfl
 change wpAny _ _ _ _ _ {s with heap:=((s.heap.push (seqObj "list" #[] 0)).update s.heap.objs.size (Obj.mapSeq (· ++vs.toArray))).push (seqObj "list" vs.toArray 0)};rw[hsz];show A0 (B2 (Al slot_list_sort {_,Rc,0} entry_list_sort (uG (s:={s with heap:=((s.heap.push (seqObj "list" #[] 0)).update s.heap.objs.size (Obj.mapSeq (· ++vs.toArray))).push (seqObj "list" vs.toArray 0)}) Rc h2 hL hp (λR=>QU R _) hc hs {1,?_}) (args_list_sort _)));show A3 {1,h}
end
inductive rSorted(K:W.Frag)(vs:List V)(H:Hp)(Q:VK):Prop
 |mk (l:Addr) (rs:List V) (c:Nat->Nat->Option Bool) (p:Array Nat):vs=[.ref l]->SqL K H l rs->2<=rs.length->rs.length<=1000->p.size<=1000->((∀r∈rs,∃a ys,r=.ref a/\SqL K H a ys))->((∀i j b,c i j=some b->∃x y,rs[i]? =some x/\rs[j]? =some y/\Ask K H x y b))->fq c rs.length=some p->((∀i∈p.toList,i<rs.length))->(∀q,H q=none->Q (.ref q) (upd H q (.lst (p.toList.map λi=>rs.getD i .non))))->rSorted K vs H Q
section
variable{X:Cx}
def GU(hr:Room k X.A):bP X (.builtin "sorted") (rSorted X.K):=by
 intro M6 s σ H xs us Q I r h;have{l,rs,c,p,0,hq,h2,hL,hps,hty,Rv,hs,Po,q}:=h;have{u,0,rx}:=c8 r;cases rx;have{M9,r',pl,hz}:=I.list hq;have ln:=r'.length;have hu:=hr.un;have I2:Inv X M6 σ H {s with heap:=jx s.heap M9}:=I.kept (t':=s.toks) λb o e=>Gr e;show GS (kd:=oneType') (vs:=M9) (c:=c) (p:=p) pl.isList (by lia) (by lia) hps (λR E hR=>kas_kind (T:= .type "list") (by lia) (λv hv=>?_) rfl rfl hR) (λi j b hb Q' QV=>?_) (by rw[<-ln];show hs) ?_
 .have{i,hi,0}:=DO.mp hv;have OW:i<rs.length:=by lia
  have{a,ys,e1,hy}:=hty rs[i] (DC OW);have{u,NA,ru}:=r'.get (A2 OW);rw[A2 hi] at NA;rw[e1] at ru;obtain rfl:u=Value.ref a:=ru;rw[Ao NA];have{js,r2,p2,z2}:=I2.list hy;have{o,ho,hc,_}:=p2.isList;show hc▸(Looks.ld ho).andThen .now
 .have{x,y,hx,hy,a1,a2,xs,ys,d,es,fs,0,0,h1,h2,hd,he,hf,0}:=Rv i j b hb;have{u,NA,ru}:=r'.get hx;have{v,OG,rv}:=r'.get hy;obtain rfl:u=Value.ref a1:=ru;obtain rfl:v=Value.ref a2:=rv;have g1:(fj M9 i).1=.ref a1:=by change M9.getD i .none=_;rw[List.getD,NA];rfl
  have g2:(fj M9 j).1=.ref a2:=by change M9.getD j .none=_;rw[List.getD,OG];rfl
  rw[g1,g2];show LtR.key I2 h1 h2 he hf (by rw[cJ,cJ];lia) QV
 .have{e,he}:=sortedAll_at s.heap M9 (p.map λi=>M9.getD i .none);have en:(p.map λi=>M9.getD i .none)=List.toArray (p.toList.map λi=>M9.getD i .none):=by
   apply Array.toList_inj.mp;simp
  rw[en] at he⊢;show{.ref (s.heap.objs.size+1),_,I.laid (t':=s.toks) (λ_ _=>sortedAll_old) (Cu _) (show aG X.prog X.w _ _ _ (.lst (p.toList.map λi=>rs.getD i .non)) from{?_,_,e,nE r' p.toList Po,he}),0,q _ (I.hok.fresh (Cu _))};rw[A1,B0,B1];lia
end
section
variable{X:Cx}
def uH(K:W.Frag):Sk V->Hp->VK->Prop:=λvs H Q=>(∃(l:Se) (rs:Sk V),vs=[.ref l]/\SqL K H l rs/\rs.length<2/\∀q,H q=none->Q (.ref q) (upd H q (.lst rs)))\/rSorted K vs H Q
def uI(hr:Room k X.A):bP X (.builtin "sorted") (uH X.K):=by
 intro M6 s σ H xs us Q I r h;rcases h with h|h
 .have{l,rs,0,hq,h2,q}:=h;have{u,0,rx}:=c8 r;cases rx;have{M9,r',pl,hz}:=I.list hq;have ln:=r'.length;show Gs (vs:=M9) pl.isList (by lia) ?_;have{e,he}:=sortedAll_at s.heap M9 M9.toArray;show{.ref (s.heap.objs.size+1),_,I.laid (t':=s.toks) (λ_ _=>sortedAll_old) (Cu _) (show aG X.prog X.w _ _ _ (.lst rs) from{hz,M9,e,r',he}),0,q _ (I.hok.fresh (Cu _))}
 .show GU hr M6 s σ H xs us Q I r h
end
structure Ordr(c:Nat->Nat->Bool):Prop where
 asym:∀a b,c a b=true->c b a=false
 tr:∀a b d,c b a=false->c d b=false->c d a=false
section
variable{c:Nat->Nat->Bool}
abbrev at0(p:Array Nat)(i:Nat):Nat:=p.getD i 0
def Up(c:Nat->Nat->Bool)(p:Array Nat)(m:Nat):Prop:=∀i j,i<j->j<m->c (at0 p j) (at0 p i)=false
def Dn(c:Nat->Nat->Bool)(p:Array Nat)(m:Nat):Prop:=∀i j,i<j->j<m->c (at0 p i) (at0 p j)=false
def Up.more(O:Ordr c)(h:Up c p m)(hm:0<m)(e:c (at0 p m) (at0 p (m-1))=false):Up c p (m+1):=by
 intro i j OH hj;by_cases hjm:j<m
 .show h i j OH hjm
 .obtain rfl:j=m:=by lia
  by_cases hi:i=j-1
  .subst hi;show e
  .show O.tr _ _ _ (h i (j-1) (by lia) (by lia)) e
def Dn.more(O:Ordr c)(h:Dn c p m)(hm:0<m)(e:c (at0 p (m-1)) (at0 p m)=false):Dn c p (m+1):=by
 intro i j OH hj;by_cases hjm:j<m
 .show h i j OH hjm
 .obtain rfl:j=m:=by lia
  by_cases hi:i=j-1
  .subst hi;show e
  .show O.tr _ _ _ e (h i (j-1) (by lia) (by lia))
def uJ(hj:j<=p.size)(k:Nat):at0 (kas_rev p i j) k=if i<=k/\k<j then at0 p (i+j-1-k) else at0 p k:=by
 have h:=getElem?_mirror_all (xs:=p) (i:=i) hj k;have e:∀q:Array Nat,∀k,at0 q k=(q[k]?).getD 0:=λq k=>by simp[at0,Array.getD];split<;>simp[*]
 rw[e,e,e];unfold kas_rev;rw[h];split<;>rfl
def M4(p:Array Nat)(i j:Nat):(kas_rev p i j).size=p.size:=mirror_size _ _ _ _
def Dn.rev_all(h:Dn c p m)(hm:m<=p.size):Up c (kas_rev p 0 m) m:=by
 intro i j OH hj;rw[uJ hm,uJ hm,A8 {4,hj},A8 {4,4}];show h _ _ (by lia) (by lia)
def uK{d:Nat}(hk:k<p.size)(hd:d<=k)(i:Nat):at0 (bubble p k d) i=if i=k-d then at0 p k else if k-d<i/\i<=k then at0 p (i-1) else at0 p i:=by
 have h:=getElem?_bubble hk d hd i;have e:∀q:Array Nat,∀k,at0 q k=(q[k]?).getD 0:=λq k=>by simp[at0,Array.getD];split<;>simp[*]
 rw[e,e,e,e,h];split
 .rfl
 .split<;>rfl
def cP(n:Nat)(c:Nat->Nat->Bool)(i j:Nat):Sn Bool:=if i<n/\j<n then some (c i j) else none
structure StrO(n:Nat)(c:Nat->Nat->Bool):Prop extends Ordr c where
 tot:∀i j,i<n->j<n->i≠j->c i j=false->c j i=true
def eE(h:Ord n p)(hi:i<n):p[i]? =some (at0 p i)/\at0 p i<n:=by
 have hz:i<p.size:=by rw[h.size];show hi
 have e:at0 p i=p[i]:=by simp[at0,Array.getD,hz]
 rw[e];show{Ac hz,h.lt (by simp)}
theorem uL(h:Ord n p)(hi:i<n)(hj:j<n)(OH:i≠j):at0 p i≠at0 p j:=λe=>by
 have nd:p.toList.Nodup:=(Ce.mp h).nodup_iff.mpr List.nodup_range;have h1:=(eE h hi).1;have h2:=(eE h hj).1;rw[<-BU] at h1 h2;show OH ((List.getElem?_inj (by rw[B0,h.size];show hi) nd).mp (by rw[h1,h2,e]))
def jE(h:Ord n p)(hi:i<n)(hj:j<n):cAt (cP n c) p i j=some (c (at0 p i) (at0 p j)):=by
 unfold cAt cP;rw[(eE h hi).1,Ap,(eE h hj).1,Ap,A8 {(eE h hi).2,(eE h hj).2}]
theorem nN{n:Nat}(O:StrO n c){p:Array Nat}(ho:Ord n p):∀(f m:Nat),m+f<=n->0<m->Up c p m->∃k,ay (im (cP n c) p 0) f m=some k/\m<=k/\k<=m+f/\Up c p k/\(k<m+f->c (at0 p k) (at0 p (k-1))=true)
 |0,m,_,_,h=>{m,0,AB _,AB _,h,λz=>absurd z (Bt _)}
 |f+1,m,hz,hm,h=>by
  unfold ay im;rw[C4,jE ho (by lia) (by lia),C0,Ap];cases e:c (at0 p m) (at0 p (m-1)) with
  |true=>
   rw[A8 rfl,A8 rfl];show{m,0,AB _,4,h,λ_=>e}
  |false=>
   rw[A6 AO,A6 AO];have{k,e2,h1,h2,h3,h4}:=nN O ho f (m+1) (by lia) (by lia) (h.more O.toOrdr hm e);show{k,e2,4,4,h3,λz=>h4 (by lia)}
theorem uM{n:Nat}(O:StrO n c){p:Array Nat}(ho:Ord n p):∀(f m:Nat),m+f<=n->0<m->Dn c p m->∃k,ay (jA (cP n c) 0) f (p,m,0)=some (p,k,0)/\m<=k/\k<=m+f/\Dn c p k
 |0,m,_,_,h=>{m,0,AB _,AB _,h}
 |f+1,m,hz,hm,h=>by
  unfold ay jA;dsimp only;rw[C4,jE ho (by lia) (by lia),Ap];cases e:c (at0 p m) (at0 p (m-1)) with
  |true=>
   rw[A8 rfl,A6 (Bt 0),Ap,A6 AO];have{k,e2,h1,h2,h3}:=uM O ho f (m+1) (by lia) (by lia) (h.more O.toOrdr hm (O.asym _ _ e));show{k,e2,4,4,h3}
  |false=>
   rw[A6 AO,jE ho (by lia) (by lia),Ap,O.tot _ _ (eE ho (by lia)).2 (eE ho (by lia)).2 (uL ho (by lia) (by lia) (by lia)) e,A8 rfl,Ap,A8 rfl];show{m,0,AB _,4,h}
def GV(O:StrO n c)(ho:Ord n p)(h0:0<n):∃r,jB (cP n c) 0 n p=some r/\1<=r.1/\r.1<=n/\Ord n r.2/\Up c r.2 r.1:=by
 have{m,e,h1,h2,h3,h4}:=nN O ho (n-1) 1 (by lia) (by decide) (λi j a b=>absurd b (by lia));unfold jB;rw[e,Ap];by_cases hm:(m==n)=true
 .rw[A8 hm];show{1,h1,by dsimp only;lia,ho,h3}
 have Rw:m≠n:=λz=>hm (by rw[z];show beq_self_eq_true n);rw[A6 hm];by_cases h5:m>1
 .rw[A8 h5,C4,jE ho (by lia) (by lia),Ap,O.tot _ _ (eE ho (by lia)).2 (eE ho h0).2 (uL ho (by lia) h0 (by lia)) (h3 0 (m-1) (by lia) (by lia)),A8 rfl];show{1,h1,by dsimp only;lia,ho,h3}
 .rw[A6 h5];obtain rfl:m=1:=by lia
  have d2:Dn c p 2:=Dn.more O.toOrdr (λi j a b=>absurd b (by lia)) (by decide) (O.asym _ _ (h4 (by lia)));have{k,e2,k1,k2,k3}:=uM O ho (n-(1+1)) 2 (by lia) (by decide) d2;unfold nL;rw[e2,Ap,A6 (Bt 0)];have ps:=ho.size;have NW:Ord n (rev p 0 (0+k)):=(mirror_perm p 0 (0+k) _).trans ho;have u2:Up c (rev p 0 (0+k)) k:=by
   rw[C4];show k3.rev_all (by lia)
  have{j,e3,j1,j2,j3,_}:=nN O NW (n-k) k (by lia) (by lia) u2;unfold nJ;rw[e3,C0];show{1,by dsimp only;lia,by dsimp only;lia,NW,j3}
theorem nO{n:Nat}(O:StrO n c){p:Array Nat}(ho:Ord n p){k:Nat}(hk:k<n)(hu:Up c p k):∀(f l r:Nat),r-l<=f->l<=r->r<=k->(∀i,i<l->c (at0 p k) (at0 p i)=false)->(∀i,r<=i->i<k->c (at0 p k) (at0 p i)=true)->
  ∃t,ay (bPl (cP n c) p 0 k) f (l,r)=some t/\t.1<=k/\(∀i,i<t.1->c (at0 p k) (at0 p i)=false)/\(∀i,t.1<=i->i<k->c (at0 p k) (at0 p i)=true)
 |0,l,r,hf,hl,hr,h1,h2=>by
  obtain rfl:l=r:=by lia
  show{1,hr,h1,h2}
 |f+1,l,r,hf,hl,hr,h1,h2=>by
  by_cases h:l>=r
  .obtain rfl:l=r:=by lia
   show{(l,l),?_,hr,h1,h2};unfold ay bPl;dsimp only;rw[A8 (AB _),Ap,A8 rfl]
  .have st:bPl (cP n c) p 0 k (l,r)=if c (at0 p k) (at0 p ((l+r)/2))=true then some (false,l,(l+r)/2) else some (false,(l+r)/2+1,r):=by
    unfold bPl;dsimp only;rw[A6 h,C4,C4,jE ho hk (by lia),Ap]
   unfold ay;rw[st];cases e:c (at0 p k) (at0 p ((l+r)/2)) with
   |true=>
    rw[A8 rfl,Ap,A6 AO];show nO O ho hk hu f l ((l+r)/2) (by lia) (by lia) (by lia) h1 λi a b=>?_;by_cases hi:i=(l+r)/2
    .subst hi;show e
    .cases q:c (at0 p k) (at0 p i) with
     |true=>rfl
     |false=>have:=O.tr _ _ _ (hu ((l+r)/2) i (by lia) b) q;rw[e] at this;cases this
   |false=>
    rw[A6 AO,Ap,A6 AO];show nO O ho hk hu f ((l+r)/2+1) r (by lia) (by lia) hr (λi a=>?_) h2;by_cases hi:i=(l+r)/2
    .subst hi;show e
    .show O.tr _ _ _ (hu i ((l+r)/2) (by lia) (by lia)) e
theorem uN{n:Nat}(O:StrO n c):∀(f k:Nat) (p:Array Nat),Ord n p->0<k->k+f<=n->Up c p k->∃q,gH (jC (cP n c) 0) f k p=some q/\Ord n q/\Up c q (k+f)
 |0,k,p,ho,_,_,h=>{p,0,ho,h}
 |f+1,k,p,ho,h0,hs,hu=>by
  have{t,e,a1,a2,a3}:=nO O ho (by lia) hu k 0 k (by lia) (by lia) (AB _) (λi z=>absurd z (by lia)) (λi z1 z2=>absurd z2 (by lia));have ps:=ho.size;have st:jC (cP n c) 0 k p=some (false,bubble p k (k-t.1)):=by
   unfold jC;rw[e,C0,C4,C4]
  unfold gH;rw[st,Ap,A6 AO];have NY:Up c (bubble p k (k-t.1)) (k+1):=by
   intro i j OH hj;rw[uK (by lia) (by lia),uK (by lia) (by lia),show k-(k-t.1)=t.1 by lia];by_cases j1:j=t.1
   .rw[A8 j1,A6 (by lia),A6 (by lia)];show a2 i (by lia)
   .rw[A6 j1];by_cases j2:t.1<j/\j<=k
    .rw[A8 j2];by_cases i1:i=t.1
     .rw[A8 i1];show O.asym _ _ (a3 (j-1) (by lia) (by lia))
     .rw[A6 i1];by_cases i2:t.1<i/\i<=k
      .rw[A8 i2];show hu _ _ (by lia) (by lia)
      .rw[A6 i2];show hu _ _ (by lia) (by lia)
    .rw[A6 j2,A6 (by lia),A6 (by lia)];show hu _ _ OH (by lia)
  have{q,e2,f1,f2}:=uN O f (k+1) _ (ho.bubble k (k-t.1)) (by lia) (by lia) NY;show{q,e2,f1,by rw[show k+(f+1)=k+1+f by lia];show f2}
def GW(O:StrO n c)(h0:0<n)(h64:n<64):∃p,fq (cP n c) n=some p/\Ord n p/\Up c p n:=by
 obtain⟨m,rfl⟩:∃m,n=m+1:={n-1,4};have hm:minRun' (m+1) (m+1) 0=m+1:=by rw[minRun'_succ,A8 h64]
 have{r,e,r1,r2,r3,r4}:=GV O (p:=(List.range (m+1)).toArray) (Array.Perm.refl _) h0;have{q,e2,q1,q2}:=uN O (m+1-r.1) r.1 r.2 r3 (by lia) (by lia) r4;rw[show r.1+(m+1-r.1)=m+1 by lia] at q2;have step:∃p,fN (cP (m+1) c) (m+1) (0,(List.range (m+1)).toArray, #[],7)=some (false,m+1,p, #[(0,m+1,0)],7)/\Ord (m+1) p/\Up c p (m+1):=by
  unfold fN;dsimp only;rw[A6 (Nat.not_succ_le_zero m),Nat.sub_zero,e,Ap,hm];by_cases h:r.1<m+1
  .rw[A8 h,Nat.min_self];unfold nM;rw[show max r.1 1=r.1 by lia,e2];show{q,by unfold io;simp,q1,q2}
  .rw[A6 h];have hr:r.1=m+1:=by lia
   rw[hr] at r4⊢;show{r.2,by unfold io;simp,r3,r4}
 have{p,e3,p1,p2}:=step;show{p,?_,p1,p2};unfold fq;have e4:∀f,ay (fN (cP (m+1) c) (m+1)) f (m+1,p, #[(0,m+1,0)],7)=some (m+1,p, #[(0,m+1,0)],7):=λf=>by
  cases f with
  |zero=>rfl
  |succ f=>
   unfold ay fN;rw[A8 (AB _)];rfl
 have e5:ay (fN (cP (m+1) c) (m+1)) (m+1) (0,(List.range (m+1)).toArray, #[],7)=some (m+1,p, #[(0,m+1,0)],7):=by
  unfold ay;rw[e3,Ap,A6 AO];show e4 m
 rw[e5,Ap];unfold ay kZ;rfl
end
theorem uO:∀{xs ys zs:Sk Int},xs.length=ys.length->ys.length=zs.length->cz false ys xs=false->cz false zs ys=false->cz false zs xs=false
 |[],[],[],_,_,_,_=>rfl
 |x::xs,y::ys,z::zs,h1,h2,a,b=>by
  unfold cz at a b⊢;by_cases e1:y=x
  .rw[A8 e1] at a;by_cases e2:z=y
   .rw[A8 e2] at b;rw[A8 (e2.trans e1)];show uO (by simpa using h1) (by simpa using h2) a b
   .rw[A6 e2] at b;have:=Cq b;rw[A6 (by lia)];show An (by lia)
  .rw[A6 e1] at a;have a:=Cq a;by_cases e2:z=y
   .rw[A6 (by lia)];show An (by lia)
   .rw[A6 e2] at b;have:=Cq b;rw[A6 (by lia)];show An (by lia)
theorem uP:∀{xs ys:Sk Int},xs.length=ys.length->cz false xs ys=true->cz false ys xs=false
 |[],[],_,h=>nomatch h
 |x::xs,y::ys,hl,h=>by
  unfold cz at h⊢;by_cases e:x=y
  .rw[A8 e] at h;rw[A8 e.symm];show uP (by simpa using hl) h
  .rw[A6 e] at h;have:=B6 h;rw[A6 (by lia)];show An (by lia)
theorem uQ:∀{xs ys:Sk Int},xs.length=ys.length->cz false xs ys=false->cz false ys xs=false->xs=ys
 |[],[],_,_,_=>rfl
 |x::xs,y::ys,hl,h,k=>by
  unfold cz at h k;by_cases e:x=y
  .rw[A8 e] at h;rw[A8 e.symm] at k;rw[e,uQ (by simpa using hl) h k]
  .rw[A6 e] at h;rw[A6 (DE e)] at k;have:=Cq h;have:=Cq k;lia
def k8{xs ys:Sk Int}(h:xs.length=ys.length):ltI xs ys=cz false xs ys:=by
 unfold ltI;rw[An (by lia)]
def ip(xss:Sk (Sk Int))(i:Nat):Sk Int:=xss.getD i (xss.headD [])
def ft(xss:Sk (Sk Int))(i j:Nat):Bool:=ltI (ip xss i) (ip xss j)
def lg(h:i<xss.length):ip xss i=xss.getD i []:=by
 unfold ip;rw[A5,A5,A2 h];rfl
def uR(hi:i<xss.length)(hj:j<xss.length):ft xss i j=ltI (xss.getD i []) (xss.getD j []):=by
 unfold ft;rw[lg hi,lg hj]
def nP(h0:0<xss.length)(h:∀xs∈xss,xs.length=m)(i:Nat):(ip xss i).length=m:=by
 unfold ip;rw[A5];cases e:xss[i]? with
 |some x=>show h x (AR e)
 |none=>
  cases xss with
  |nil=>cases h0
  |cons x xs=>show h x (by simp)
def GX(h0:0<xss.length)(h:∀xs∈xss,xs.length=m):Ordr (ft xss):=by
 have k:=nP h0 h;show{λa b e=>?_,λa b d e1 e2=>?_}
 .unfold ft at e⊢;rw[k8 (by rw[k,k])] at e⊢;show uP (by rw[k,k]) e
 .unfold ft at e1 e2⊢;rw[k8 (by rw[k,k])] at e1 e2⊢;show uO (by rw[k,k]) (by rw[k,k]) e1 e2
def GY(h0:0<xss.length)(h:∀xs∈xss,xs.length=m)(nd:xss.Nodup):StrO xss.length (ft xss):=by
 show{GX h0 h,λi j hi hj OH e=>?_};cases k:ft xss j i with
 |true=>rfl
 |false=>
  exfalso;have li:=nP h0 h i;have lj:=nP h0 h j;unfold ft at e k;rw[k8 (by rw[li,lj])] at e;rw[k8 (by rw[li,lj])] at k;have:=uQ (by rw[li,lj]) e k;rw[lg hi,lg hj,A5,A5,A2 hi,A2 hj] at this;show OH ((List.getElem?_inj hi nd).mp (by rw[A2 hi,A2 hj];show BB some this))
end L2
namespace HT
open PySem PySem.Spec PyProof.Rows
section
variable{prog:Sf}{w:Si}{A:Sj}{E:PP->Sc->Prop}{s:Sc}
def getItem_tuple_all{t sl:Se}{items:Array PP}{vl vu:PP}{lo hi:Sn Int}{Q:PP->Sc->Prop}(ht:IsTup s.heap t items)(hs:s.heap.IsSliceOf sl vl vu .none)(pl:IsPart vl lo)(pu:IsPart vu hi)
  (hw:sIx items.size 0 lo=0/\sIx items.size items.size hi=items.size) (h:Q (.ref t) s):wpAny (model prog w) A (getItem (.ref t) (.ref sl)) Q E s:=by
 have{os,Rf,Rg,hds}:=id hs;have hTs:s.TypeIs (.ref sl) "slice":={os,Rf,Rg};unfold getItem;try with_reducible show B2 ?_
 first|show A0 (A3 ?_)|skip
 show A0 (wpAny_sequenceKey ht.typeIs (by decide) ?_);show A0 (B5 (name:=Str.ofString "__getitem__") ht.typeIs BW
  (Al BW ht.typeIs entry_tuple_getitem ?_ (args_tuple_getitem _ _)))
 change wpAny _ _ (Builtin.Tuple.tupleItemsOf (.ref t)>>=_) _ _ s;show A0 (tupleItemsOf_ ht ?_);show A0 (DI hTs ?_);rw[A8 (by decide)];show A0 (sS hs pl pu ?_);have hyes:(((sIx items.size 0 lo:Nat):Int)==0&&(1:Int)==1&&(sIx items.size items.size hi-sIx items.size 0 lo)==items.size)=true:=by
  rw[hw.1,hw.2];simp
 change wpAny _ _ (if(((sIx items.size 0 lo:Nat):Int)==0&&(1:Int)==1&&(sIx items.size items.size hi-sIx items.size 0 lo)==items.size)=true then _ else _) _ _ s;rw[A8 hyes];unfold Builtin.Tuple.tupleIsExact;show A0 (A0 (DI ht.typeIs (A3 ?_)));rw[A8 (by decide)];show A0 (CD ?_);show A3 {1,A3 h}
end
end HT
namespace L2
open PySem PySem.Spec PyProof.Rows
variable{n:Nat}{x:V}
section
variable{X:Cx}
inductive rSlA(K:W.Frag)(x:V)(lo:Option Int)(hi:Option Int)(H:Hp)(Q:VK):Prop
 |mk a xs:x=.ref a->SqT K H a xs->(((HT.sIx xs.length 0 lo=0/\HT.sIx xs.length xs.length hi=xs.length)->Q (.ref a) H))->((¬(HT.sIx xs.length 0 lo=0/\HT.sIx xs.length xs.length hi=xs.length)->∀p,H p=none->Q (.ref p) (upd H p (.tup (bR xs lo hi)))))->rSlA K x lo hi H Q
def GZ:SlR X (rSlA X.K):=by
 intro M6 s σ H x v vl vu lo hi sl Q I rx hs pl pu h;have{a,xs,0,hx,q1,q2}:=h;by_cases hw:HT.sIx xs.length 0 lo=0/\HT.sIx xs.length xs.length hi=xs.length
 .cases rx;have{M9,r,ht,hz}:=I.tuple hx;have Na:M9.toArray.size=xs.length:=by rw[AH];show r.length.symm
  show{"tuple",_,BW.lookup,ht.typeIs,?_};show HT.getItem_tuple_all ht hs pl pu (by rw[Na];show hw) {.ref a,H,I,0,q1 hw}
 .show EU M6 s σ H _ v vl vu lo hi sl Q I rx hs pl pu {a,xs,0,hx,hw,q2 hw}
end
open PySem.W
section
variable{X:Cx}{M6:Sk (Se×Obj)}{σ:St}{H:Hp}{s:Sc}
def bvs(bs:Sk Bool):Array PP:=(bs.map Value.bool).toArray
def EqT(K:W.Frag)(H:Hp)(n:Nat)(x y:V)(e:Bool):Prop:=∀(X:Cx) (M6:Sk (Se×Obj)) (σ:St) (s:Sc),X.K=K->Inv X M6 σ H s->∀(A:Sj) (u v:PP),A.units+n<cLine->aw x u->aw y v->SeqAt.EqAt A s u v e
theorem EqR.told{K:W.Frag}{y:V}{e:Bool}(h:EqR K H n x y e):EqT K H n x y e:=λX M6 σ s hk I A u v hu ru rv=>by
 subst hk;show(h.bN I (A:=A) hu ru rv).2.2
def nQ(K:W.Frag)(H:Hp)(n:Nat)(xs:Sk V)(x:V)(es:Nat->Bool):Prop:=n<=8/\(∀(j:Nat) z,xs[j]? =some z->(∃a,z=.ref a)/\EqT K H n z x (es j))/\∀(i j:Nat) z,xs[i]? =some z->xs[j]? =some z->es i=es j
open Classical in
def uS{xs:Sk V}{es:Nat->Bool}{M9:Sk PP}(t:nQ X.K H n xs x es)(r:au xs M9){j:Nat}{u:PP}(hu:M9[j]? =some u):fL M9 es u=es j:=by
 have same:∀i:Nat,M9[i]? =some u->es i=es j:=λi hi=>by
  have li:=(AF.mp hi).1;have lj:=(AF.mp hu).1;have ln:=r.length;have xi:xs[i]? =some xs[i]:=A2 (by lia);have xj:xs[j]? =some xs[j]:=A2 (by lia);have{u1,e1,r1}:=r.get xi;have{u2,e2,r2}:=r.get xj;rw[hi] at e1;rw[hu] at e2;cases e1;cases e2;have{{a,ea},_}:=t.2.1 i _ xi;have{{b,eb},_}:=t.2.1 j _ xj;rw[ea] at r1 xi;rw[eb] at r2 xj;obtain rfl:u=Value.ref a:=r1;have:Value.ref a=Value.ref b:=r2;cases this;show t.2.2 i j _ xi xj
 unfold fL;cases h:es j with
 |true=>show Ay {j,hu,h}
 |false=>show An λ⟨i,hi,e⟩=>by rw[same i hi,h] at e;cases e
inductive rCountD(K:W.Frag)(o:V)(vs:List V)(H:Hp)(Q:VK):Prop
 |mk (p:Addr) (xs:List V) (x:V) (n:Nat) (es:Nat->Bool):o=.ref p->vs=[x]->SqL K H p xs->nQ K H n xs x es->Q (.int (((List.range xs.length).countP es:Nat):Int)) H->rCountD K o vs H Q
def G0{k:Nat}(hr:Room k X.A):MtM X "list.count" (rCountD X.K):=by
 intro M6 s σ H o vs v us Q I ro rv h;have{p,xs,x,n,es,0,0,hq,t,q}:=h;cases ro;have{u,0,ru}:=au.one rv;have hu:=hr.un;have t8:=t.1;have{M9,r,pl,hz}:=I.list hq;have ln:=r.length;have{{cls,dd,data,sl},ho,hc,m,hd}:=pl.isList;simp only at hc hd;subst hc hd;have ec:M9.toArray.toList.countP (fL M9 es)=(List.range xs.length).countP es:=by
  have e1:M9=(List.range M9.length).map λi=>M9.getD i .none:=by
   show DD (by simp) λi h1 h2=>?_;simp[h1]
  have e2:M9.countP (fL M9 es)=((List.range M9.length).map λi=>M9.getD i .none).countP (fL M9 es):=by rw[<-e1]
  change M9.countP (fL M9 es)=_;rw[e2,List.countP_map,ln];show List.countP_congr λi hi=>?_;have OW:i<M9.length:=by simpa using hi
  have:fL M9 es (M9.getD i .none)=es i:=uS t r (by rw[A5,A2 OW];rfl);simp only[Function.comp_apply,this]
 show Dc F.slot_list_count {_,ho,0} F.entry_list_count (F.args_list_count_2 _ _) (SeqAt.list_countAt p M9.toArray m dd sl u (fL M9 es)) {ho,λy hy=>?_,?_}
 .have{j,hj,e}:=DO.mp (by simpa using hy);have ej:M9[j]? =some y:=by rw[A2 hj,e]
  have xj:xs[j]? =some xs[j]:=A2 (by lia);have{u2,e2,r2}:=r.get xj;rw[ej] at e2;cases e2;rw[uS t r ej];show(t.2.1 j _ xj).2 X M6 σ s rfl I _ _ _ (by rw[cJ];lia) r2 ru
 rw[ec];show{.int _,H,I.tok _,{1},q}
end
end L2
namespace L2
open PySem PySem.SetTable PySem.Spec PyProof.Rows
variable{Q:Bool->Sc->Prop}{S a b it x:Se}{ad:Nat->Se}{ep i m n p slot:Nat}{es:Array (Int×PP)}{h h':Sm}{k:Sk Int}{kk:Nat->Sk Int}{ks:Array (Sk Int)}{o:Obj}{vs:Sk PP}{xs:Array Nat}{xss:Sk (Sk Int)}
def Ris(xs:Array Nat):Prop:=∀i j,i<j->j<xs.size->xs.getD i 0<xs.getD j 0
def uT(h:i<xs.size)(a b:Nat):xs.getD i a=xs.getD i b:=by simp[Array.getD,h]
theorem nR{xs:Array Nat}{j:Nat}(r:Ris xs):∀(f lo hi:Nat),hi-lo<=f->lo<=hi->hi<=xs.size->(∀i,i<lo->xs.getD i 0<j)->(∀i,hi<=i->i<xs.size->j<=xs.getD i 0)->
  lo<=below.go xs j f lo hi/\below.go xs j f lo hi<=hi/\(∀i,i<below.go xs j f lo hi->xs.getD i 0<j)/\(∀i,below.go xs j f lo hi<=i->i<xs.size->j<=xs.getD i 0)
 |0,lo,hi,hf,hl,hh,h1,h2=>by
  unfold below.go;have:lo=hi:=by lia
  subst this;show{AB _,AB _,h1,h2}
 |f+1,lo,hi,hf,hl,hh,h1,h2=>by
  unfold below.go;by_cases c:lo<hi
  .rw[A8 c];dsimp only;have hm:(lo+hi)/2<xs.size:=by lia
   by_cases c2:xs.getD ((lo+hi)/2) j<j
   .rw[A8 c2];rw[uT hm j 0] at c2;have{a,b,c,d}:=nR r f ((lo+hi)/2+1) hi (by lia) (by lia) hh (λi OW=>by
     by_cases e:i=(lo+hi)/2
     .rw[e];show c2
     .show Nat.lt_trans (r i _ (by lia) hm) c2) h2
    show{4,b,c,d}
   .rw[A6 c2];rw[uT hm j 0] at c2;have{a,b,c,d}:=nR r f lo ((lo+hi)/2) (by lia) (by lia) (by lia) h1 (λi h3 h4=>by
     by_cases e:i=(lo+hi)/2
     .rw[e];lia
     .have:=r ((lo+hi)/2) i (by lia) h4;lia)
    show{a,4,c,d}
  .rw[A6 c];have:lo=hi:=by lia
   subst this;show{AB _,AB _,h1,h2}
def G1(r:Ris xs)(j:Nat):below xs j<=xs.size/\(∀i,i<below xs j->xs.getD i 0<j)/\(∀i,below xs j<=i->i<xs.size->j<=xs.getD i 0):=by
 have{_,b,c,d}:=nR (j:=j) r xs.size 0 xs.size (by lia) (AW _) (AB _) (λi h=>absurd h (by lia)) (λi h1 h2=>by lia);show{b,c,d}
def hAt(es:Array (Int×PP))(i:Nat):Int:=(es[i]?.map (·.1)).getD 0
structure Tb(t:SetTable)(es:Array (Int×PP)):Prop where
 size:t.place.size=es.size
 dum:t.dummies= #[]
 ris:Ris t.place
 few:es.size<64
def uU{α:Type}{xs:Array α}{a:α}(h:xs[i]? =some a):i<xs.size:=by
 rcases Be i xs.size with c|c
 .show c
 .rw[BP c] at h;show nomatch h
def lm{t:SetTable}(b:Tb t es)(hs:es.size<=t.mask):t.fits es.size=true:=by
 have h1:t.fill<=t.mask:=by
  unfold SetTable.fill;rw[b.dum,b.size];show hs
 unfold SetTable.fits;rw[b.size,Ay h1];simp
def hK(k:Sk Int):Int:=reduceHash (Builtin.Tuple.tupleHashOf (k.map hashInt))
def okT(t:SetTable)(n:Nat):Bool:=t.fits n&& !t.gaveWay&&t.plain
def srE(t:SetTable)(ks:Array (Sk Int))(k:Sk Int):Nat->Probe->Sn (Sn Nat)
 |0,_=>none
 |f+1,p=>match t.probe (λi=>(ks[i]?.map hK).getD 0) (hK k) p with
  |some (.empty j none)=>some (some j)
  |some (.candidate j i next)=>match ks[i]? with
   |some k'=>if k'=k then some none else if t.slot j=.live i then srE t ks k f next else none
   |none=>none
  |_=>none
abbrev Ks:=SetTable×Array (Sk Int)
variable{y:Ks}
def reE(t:SetTable)(ks:Array (Sk Int)):Sn Ks:=(t.relaid (ks.map hK) (grown ks.size)).bind λr=>
 if(r.2.filterMap (ks[·]?)).size=ks.size/\sizeAbove (grown ks.size)<=4096 then some (r.1,r.2.filterMap (ks[·]?)) else none
def puE(t:SetTable)(ks:Array (Sk Int))(k:Sk Int)(j:Nat):Sn Ks:=
 if(t.put j).2<=ks.size/\ks.size<64/\okT (t.put j).1 (ks.size+1)=true then
  if(t.put j).1.tooFull=true then reE (t.put j).1 (insertAt ks (t.put j).2 k) else some ((t.put j).1,insertAt ks (t.put j).2 k)
 else none
def adE(x:Ks)(k:Sk Int):Sn Ks:=if okT x.1 x.2.size=true then(srE x.1 x.2 k 300 (x.1.probeStart (hK k))).bind λr=>match r with
  |none=>some x
  |some j=>puE x.1 x.2 k j
 else none
def stE(x:Ks):Sk (Sk Int)->Sn Ks
 |[]=>some x
 |k::r=>(adE x k).bind λy=>stE y r
theorem uV{x y:Ks}:∀{l:Sk (Sk Int)}{i:Nat}{k:Sk Int},stE x (l.take i)=some y->l[i]? =some k->stE x (l.take (i+1))=adE y k
 |[],i,k,_,h=>by simp at h
 |a::l,0,k,h,hk=>by
  cases hk;cases h;change(adE x a).bind (λy=>stE y [])=_;cases adE x a<;>rfl
 |a::l,i+1,k,h,hk=>by
  rw[BS,stE] at h⊢;have{z,hz,h}:=AA.mp h;rw[hz,Ap];show uV (l:=l) h hk
theorem uW{x y:Ks}:∀{l:Sk (Sk Int)},stE x l=some y->∀i,∃z,stE x (l.take i)=some z
 |[],_,i=>{x,by simp[stE]}
 |a::l,h,0=>{x,0}
 |a::l,h,i+1=>by
  rw[stE] at h;have{z,hz,h}:=AA.mp h;have{u,hu}:=uW (l:=l) h i;show{u,by rw[BS,stE,hz];show hu}
structure EsK(kk:Nat->Sk Int)(ad:Nat->Se)(n:Nat)(es:Array (Int×PP))(ks:Array (Sk Int)):Prop where
 size:es.size=ks.size
 bN:∀(i:Nat) (k:List Int),ks[i]? =some k->∃j,j<n/\kk j=k/\es[i]? =some (hK k,.ref (ad j))
def EsK.hash(e:EsK kk ad n es ks):hAt es=λi=>(ks[i]?.map hK).getD 0:=by
 funext i
 unfold hAt;cases h:ks[i]? with
 |none=>
  have:es[i]? =none:=by rw[C7,e.size,<-C7];show h
  rw[this];rfl
 |some k=>
  have{j,_,_,h2}:=e.bN i k h;rw[h2];rfl
def EsK.of(e:EsK kk ad n es ks){v:Int×PP}(h:es[i]? =some v):∃j,j<n/\ks[i]? =some (kk j)/\v=(hK (kk j),.ref (ad j)):=by
 have hi:i<ks.size:=by rw[<-e.size];show uU h
 have{j,h1,h2,h3}:=e.bN i _ (Ac hi);rw[h] at h3;cases h3;show{j,h1,by rw[Ac hi,h2],by rw[h2]}
def EsK.mono(e:EsK kk ad n es ks)(h:n<=m):EsK kk ad m es ks:={e.size,λi k hk=>let ⟨j,h1,h2⟩:=e.bN i k hk;{j,Aq h1 h,h2}}
def uX{α:Type}{xs:Array α}(hp:p<=xs.size)(x:α)(i:Nat):(insertAt xs p x)[i]? =if i<p then xs[i]? else if i=p then some x else xs[i-1]? :=by
 unfold insertAt;have s1:(xs.extract 0 p).size=p:=by simp;lia
 have s2:((xs.extract 0 p).push x).size=p+1:=by simp;lia
 by_cases h1:i<p
 .rw[A8 h1,Array.getElem?_append_left (by rw[s2];lia),Array.getElem?_push,A6 (by rw[s1];lia)];simp[Array.getElem?_extract];lia
 .rw[A6 h1];by_cases h2:i=p
  .rw[A8 h2,Array.getElem?_append_left (by rw[s2];lia),Array.getElem?_push,A8 (by rw[s1];show h2)]
  .rw[A6 h2,Array.getElem?_append_right (by rw[s2];lia),s2];simp only[Array.getElem?_extract];by_cases h3:i-(p+1)<xs.size-p
   .rw[A8 (by lia)];congr 1
    lia
   .rw[A6 (by lia)];symm;rw[C7];lia
def nS{α:Type}{xs:Array α}(hp:p<=xs.size)(x:α):(insertAt xs p x).size=xs.size+1:=by
 unfold insertAt;simp;lia
section
variable{prog:Sf}{w:Si}{A:Sj}{E:PP->Sc->Prop}{s:Sc}
def uY(h:ItemsAre (intKind prog w) k vs):∀v∈vs,∃n t,v=.int n t:=by
 induction h with
 |nil=>intro v hv;simp at hv
 | @cons k v' ks vs h1 _ ih=>
  intro v hv;rcases AI.mp hv with rfl|hv
  .cases v with
   |int n t=>show{n,t,0}
   |_=>show absurd h1 (by simp[intKind,Value.isInt])
  .show ih v hv
def uZ(hx:IsTupleKey (intKind prog w) s.heap k x)(h:Q false s):
  wpAny (model prog w) A (ofAClassStatement 8 (.ref x)) Q E s:=by
 have hT:=hx.typeIs;have{o,items,n,ho,hc,hd,hi}:=hx;unfold ofAClassStatement;show A0 (DI hT ?_);change wpAny _ _ ((if("tuple"=="tuple")=true then pure true else isSubtype (.type "tuple") (.type "tuple"))>>=_) _ _ s;show A0 (A3 ?_);simp only[BL,AN,Au];show A0 (Bj ho hd ?_);show A0 ?_;change wpAny _ _ (forIn items _ _) _ _ s;rw[<-Ct];show C9 _ (λaW r s'=>r.1=none/\s'=s/\∀v∈aW,∃n t,v=Value.int n t) _ ?_ ?_ _ _ {0,0,uY hi}
 .rintro v aW r s' ⟨hr,rfl,NE⟩;have{n,t,0}:=NE v AE;show A0 (Df (show ofAClassStatement 7 (.int n t)=pure false from by unfold ofAClassStatement;rfl) (A3 ?_));simp only[AN,Au];show{trivial,trivial,λu Rx=>NE u (AG _ Rx)}
 .rintro⟨r1,r2⟩ s' ⟨hr,rfl,_⟩;simp only at hr;subst hr;show A3 h
def G2(hx:IsTupleKey (intKind prog w) s.heap k x)(ys:Sk PP)
  (hy:∀y∈ys,∃b j,y=.ref b/\IsTupleKey (intKind prog w) s.heap j b) (h:Q false s):
  wpAny (model prog w) A (searchCouldBeSeen (.ref x) ys) Q E s:=by
 unfold searchCouldBeSeen;show A0 ?_;show C9 _ (λaW r s'=>r.1=none/\s'=s/\∀v∈aW,∃b j,v=Value.ref b/\IsTupleKey (intKind prog w) s.heap j b) _ ?_ ?_ _ _ {0,0,hy}
 .rintro v aW r s' ⟨hr,rfl,NE⟩;have{b,j,0,hj}:=NE v AE;have QW:∀u∈aW,∃b j,u=Value.ref b/\IsTupleKey (intKind prog w) s'.heap j b:=λu Rx=>NE u (AG _ Rx);dsimp only;split
  .show A3 {0,0,QW}
  .show A0 (wpAny_eqIsQuiet_tuple hx ?_);simp only[BL,AN,Au];show A0 (wpAny_eqIsQuiet_tuple hj ?_);simp only[BL,AN,Au];show A0 (uZ hx ?_);simp only[AN,Au];show A0 (uZ hj ?_);simp only[AN,Au];show A3 {0,0,QW}
 .rintro⟨r1,r2⟩ s' ⟨hr,rfl,_⟩;simp only at hr;subst hr;show A3 h
def G3(a:Addr)(x:Value)(h:Int)(NQ:Bool)(fuel:Nat)(N9:Option Probe):setSearchFrom a x h NQ (fuel+1) N9=(do
  let (es,_,t)<-setState a
  if t.gaveWay then unsupported "set:on-a-table-that-gave-way"
  let some met:=t.probe (hAt es) h (N9.getD (t.probeStart h))|unsupported "internal:set-table-without-an-empty-slot"
  match met with
  |.empty j dummy=>
   match dummy with
   |none=>return .free j false
   |some d=>
    if NQ&&t.slot d != .dummy then rule "set.search.the-dummy-was-taken";return<-setSearchFrom a x h NQ fuel none
    return .free d true
  |.candidate j i next=>
   if !t.led then
    if<-searchCouldBeSeen x ((es.filter (·.1==h)).toList.map (·.2)) then unsupported "set:the-search-would-show-the-table"
   let some (_,y):=es[i]? |unsupported "internal:set-entry"
   let OQ<-holding [y] (eqBool y x)
   let (NH,_,t')<-setState a
   if NQ&&OQ then return .there none
   let some same:=t'.sameMemory t.moves t.mask|unsupported "set.changed-during-lookup:is-the-new-block-at-the-old-address"
   let PU<-match(if same then t'.slot j else .empty) with
    |.live i'=>match NH[i']? with
     |some (_,y')=>do pure (if<-isSame y' y then some i' else none)
     |none=>pure none
    |_=>pure none
   match PU with
   |none=>rule "set.search.anew";setSearchFrom a x h NQ fuel none
   |some i'=>if OQ then return .there (some i') else setSearchFrom a x h NQ fuel (some next)):=rfl
theorem u7{a:Addr}{o:Obj}{es:Array (Int×Value)}{ks:Array (List Int)}{ep:Nat}{t:SetTable}{kk:Nat->List Int}{ad:Nat->Addr}{n:Nat}(ho:s.heap.get? a=some o)(hd:o.data=.set es ep t)(hf:t.fits es.size=true)(hw:t.gaveWay=false)
  (hu:A.units<cLine) (ek:EsK kk ad n es ks) (hkk:∀j,j<n->IsTupleKey (intKind prog w) s.heap (kk j) (ad j)) {k:List Int}{x:Addr} (hx:IsTupleKey (intKind prog w) s.heap k x) {Q:SetFound->Shared->Prop}{r:Option Nat}
  (hQ:Q (match r with|none=>.there none|some j=>.free j false) s):
  ∀(m fuel:Nat) (N9:Option Probe),srE t ks k m (N9.getD (t.probeStart (hK k)))=some r->m<=fuel->
   wpAny (model prog w) A (setSearchFrom a (.ref x) (hK k) true fuel N9) Q E s
 |0,_,_,h,_=>nomatch h
 |m+1,0,_,_,h=>absurd h (by lia)
 |m+1,fuel+1,N9,h,hm=>by
  rw[G3];show A0 (BX ho hd hf ?_);dsimp only;rw[hw];simp only[AN,Au];rw[srE] at h;rw[ek.hash];generalize hp:t.probe (λi=>(ks[i]?.map hK).getD 0) (hK k) (N9.getD (t.probeStart (hK k)))=met at h⊢
  match met,h with
  |some (.empty j none),h=>
   cases h;show A3 hQ
  |some (.candidate j i next),h=>
   dsimp only at h⊢;cases hk:ks[i]? with
   |none=>rw[hk] at h;cases h
   |some k'=>
    rw[hk] at h;dsimp only at h;have{jj,j1,0,ey}:=ek.bN i k' hk;have hy:=hkk jj j1;have hSeen:∀y∈(es.filter (λe=>e.1==hK k)).toList.map (·.2),∃b j,y=Value.ref b/\IsTupleKey (intKind prog w) s.heap j b:=by
     intro y hy;have{e,he,0}:=Ae.mp hy;have Qu:e∈es:=(Array.mem_filter.mp (Array.mem_toList_iff.mp he)).1;have{i,hi,ei}:=Array.mem_iff_getElem.mp Qu;have{q,q1,_,q3}:=ek.of (Ac hi);rw[ei] at q3;subst q3;show{3,hkk q q1}
    have QX:wpAny (model prog w) A (do
      let some (_,y):=es[i]? |unsupported "internal:set-entry"
      let OQ<-holding [y] (eqBool y (.ref x))
      let (NH,_,t')<-setState a
      if true&&OQ then return SetFound.there none
      let some same:=t'.sameMemory t.moves t.mask|unsupported "set.changed-during-lookup:is-the-new-block-at-the-old-address"
      let PU<-match(if same then t'.slot j else .empty) with
       |.live i'=>match NH[i']? with
        |some (_,y')=>do pure (if<-isSame y' y then some i' else none)
        |none=>pure none
       |_=>pure none
      match PU with
      |none=>rule "set.search.anew";setSearchFrom a (.ref x) (hK k) true fuel none
      |some i'=>if OQ then return SetFound.there (some i') else setSearchFrom a (.ref x) (hK k) true fuel (some next)) Q E s:=by
     rw[ey];dsimp only;show A0 (B2 (wpAny_eqBool_tuple hu hy hx ?_));show A0 (BX ho hd hf ?_);dsimp only;by_cases Oz:kk jj=k
     .rw[A8 Oz] at h;cases h;rw[Ay Oz];simp only[Bool.true_and,CF];show A3 hQ
     .rw[A6 Oz] at h;rw[An Oz];simp only[Cd,AN,Au];have hsm:t.sameMemory t.moves t.mask=some true:=by unfold SetTable.sameMemory;simp
      rw[hsm];dsimp only;by_cases hs:t.slot j=.live i
      .rw[A8 hs] at h;rw[A8 rfl,hs];dsimp only;rw[ey];dsimp only;show A0 ?_;show wpAny_isSame_ref_self ?_;simp only[CF];show u7 ho hd hf hw hu ek hkk hx hQ m fuel (some next) h (by lia)
      .rw[A6 hs] at h;cases h
    cases hl:t.led with
    |true=>simpa only[BL,AN,Au] using QX
    |false=>
     simp only[D4,CF];show A0 (G2 hx _ hSeen ?_);simp only[AN,Au];show QX
def u8{es:Array (Int×PP)}{ep:Nat}{t:SetTable}(ho:h.get? a=some {cls:= .type "set",dict:=none,data:= .set es ep t})(NH:Array (Int×PP))(t':SetTable):
  (h.update a (Obj.putSet NH t')).get? a=some {cls:= .type "set",dict:=none,data:= .set NH (ep+1) t'}:=by
 have:=Bw (Obj.putSet NH t') ho (by rw[putSet_of NH t' rfl];rfl);rw[putSet_of NH t' rfl] at this;show this
def G4(hx:IsTupleKey (intKind prog w) s.heap k x)(h:Q true s):
  wpAny (model prog w) A (hashByValue 8 (.ref x)) Q E s:=by
 have hT:=hx.typeIs;have{o,items,n,ho,hc,hd,hi}:=hx;unfold hashByValue;show A0 (C6 hT DP.lookup ?_);dsimp only;show A0 (Bj ho hd ?_);show A0 ?_;change wpAny _ _ (forIn items _ _) _ _ s;rw[<-Ct];show C9 _ (λaW r s'=>r.1=none/\s'=s/\∀v∈aW,∃n t,v=Value.int n t) _ ?_ ?_ _ _ {0,0,uY hi}
 .rintro v aW r s' ⟨hr,rfl,NE⟩;have{n,t,0}:=NE v AE;show A0 (Df (show hashByValue 7 (.int n t)=pure true from by unfold hashByValue;rfl) (A3 ?_));simp only[BL,AN,Au];show{trivial,trivial,λu Rx=>NE u (AG _ Rx)}
 .rintro⟨r1,r2⟩ s' ⟨hr,rfl,_⟩;simp only at hr;subst hr;show A3 h
def G5(a:Addr)(O2:Nat):setRelay a O2=(do
  let (es,_,t)<-setState a
  if SetTable.sizeAbove O2>sizeLine then unsupported "set:memory"
  let (es,t)<-(do
   let some (t,order):=t.relaid (es.map (·.1)) O2|unsupported "internal:set-table-without-room"
   let NH:=order.filterMap (es[·]?)
   if NH.size !=es.size then unsupported "internal:set-table-lost-an-element"
   pure (NH,t):Sem (Array (Int×Value)×SetTable))
  storeSet a es t):=rfl
def eI(h:Sm)(S:Se)(t:SetTable)(es:Array (Int×PP)):Prop:=∃ep,h.get? S=some {cls:= .type "set",dict:=none,data:= .set es ep t}
def EsK.ins{kk:Nat->Sk Int}{ad:Nat->Se}{n:Nat}{es:Array (Int×PP)}{ks:Array (Sk Int)}(e:EsK kk ad n es ks){p:Nat}(hp:p<=ks.size):EsK kk ad (n+1) (insertAt es p (hK (kk n),.ref (ad n))) (insertAt ks p (kk n)):=by
 have NR:p<=es.size:=by rw[e.size];show hp
 show{by rw[nS NR,nS hp,e.size],λi k h=>?_};rw[uX hp] at h;rw[uX NR];have Ot:∀i,ks[i]? =some k->∃j,j<n+1/\kk j=k/\es[i]? =some (hK k,Value.ref (ad j)):=λi h=>let ⟨j,h1,h2⟩:=e.bN i k h;{j,4,h2};split at h
 .rename_i c;rw[A8 c];show Ot _ h
 .rename_i c;rw[A6 c];split at h
  .rename_i c2;rw[A8 c2];cases h;show{n,4,0,0}
  .rename_i c2;rw[A6 c2];show Ot _ h
theorem u9{α β:Type}{xs:Array α}{ys:Array β}(e:xs.size=ys.size):∀(l:Sk Nat),(l.filterMap (xs[·]?)).length=(l.filterMap (ys[·]?)).length/\∀(i:Nat) (v:β),(l.filterMap (ys[·]?))[i]? =some v->∃q:Nat,ys[q]? =some v/\(l.filterMap (xs[·]?))[i]? =xs[q]?
 |[]=>{0,λi v h=>by simp at h}
 |q::l=>by
  have{h1,h2}:=u9 e l;rw[Ck,Ck];rcases Be q xs.size with c|c
  .rw[Ac c,Ac (by lia:q<ys.size)];show{by simp only[Af];lia,λi v h=>?_};cases i with
   |zero=>show{q,by rw[Ac (by lia:q<ys.size)];simpa using h,by rw[Ac c];rfl}
   |succ i=>show h2 i v (by simpa using h)
  .rw[BP c,BP (by lia)];show{h1,h2}
def EsK.re(e:EsK kk ad n es ks)(od:Array Nat):EsK kk ad n (od.filterMap (es[·]?)) (od.filterMap (ks[·]?)):=by
 have{h1,h2}:=u9 e.size od.toList;rw[<-Array.toList_filterMap,<-Array.toList_filterMap] at h1;show{by rw[<-B0,<-B0];show h1,λi k h=>?_};rw[<-BU,Array.toList_filterMap] at h⊢;have{q,q1,q2}:=h2 i k h;rw[q2];show e.bN q k q1
def G6{t:SetTable}(hS:eI s.heap S t es)(ek:EsK kk ad n es ks)
  (hkk:∀j,j<n+1->IsTupleKey (intKind prog w) s.heap (kk j) (ad j)) (hu:A.units<cLine) (h:adE (t,ks) (kk n)=some y) 
  (k:∀b h' NH,Heap.SameBut S s.heap h'->eI h' S y.1 NH->EsK kk ad (n+1) NH y.2->Q b {s with heap:=h'}):
  wpAny (model prog w) A (setAddHashed S (.ref (ad n)) (hK (kk n))) Q E s:=by
 have hS0:=hS;have{ep,ho}:=hS;have hx:=hkk n (by lia);unfold adE at h;split at h
 .rename_i hok;unfold okT at hok;simp only[A9,Bool.not_eq_true'] at hok;have{{hf,hw},hp}:=hok;have hf:t.fits es.size=true:=by rw[ek.size];show hf
  have{r,hr,h}:=AA.mp h;unfold setAddHashed setAddHashedIn;show B2 (A0 (BX ho rfl hf ?_));dsimp only;have hsc:byScan (.ref (ad n)) es=false:=by unfold byScan;rfl
  rw[hsc];simp only[AN,Au];unfold setSearch;show A0 (u7 ho rfl hf hw hu ek (λj hj=>hkk j (by lia)) hx (r:=r) ?_ 300 100000 none hr (by lia));cases r with
  |none=>
   cases h;show A3 (k false s.heap es (Heap.SameBut.refl _ _) hS0 (ek.mono (by lia)))
  |some j=>
   dsimp only at h⊢;unfold puE at h;split at h
   .rename_i c;have{c1,c2,c3}:=c;unfold okT at c3;simp only[A9,Bool.not_eq_true'] at c3;have{{f1,w1},p1}:=c3;show A0 (BX ho rfl hf ?_);dsimp only;generalize t.put j=tp at c1 f1 w1 p1 h⊢;have{t1,p}:=tp;dsimp only at c1 f1 w1 p1 h⊢;rw[A8 p1];show A0 (G4 hx ?_);simp only[CF];have Ry:=ek.ins c1;have z1:(insertAt es p (hK (kk n),Value.ref (ad n))).size=es.size+1:=nS (by rw[ek.size];show c1) _;have e64:es.size<64:=by rw[ek.size];show c2
    have hsl:sizeLine>=4096:=by rw[B1];decide
    have f1':t1.fits (insertAt es p (hK (kk n),Value.ref (ad n))).size=true:=by rw[z1,ek.size];show f1
    show A0 (wpAny_storeSet_of ho rfl ?_ (by rw[z1];lia));have NX:=u8 ho (insertAt es p (hK (kk n),Value.ref (ad n))) t1;have sb1:=BE s.heap S (Obj.putSet (insertAt es p (hK (kk n),Value.ref (ad n))) t1);generalize s.heap.update S (Obj.putSet (insertAt es p (hK (kk n),Value.ref (ad n))) t1)=h1 at NX sb1⊢;rw[<-z1];generalize insertAt es p (hK (kk n),Value.ref (ad n))=es1 at Ry f1' NX z1⊢;generalize insertAt ks p (kk n)=ks1 at Ry h;cases full:t1.tooFull with
    |true=>
     rw[full,A8 rfl] at h;simp only[D4,Bool.and_self,CF];unfold reE at h;have{q,hq,h}:=AA.mp h;split at h
     .rename_i c4;cases h;have eh:es1.map (·.1)=ks1.map hK:=by
       show Array.ext_getElem? λi=>?_;rw[Array.getElem?_map,Array.getElem?_map];cases e:ks1[i]? with
       |none=>
        have:es1[i]? =none:=by rw[C7,Ry.size,<-C7];show e
        rw[this];rfl
       |some k0=>
        have{_,_,_,e2}:=Ry.bN i k0 e;rw[e2];rfl
      rw[G5];show A0 ?_;show A0 (BX (s:={s with heap:=h1}) NX rfl f1' ?_);dsimp only;have zk:es1.size=ks1.size:=Ry.size;rw[A6 (by rw[zk];lia),eh,zk,hq];dsimp only;have ek2:=Ry.re q.2;rw[show((q.2.filterMap (es1[·]?)).size !=ks1.size)=false from by rw[ek2.size,c4.1];simp];simp only[AN,Au];show A0 (A3 ?_);show wpAny_storeSet_of (s:={s with heap:=h1}) NX rfl ?_ (by rw[ek2.size,c4.1,<-zk,z1];lia);have NW:=u8 NX (q.2.filterMap (es1[·]?)) q.1;have QY:=BE h1 S (Obj.putSet (q.2.filterMap (es1[·]?)) q.1);generalize h1.update S _=h2 at NW QY⊢;show A3 (k true h2 _ (sb1.trans QY) {_,NW} ek2)
     .cases h
    |false=>
     rw[full,A6 (by simp)] at h;cases h;simp only[D4,Cd,AN,Au];show A3 (k true h1 _ sb1 {_,NX} Ry)
   .cases h
 .cases h
def eI.mv{t:SetTable}(a:eI h S t es)(e:∀o,h.get? S=some o->h'.get? S=some o):eI h' S t es:=by have{ep,ho}:=a;show{ep,e _ ho}
def nT(q:IsTupleKey (intKind prog w) h k x)(e:∀o,h.get? x=some o->h'.get? x=some o):IsTupleKey (intKind prog w) h' k x:=by
 have{o,items,n,ho,r}:=q;show{o,items,n,e _ ho,r}
def G7{R:Result->Sc->Prop}{I:Se}{fp wr:Sk Se}{G:Array GenState->Array GenState->Prop}{P:Nat->PP->Prop}{St:Nat->Sc->Prop}
  (Wq:WalksS prog w A.in1 I fp wr G n P St) (S:Se) (hSf:S∉fp) (hu:A.in1.units<cLine)
  (kk:Nat->Sk Int) (ad:Nat->Se) (hval:∀i v,P i v->v=.ref (ad i)) (hwr:∀i,i<n->ad i∉wr) {x0:Ks}{l:Sk (Sk Int)} (hlk:∀i,i<n->l[i]? =some (kk i)) (hse:∀i,∃y,stE x0 (l.take i)=some y):
  ∀(k i:Nat) (s:Sc) (es:Array (Int×PP)) (y:Ks),n-i=k->i<=n->St i s->eI s.heap S y.1 es->EsK kk ad i es y.2->stE x0 (l.take i)=some y->(∀j,j<n->IsTupleKey (intKind prog w) s.heap (kk j) (ad j))->
   (∀s' NH y',Moved (S::wr) G s s'->eI s'.heap S y'.1 NH->EsK kk ad n NH y'.2->stE x0 (l.take n)=some y'->R (.ok (.ret .none)) s')->
   codeAny (model prog w) A (.builtin "set.update.loop" {[.ref S,.ref I],[]}) R s:=by
 have hSw:S∉wr:=λh=>hSf (Wq.sub _ h);have Pp:∀b∈wr,b∈S::wr:=λb hb=>AG _ hb;intro k;induction k with
 |zero=>
  intro i s es y hk hi Os hS ek hy hkk hR;have OA:i=n:=by lia
  subst OA;show CI F.entry_set_update_loop ?_;rw[C3 F.plain_set_update_loop _];change wpAny _ A.in1 (pyNext (.ref I)>>=_) _ _ s;show A0 (Wq.done s _ _ Os λs' hm=>?_);change wpAny _ A.in1 (ret Value.none) _ _ s';show A3 (hR s' es y (hm.mono Pp) (hS.mv λo e=>hm.heap S o hSw e) ek hy)
 |succ k ih=>
  intro i s es y hk hi Os hS ek hy hkk hR;have Nb:i<n:=by lia
  show CI F.entry_set_update_loop ?_;rw[C3 F.plain_set_update_loop _];change wpAny _ A.in1 (pyNext (.ref I)>>=_) _ _ s;show A0 (Wq.item i s _ _ Nb Os λv s' hP hst' hm=>?_);obtain rfl:=hval i v hP;have PM:eI s'.heap S y.1 es:=hS.mv λo e=>hm.heap S o hSw e;have Oz:∀j,j<n->IsTupleKey (intKind prog w) s'.heap (kk j) (ad j):=λj hj=>nT (hkk j hj) λo e=>hm.heap _ o (hwr j hj) e;have{y2,hy2}:=hse (i+1);have PV:=hy2;rw[uV hy (hlk i Nb)] at PV;change wpAny _ A.in1 (holding [Value.ref (ad i)] (setAdd S (.ref (ad i)))>>=_) _ _ s';show A0 (B2 ?_);unfold setAdd;show B2 ?_;show A0 (wpAny_pyHash_tuple hu (Oz i Nb) ?_);show G6 (s:={s' with toks:=s'.toks+((kk i).length+1)}) PM ek (λj hj=>Oz j (by lia)) hu (y:=y2) PV λb h' NH hsb Rq ek2=>?_;have hkS:∀j,j<n->ad j≠S:=by
   intro j hj e;have{o,items,m,ho,_,hd,_}:=Oz j hj;have{ep,Ol}:=PM;rw[e,Ol,Option.some.injEq] at ho;subst ho;show nomatch hd
  show A3 {D0 F.plain_set_update_loop _,ih (i+1) _ NH y2 (by lia) Nb (Wq.frame _ s' _ _ hst' (Nat.le_add_right _ _) λb hb o e=>?_) Rq ek2 hy2 (λj hj=>nT (Oz j hj) λo e=>?_) λs'' es'' Rz hm'' hS'' ek'' PX=>?_}
  .rw[hsb.2 b (λh:b=S=>hSf (by rw[<-h];show hb))];show e
  .change h'.get? _=_;rw[hsb.2 _ (hkS j hj)];show e
  .show hR s'' es'' Rz (Moved.trans Wq.gtrans ((hm.mono Pp).then_heap (Nat.le_add_right _ _) λb o hb e=>?_) hm'') hS'' ek'' PX;rw[hsb.2 b (λh:b=S=>hb (by rw[h];show AE))];show e
def G8(a:PP){Q₁:PP->Sc->Prop}
  (h:Q₁ (.ref s.heap.objs.size) {s with heap:=s.heap.push {cls:= .type "set",dict:=none,data:= .set #[] 0 (.fresh 0 0 (!w.params.followText "set-order"))}}):
  codeAny (model prog w) A (.call (.builtin "set.__new__") {[.type "set",a],[]}) (wants Q₁ E) s:=by
 show codeAny_of_tree ?_;change wpAny _ A.in1 (do checkBuiltinCall "set.__new__" {[.type "set",a],[]};again (.builtin "set.__new__" {[.type "set",a],[]})) _ _ s;show A0 (Df (F.newCall_set_1 a) (A3 {D0 F.plain_set_new _,CI F.entry_set_new ?_}));rw[C3 F.plain_set_new _];unfold Builtin.«set.__new__» Builtin.Frozenset.newClass;have Pp:=sub_set_self;have{hp,g,d,tk,os}:=s;dsimp only
 wp_walk
 show Db (A3 ?_);dsimp only;simp only[newObj];show A0 (wpAny_alloc (A3 ?_));show A3 h
def G9{l:Se}{items:Array PP}{Q:PP->Sc->Prop}
  (hh:A.handled=none) (hu:A.units+8<cLine) (hl:s.heap.IsList l items) {xs:Sk (Sk Int)} (hxs:∀i,i<items.size->xs[i]? =some (kk i)) (hxl:xs.length=items.size) (Os:stE (.fresh 0 0 (!w.params.followText "set-order"), #[]) xs=some y)
  (hk:∀i,i<items.size->items[i]? =some (.ref (ad i))/\IsTupleKey (intKind prog w) s.heap (kk i) (ad i))
  (h:∀(h':Sm) (tk:Nat) (es:Array (Int×PP)),eI h' s.heap.objs.size y.1 es->EsK kk ad items.size es y.2->
   (∀b o,b<s.heap.objs.size->s.heap.get? b=some o->h'.get? b=some o)->Q (.ref s.heap.objs.size) {s with heap:=h',toks:=tk}):
  wpAny (model prog w) A (call (.type "set") [.ref l]) Q E s:=by
 have{c,tl,hmro}:=Cs.mro;have hmade:=Cs.made;have Pp:=Cs.sub;show wpAny_call (codeAny_of_tree ?_);change wpAny _ _ (callAny (.type "set") _) _ _ _;show A3 {Code.quiet_builtin _ (by ac_nf),CI F.entry_type_call ?_};rw[Around.under_plain (weight_type_call_type "set" [.ref l] []) rfl];have h1:=Cs.notType;have h2:=Cs.canCreate;have hct:=F.typeCall_set_1 (.ref l)
 repeat (any_goals (first|assumption|wp_step))
 show codeAny_mono (G8 (.ref l) (E:=E) (Q₁:=λobj s₁=>obj=.ref s.heap.objs.size/\s₁={s with heap:=s.heap.push {cls:= .type "set",dict:=none,data:= .set #[] 0 (.fresh 0 0 (!w.params.followText "set-order"))}}) {0,0}) λr s₁ hr=>?_;generalize (!w.params.followText "set-order")=led at Os hr;cases r with
 |error e=>show hr
 |ok fl=>
  cases fl with
  |ret obj=>
   have{0,0}:=hr;have hS:(s.heap.push {cls:= .type "set",dict:=none,data:= .set #[] 0 (.fresh 0 0 led)}).get? s.heap.objs.size=some {cls:= .type "set",dict:=none,data:= .set #[] 0 (.fresh 0 0 led)}:=AJ _ rfl;have hT:Shared.TypeIs {s with heap:=s.heap.push {cls:= .type "set",dict:=none,data:= .set #[] 0 (.fresh 0 0 led)}} (.ref s.heap.objs.size) "set":={_,hS,0};have NK:=Cs.init.lookup;have hbi:=Cs.init.bind (.ref s.heap.objs.size)
   repeat (any_goals (first|assumption|wp_step))
   show codeAny_mono (codeAny_call_builtin (R:=wants (λr s₂=>r=.none/\∃h' tk es,s₂={s with heap:=h',toks:=tk}/\
     eI h' s.heap.objs.size y.1 es/\EsK kk ad items.size es y.2/\
     (∀b o,b<s.heap.objs.size->s.heap.get? b=some o->h'.get? b=some o)) E) Cs.init.plain F.entry_set_init (check_set_init_1 hT ?_)) λr₂ s₂ hr₂=>?_
   .have{ol,hol,hcl,nl,hdl}:=hl;have{ocls,odict,odata,RA}:=ol;simp only at hcl hdl;subst hcl;subst hdl;have hol':(s.heap.push {cls:= .type "set",dict:=none,data:= .set #[] 0 (.fresh 0 0 led)}).get? l=some {cls:= .type "list",dict:=odict,data:= .seq items nl,slots:=RA}:=A4 _ hol;have hsls:=F.sub_list_set;have hslf:=F.sub_list_frozenset;have NC:(Value.type "list"==Value.type "dict")=false:=by decide
    have NG:(s.heap.push {cls:= .type "set",dict:=none,data:= .set #[] 0 (.fresh 0 0 led)}).IsList l items:={_,hol',0,nl,0};unfold Builtin.«set.__init__» noKeywords Builtin.Frozenset.updateFrom;generalize hPI:pyIter=PI
    wp_walk
    subst hPI;show wpAny_pyIter_list NG ?_;show A0 (wpAny_runValue ?_);have hlS:l<s.heap.objs.size:=AM hol;have hh3:A.in1.in1.in1.handled=none:=by simp[hh]
    have hneI:l≠(s.heap.push {cls:= .type "set",dict:=none,data:= .set #[] 0 (.fresh 0 0 led)}).objs.size:=by
     rw[B3];show AU (Am hlS)
    have hSf:s.heap.objs.size∉[(s.heap.push {cls:= .type "set",dict:=none,data:= .set #[] 0 (.fresh 0 0 led)}).objs.size,l]:=by
     rw[B3];simp only[AI,AT,At,Bq,not_or];show{AU (BZ _),BM hlS}
    show G7 ((Walks.list hh3 _ l hneI items).toS) s.heap.objs.size
     hSf ?hu kk ad ?hval ?hwr hxs (uW Os) (items.size-0) 0 _ #[] _ (by lia) (AW _)
     {{_,AJ _ rfl,0,0},(NG.push _)} ?hS0 ?hE0 rfl ?hkk ?hR
    case hu=>change A.units+3<cLine;lia
    case hval=>
     intro i v hv;have hi:i<items.size:=uU hv;rw[(hk i hi).1,Option.some.injEq] at hv;show hv.symm
    case hwr=>
     intro i hi;have{o,_,_,ho,_}:=(hk i hi).2;have:=AM ho;rw[B3];simp only[AI,At,Bq];show AU (Am this)
    case hS0=>show{_,A4 _ hS}
    case hE0=>show{0,λi k e=>by simp at e}
    case hkk=>show λj hj=>nT (hk j hj).2 λo e=>A4 _ (A4 _ e)
    case hR=>
     intro s' NH y' hm PM ek' On;rw[<-hxl,AS,Os] at On;cases On;have{h',g',d',tk',Re}:=s';have eg:g'=s.gens:=hm.gens;have ed:d'=s.drawn:=hm.drawn;have eo:Re=s.os:=hm.os;subst eg;subst ed;subst eo;change wpAny _ _ _ _ _ _;show A3 ?_;change wpAny _ _ (ret Value.none) _ _ _;show A3 {0,h',tk',NH,0,PM,ek',λb o hb e=>?_};have hb1:b≠s.heap.objs.size:=AU hb;have hb2:b≠(s.heap.push {cls:= .type "set",dict:=none,data:= .set #[] 0 (.fresh 0 0 led)}).objs.size:=by
      rw[B3];show AU (Am hb)
     show hm.heap b o (by simp only[AI,AT,At,Bq,not_or];show{hb1,hb2}) (A4 _ (A4 _ e))
   .cases r₂ with
    |error e=>show hr₂
    |ok fl₂=>
     cases fl₂ with
     |ret r=>
      have{0,h',tk,es,0,PM,ek',OX}:=hr₂
      repeat (any_goals (first|assumption|wp_step))
      show h _ _ _ PM ek' OX
     |_=>show hr₂.elim
  |_=>show hr.elim
end
theorem G':entryFor table "set.__iter__"=some Builtin.«frozenset.__iter__»:=
 entryFor_alias (id':="frozenset.__iter__") (by kernel_rfl) rfl (by ac_nf) (by kernel_rfl)
theorem vb:Slot "set_iterator" "__iter__" "set_iterator.__iter__":=
 .of (owner:="set_iterator") (n:="__iter__") (by rw[typeLookup_type,DW];kernel_rfl) (by ac_nf) (by ac_nf) (by ac_nf)
  (by first|show .inl (by ac_nf)|show .inr (by ac_nf)) (by rw[Dk];kernel_rfl)
theorem Hg:entryFor table "set_iterator.__iter__"=some Builtin.«dict_keyiterator.__iter__»:=
 entryFor_alias (id':="dict_keyiterator.__iter__") (by kernel_rfl) rfl (by ac_nf) (by kernel_rfl)
def Hh(a:PP):argsOk "set_iterator.__iter__" {[a],[]}:=by unfold argsOk;kernel_rfl
theorem iq:Slot "set_iterator" "__next__" "set_iterator.__next__":=
 .of (owner:="set_iterator") (n:="__next__") (by rw[typeLookup_type,DW];kernel_rfl) (by ac_nf) (by ac_nf) (by ac_nf)
  (by first|show .inl (by ac_nf)|show .inr (by ac_nf)) (by rw[Dk];kernel_rfl)
theorem vc:entryFor table "set_iterator.__next__"=some Builtin.«set_iterator.__next__»:=entryFor_of_tree (by kernel_rfl)
def vd(a:PP):argsOk "set_iterator.__next__" {[a],[]}:=by unfold argsOk;kernel_rfl
theorem vh{α:Type}:∀(l:Sk α) (i:Nat) (h:i<l.length),([l[i]]++l.eraseIdx i).Perm l
 |[],i,h=>absurd h (by simp)
 |a::l,0,h=>by simp
 |a::l,i+1,h=>by
  have hi:i<l.length:=by simpa using h
  have:=vh l i hi;simp only[List.getElem_cons_succ,List.eraseIdx_cons_succ,List.singleton_append] at this⊢;show(List.Perm.swap a l[i] _).trans (this.cons a)
theorem vi{α:Type}(next:Nat->Nat):∀(f k:Nat) (left:Sk α) (Nw:Array α),left.length=f->(pickOrder.go next f k left Nw).toList.Perm (Nw.toList++left)
 |0,k,left,Nw,e=>by
  have:left=[]:=BV.mp e;subst this;unfold pickOrder.go;simp
 |f+1,k,left,Nw,e=>by
  have hp:next k%left.length<left.length:=Nat.mod_lt _ (by lia);unfold pickOrder.go;rw[A2 hp];dsimp only;show(vi next f (k+1) _ _ (by rw[List.length_eraseIdx_of_lt hp];lia)).trans ?_;rw[Array.toList_push,B8];show List.Perm.append_left _ ?_;show vh left _ hp
def Hi{α:Type}(next:Nat->Nat)(xs:Array α):(pickOrder next xs).toList.Perm xs.toList:=by
 unfold pickOrder;simpa using vi next xs.size 0 xs.toList #[] (by simp)
def fu(w:Si)(a:Se)(ep:Nat)(es:Array (Int×PP)):Array (Int×PP):=if w.params.followText "set-order" then pickOrder (w.params.setOrder a ep) es else es
def vj(w:Si)(a:Se)(ep:Nat)(es:Array (Int×PP)):(fu w a ep es).toList.Perm es.toList:=by
 unfold fu;split
 .show Hi _ _
 .show List.Perm.refl _
def nU(w:Si)(a:Se)(ep:Nat)(es:Array (Int×PP)):(fu w a ep es).size=es.size:=by
 have:=(vj w a ep es).length_eq;simpa using this
def bL(w:Si)(t:SetTable)(i:Nat):Nat:=if w.params.followText "set-order" then 0 else if i=0 then 0 else t.place.getD (i-1) 0+1
def vk(r:Ris xs){j:Nat}(hp:p<=xs.size)(h1:∀i,i<p->xs.getD i 0<j)(h2:∀i,p<=i->i<xs.size->j<=xs.getD i 0):below xs j=p:=by
 have{a1,a2,a3}:=G1 r j;rcases Nat.lt_trichotomy (below xs j) p with c|c|c
 .have:=h1 _ c;have:=a3 _ (AB _) (by lia);lia
 .show c
 .have:=a2 _ c;have:=h2 p (AB _) (by lia);lia
def Hj{t:SetTable}(r:Ris t.place)(hi:i<=t.place.size):below t.place (if i=0 then 0 else t.place.getD (i-1) 0+1)=i:=by
 by_cases z:i=0
 .subst z;show vk r (AW _) (λi h=>absurd h (by lia)) λi _ _=>AW _
 .rw[A6 z];show vk r hi (λj hj=>?_) λj h1 h2=>?_
  .rcases Be j (i-1) with c|c
   .have:=r j (i-1) c (by lia);lia
   .have:j=i-1:=by lia
    subst this;lia
  .have:=r (i-1) j (by lia) h2;lia
section
variable{prog:Sf}{w:Si}{A:Sj}{E:PP->Sc->Prop}{s:Sc}
def Hk(a:Addr)(slot given epochThen:Nat):setNext a slot given epochThen=(do
  let (es,epoch,t)<-setState a
  if<-setsByText then
   if epoch !=epochThen then unsupported "set_iterator.__next__:elements-changed"
   return ((<-setWalk a)[given]?).map λe=>(e.2,slot)
  if !t.plain&&es.size>1 then unsupported "set_iterator.__next__:the-table-is-plain-no-more"
  (do if !t.led&& !es.isEmpty then unsupported "set:maker-not-led":Sem Unit)
  let i:=SetTable.below t.place slot
  return match es[i]?,t.place[i]? with
   |some (_,x),some j=>some (x,j+1)
   |_,_=>none):=rfl
def vq{es:Array (Int×PP)}{ep:Nat}{t:SetTable}{i:Nat}{Q:Sn (PP×Nat)->Sc->Prop}
  (ho:s.heap.get? S=some {cls:= .type "set",dict:=none,data:= .set es ep t}) (b:Tb t es) (hs:es.size<=t.mask) (hl:t.led= !w.params.followText "set-order") (hp:t.plain=true) (hi:i<=es.size)
  (h:Q (((fu w S ep es)[i]?).map λe=>(e.2,bL w t (i+1))) s):wpAny (model prog w) A (setNext S (bL w t i) i ep) Q E s:=by
 have hf:=lm b hs;rw[Hk];show A0 (BX ho rfl hf ?_);dsimp only;unfold setsByText;show A0 (A0 (Db (A3 ?_)));change wpAny _ _ (if(w.params.followText "set-order")=true then _ else _) _ _ s;unfold fu bL at h;unfold bL;cases ht:w.params.followText "set-order" with
 |true=>
  rw[ht] at h;simp only[CF] at h⊢;simp only[bne_self_eq_false,AN,Au];unfold setWalk;show A0 (A0 (BX ho rfl hf ?_));dsimp only;unfold setsByText;show A0 (A0 (Db (A3 ?_)));change wpAny _ _ (if(w.params.followText "set-order")=true then _ else _) _ _ s;rw[ht];simp only[CF];show A0 (Db (A3 ?_));show A3 h
 |false=>
  rw[ht] at h hl;simp only[AN,Au] at h⊢;rw[hp,hl];simp only[BL,D4,D5,AN,Au];show A0 (A3 ?_);rw[Hj b.ris (by rw[b.size];show hi)];show A3 ?_;rcases Be i es.size with c|c
  .have c':i<t.place.size:=by rw[b.size];show c
   have e2:t.place.getD (i+1-1) 0=t.place[i]:=by simp[Array.getD,c']
   rw[Ac c] at h⊢;rw[Ac c'];rw[A6 (by lia),e2] at h;show h
  .rw[BP c] at h⊢;show h
def eJ(h:Sm)(it S:Se)(slot i n ep:Nat):Prop:=∃o,h.get? it=some o/\o.cls=.type "set_iterator"/\o.data=.fields #[.int slot 0,.int i 0,.ref S,.int n 0,.int ep 0]
def eJ.typeIs(x:eJ s.heap it S slot i n ep):s.TypeIs (.ref it) "set_iterator":=by have{o,ho,hc,_}:=x;show{o,ho,hc}
def eJ.mv(x:eJ h it S slot i n ep)(e:∀o,h.get? it=some o->h'.get? it=some o):eJ h' it S slot i n ep:=by have{o,ho,r}:=x;show{o,e _ ho,r}
def Hl{es:Array (Int×PP)}{ep:Nat}{t:SetTable}{Q:PP->Sc->Prop}
  (ho:s.heap.get? S=some {cls:= .type "set",dict:=none,data:= .set es ep t}) (b:Tb t es) (hs:es.size<=t.mask) (hp:t.plain=true)
  (h:Q (.ref s.heap.objs.size) {s with heap:=s.heap.push {cls:= .type "set_iterator",data:= .fields #[.int (bL w t 0:Nat) 0,.int (0:Nat) 0,.ref S,.int es.size 0,.int ep 0]}}):
  wpAny (model prog w) A (pyIter (.ref S)) Q E s:=by
 have hT:s.TypeIs (.ref S) "set":={_,ho,0};have hf:=lm b hs;show wpAny_pyIter_slot hT F.slot_set_iter (Al F.slot_set_iter hT G' ?_ (F.args_set_iter_1 _));unfold Builtin.«frozenset.__iter__» Builtin.Frozenset.slot0 slotArgs;simp only[List.isEmpty_nil,BL,AN,↓reduceIte,bind_assoc,CO,bne_self_eq_false];unfold Builtin.Frozenset.addrOf Builtin.Frozenset.sizeOf setEntries;show A0 (A3 ?_);try dsimp only
 show A0 (A3 ?_);show A0 (A0 (A0 (BX ho rfl hf (A3 (A3 ?_)))));have hdr:∀{Q':Bool->Sc->Prop},Q' false s->wpAny (model prog w) A.in1 (setDrawn S) Q' E s:=by
  intro Q' q;unfold setDrawn;show A0 (BX ho rfl hf ?_);dsimp only;unfold setsByText;show A0 (A0 (Db (A3 ?_)));show A3 ?_;have:(!t.plain&&decide (es.size>1))=false:=by rw[hp];rfl
  change Q' (!w.params.followText "set-order"&&(!t.plain&&decide (es.size>1))) s;rw[this,Cd];show q
 show A0 (hdr ?_);simp only[AN,Au];show A0 (A3 ?_);show A0 (wpAny_setEpoch_of ho rfl hf ?_);unfold newFields;show A0 (Ax (A3 {1,"set_iterator",_,{_,AJ _ rfl,0},iq.lookup,?_}));have e0:bL w t 0=0:=by unfold bL;split<;>rfl
 rw[e0] at h;simpa[rawInt] using h
def vv{vs:Array PP}(ho:h.get? a=some o)(hd:o.data=.fields vs)(f:Array PP->Array PP):
  ∃o',(h.update a (Obj.mapFields f)).get? a=some o'/\o'.cls=o.cls/\o'.data=.fields (f vs):=
 {_,Bw _ ho (DZ (By hd _)),Obj.cls_mapFields ..,By hd _}
def Hm{t:SetTable}{e:Int×PP}{Q:Sn PP->Sc->Prop}(Nd:eJ s.heap it S (bL w t i) i es.size ep)
  (ho:s.heap.get? S=some {cls:= .type "set",dict:=none,data:= .set es ep t}) (b:Tb t es) (hs:es.size<=t.mask) (hl:t.led= !w.params.followText "set-order") (hp:t.plain=true) (hi:i<es.size)
  (he:(fu w S ep es)[i]? =some e) (hQ:∀h',eJ h' it S (bL w t (i+1)) (i+1) es.size ep->Heap.SameBut it s.heap h'->Q (some e.2) {s with heap:=h'}):
  wpAny (model prog w) A (pyNext (.ref it)) Q E s:=by
 have{o,hoi,hc,hd}:=id Nd;have hf:=lm b hs;unfold pyNext;show A0 (CK (B5 (name:=Str.ofString "__next__") Nd.typeIs iq
  (Al iq Nd.typeIs vc ?_ (vd _))))
 change wpAny _ _ (fieldsOf (.ref it)>>=_) _ _ s;show A0 (DJ hoi hd ?_);dsimp only;unfold setEntries;show A0 (A0 (BX ho rfl hf (A3 ?_)));dsimp only;rw[A6 (by simp)];simp only[Ag];show A0 (vq ho b hs hl hp (AZ hi) ?_);rw[he];dsimp only[Option.map_some];show A0 (CC hoi hd (by simp) ?_);have{o1,NX,QT,hd1}:=vv hoi hd (·.setIfInBounds 0 (rawInt (bL w t (i+1):Nat)));have sb1:=BE s.heap it (Obj.mapFields (·.setIfInBounds 0 (rawInt (bL w t (i+1):Nat))));generalize s.heap.update it (Obj.mapFields (·.setIfInBounds 0 (rawInt (bL w t (i+1):Nat))))=h1 at NX sb1⊢;show A0 (CC (s:={s with heap:=h1}) NX hd1 (by simp) ?_);have{o2,NW,Ou,Om}:=vv NX hd1 (·.setIfInBounds 1 (rawInt ((i:Int)+1)));have QY:=BE h1 it (Obj.mapFields (·.setIfInBounds 1 (rawInt ((i:Int)+1))));dsimp only;generalize h1.update it (Obj.mapFields (·.setIfInBounds 1 (rawInt ((i:Int)+1))))=h2 at NW QY⊢;show A3 {1,A3 (hQ _ {o2,NW,by rw[Ou,QT,hc],?_} (sb1.trans QY))};rw[Om];simp[rawInt]
def Hn{t:SetTable}{Q:Sn PP->Sc->Prop}(hh:A.handled=none)(Nd:eJ s.heap it S (bL w t es.size) es.size es.size ep)
  (ho:s.heap.get? S=some {cls:= .type "set",dict:=none,data:= .set es ep t}) (b:Tb t es) (hs:es.size<=t.mask) (hl:t.led= !w.params.followText "set-order") (hp:t.plain=true)
  (hQ:∀h',Heap.ExtBut it s.heap h'->Q none {s with heap:=h'}):
  wpAny (model prog w) A (pyNext (.ref it)) Q E s:=by
 have{o,hoi,hc,hd}:=id Nd;have hf:=lm b hs;unfold pyNext;show A0 (CK (B5 (name:=Str.ofString "__next__") Nd.typeIs iq
  (Al iq Nd.typeIs vc ?_ (vd _))))
 change wpAny _ _ (fieldsOf (.ref it)>>=_) _ _ s;show A0 (DJ hoi hd ?_);dsimp only;unfold setEntries;show A0 (A0 (BX ho rfl hf (A3 ?_)));dsimp only;rw[A6 (by simp)];simp only[Ag];show A0 (vq ho b hs hl hp (AB _) ?_);rw[BP (by rw[nU];show AB _)];dsimp only[Option.map_none];show A0 (CC hoi hd (by simp) ?_);change wpAny _ _ (newExc (.type "StopIteration") []>>=_) _ _ _;show A0 ?_;simp only[newExc,newTuple];show A0 (Ax ?_ (by size_fits));show A0 (m:=firstArgMember _ _) (Df (a:=Value.none) (by first|rfl|(simp only[firstArgMember];rfl)) ?_);show Ax ?_ (by size_fits);simp -iota only[raiseNew];show A0 (wpAny_handled ?_);rw[show A.in1.handled=none from hh];show A0 (A3 (wpAny_throw ?_));show A0 (Bx (T:="StopIteration") (b:=true) {_,AJ _ rfl,0} isSubtype_stop ?_);show A3 (hQ _ (((BE ..).extBut.push _).push _))
theorem Ho(hh:A.handled=none)(I S:Se)(NC:S≠I){t:SetTable}(b:Tb t es)(hs:es.size<=t.mask)(hl:t.led= !w.params.followText "set-order")(hp:t.plain=true):
  Walks prog w A I [I,S] [I] es.size (λi v=>∃e,(fu w S ep es)[i]? =some e/\v=e.2) (λi h=>eJ h I S (bL w t i) i es.size ep/\h.get? S=some {cls:= .type "set",dict:=none,data:= .set es ep t}) where
 sub:=λb hb=>by simp at hb;simp[hb]
 frame:=λ_ _ _ st hk=>{st.1.mv λo e=>hk I (by simp) o e,hk S (by simp) _ st.2}
 item:=λi s Q E hi st hQ=>by
  have OW:i<(fu w S ep es).size:=by rw[nU];show hi
  show Hm st.1 st.2 b hs hl hp hi (Ac OW) λh' O1 hs'=>?_;show hQ _ h' s.toks {_,Ac OW,0} {O1,hs'.extBut S _ NC st.2} λb o hb e=>hs'.extBut b o (λh=>hb (by simp[h])) e
 done:=λs Q E st hQ=>Hn hh st.1 st.2 b hs hl hp λh' Qu=>hQ h' s.toks λb o hb e=>Qu b o (λh=>hb (by simp[h])) e
 self:=λ_ s _ _ st hQ=>by
  show wpAny_pyIter_slot st.1.typeIs vb (Al vb st.1.typeIs Hg ?_ (Hh _));change wpAny _ _ (ret (.ref I)) _ _ s;show A3 {1,"set_iterator",_,st.1.typeIs,iq.lookup,hQ}
end
open PySem.W
section
variable{prog:Sf}{w:Si}{A:Sj}{E:PP->Sc->Prop}{s:Sc}
def Hq{es:Array (Int×PP)}{ep:Nat}{t:SetTable}{Q:Sk PP->Sc->Prop}(hh:A.handled=none)
  (ho:s.heap.get? S=some {cls:= .type "set",dict:=none,data:= .set es ep t}) (b:Tb t es) (hs:es.size<=t.mask) (hl:t.led= !w.params.followText "set-order") (hp:t.plain=true)
  (hQ:∀h' tk vs,(∀b o,s.heap.get? b=some o->h'.get? b=some o)->s.heap.objs.size<=h'.objs.size->vs.Perm (es.toList.map (·.2))->Q vs {s with heap:=h',toks:=tk}):
  wpAny (model prog w) A (collect (.ref S)) Q E s:=by
 unfold collect;show A0 (wpAny_runValue (CI F.entry_proto_collect ?_));rw[C3 F.plain_proto_collect _];change wpAny _ A.in1 (newList []>>=λl=>again (.builtin "list.__iadd__" {[l,.ref S],[]})) _ _ s;show A0 (Ax ?_);show A3 {D0 F.plain_list_iadd _,CI F.entry_list_iadd ?_};rw[C3 F.plain_list_iadd _];change wpAny _ A.in1 (Builtin.List.listExtendWith (.ref s.heap.objs.size) (.ref S) (.ref s.heap.objs.size)) _ _ _;have hS:S<s.heap.objs.size:=AM ho;have NX:(s.heap.push {cls:= .type "list",data:= .seq ([]:Sk PP).toArray}).get? S=some {cls:= .type "set",dict:=none,data:= .set es ep t}:=A4 _ ho;have hT:Shared.TypeIs {s with heap:=s.heap.push {cls:= .type "list",data:= .seq ([]:Sk PP).toArray}} (.ref S) "set":={_,NX,0};unfold Builtin.List.listExtendWith;show A0 (DI hT ?_);have h1:Builtin.List.listSameRef (.ref s.heap.objs.size) (.ref S)=false:=by
  change(s.heap.objs.size==S)=false;show DY.mpr (BM hS)
 have h2:(Value.type "set"==Value.type "list")=false:=by decide
 have h3:(Value.type "set"==Value.type "tuple")=false:=by decide
 simp only[h1,h2,h3,Bool.or_false,AN,Au];show A0 (Hl NX b hs hp ?_);show A0 (B2 ?_);unfold Builtin.List.listLengthHint;generalize hH:s.heap.push {cls:= .type "list",data:= .seq ([]:Sk PP).toArray}=H at NX hT⊢;have hHs:H.objs.size=s.heap.objs.size+1:=by rw[<-hH,B3]
 have Rr:Shared.TypeIs {s with heap:=H.push {cls:= .type "set_iterator",data:= .fields #[.int (bL w t 0:Nat) 0,.int (0:Nat) 0,.ref S,.int es.size 0,.int ep 0]}} (.ref S) "set":={_,A4 _ NX,0};show A0 (C6 Rr F.slot_set_len.lookup ?_)
 wp_delta
 show A0 (Bx (b:=true) Rr (by rw[Dk];kernel_rfl) ?_);change wpAny _ A.in1 (typeOf (.ref S)>>=_) _ _ _;show A0 (DI Rr ?_);show A3 ?_;rw[A8 (by decide)];show A0 (CD ?_);unfold Builtin.List.listTouch;have NC:S≠H.objs.size:=by rw[hHs];show AU (Am hS)
 have hI0:eJ (H.push {cls:= .type "set_iterator",data:= .fields #[.int (bL w t 0:Nat) 0,.int (0:Nat) 0,.ref S,.int es.size 0,.int ep 0]}) H.objs.size S (bL w t 0) 0 es.size ep:={_,AJ _ rfl,0,0};have hL:(H.push {cls:= .type "set_iterator",data:= .fields #[.int (bL w t 0:Nat) 0,.int (0:Nat) 0,.ref S,.int es.size 0,.int ep 0]}).get? s.heap.objs.size=some (seqObj "list" #[] 0):=A4 _ (hH▸AJ _ rfl);have Rq:(H.push {cls:= .type "set_iterator",data:= .fields #[.int (bL w t 0:Nat) 0,.int (0:Nat) 0,.ref S,.int es.size 0,.int ep 0]}).get? S=some {cls:= .type "set",dict:=none,data:= .set es ep t}:=A4 _ NX;have hold:∀b o,s.heap.get? b=some o->(H.push {cls:= .type "set_iterator",data:= .fields #[.int (bL w t 0:Nat) 0,.int (0:Nat) 0,.ref S,.int es.size 0,.int ep 0]}).get? b=some o:=λb o e=>A4 _ (hH▸A4 _ e);have hsz:(H.push {cls:= .type "set_iterator",data:= .fields #[.int (bL w t 0:Nat) 0,.int (0:Nat) 0,.ref S,.int es.size 0,.int ep 0]}).objs.size=s.heap.objs.size+2:=by rw[B3,hHs]
 generalize H.push {cls:= .type "set_iterator",data:= .fields #[.int (bL w t 0:Nat) 0,.int (0:Nat) 0,.ref S,.int es.size 0,.int ep 0]}=H1 at hI0 hL Rq hold hsz⊢;show A0 (A0 (Dj (s:={s with heap:=H1}) hL rfl ?_ (AW _) (by decide)));have hL1:=DR hL (λx=>x.push Value.none);have NA:∀b,b≠s.heap.objs.size->(H1.update s.heap.objs.size (Obj.mapSeq λx=>x.push Value.none)).get? b=H1.get? b:=(BE H1 s.heap.objs.size _).2;dsimp only;generalize H1.update s.heap.objs.size (Obj.mapSeq λx=>x.push Value.none)=H2 at hL1 NA⊢;show Dj (s:={s with heap:=H2}) hL1 rfl ?_ (by simp[B1]) (by simp);have hL2:=DR hL1 (λx=>x.pop);have NY:∀b,b≠s.heap.objs.size->(H2.update s.heap.objs.size (Obj.mapSeq λx=>x.pop)).get? b=H2.get? b:=(BE H2 s.heap.objs.size _).2;dsimp only;generalize H2.update s.heap.objs.size (Obj.mapSeq λx=>x.pop)=H3 at hL2 NY⊢;have Qi:∀b o,b≠s.heap.objs.size->H1.get? b=some o->H3.get? b=some o:=λb o hb e=>by rw[NY b hb,NA b hb];show e
 have hSf:s.heap.objs.size∉[H.objs.size,S]:=by
  rw[hHs];simp only[AI,At,Bq,not_or];show{AU (BZ _),BM hS}
 have hSn:S≠s.heap.objs.size:=AU hS;have hHn:H.objs.size≠s.heap.objs.size:=by rw[hHs];show BM (BZ _)
 show A3 {D0 F.plain_extend_loop _,codeAny_extend_loopS (Ho (A:=A.in1) (ep:=ep) hh H.objs.size S NC b hs hl hp).toS ?_ _ hSf _ es.size 0 _ _ _ rfl (AW _) {hI0.mv λo e=>Qi _ o hHn e,Qi S _ hSn Rq} hL2 (ItemsOf.nil _) λs' Ox c' hm PM M'=>?_}
 .have:=b.few;rw[B1];lia
 change wpAny _ A (load s.heap.objs.size>>=_) _ _ s';show A0 (wpAny_load PM ?_);have{h',g',d',tk',Re}:=s';have eg:g'=s.gens:=hm.gens;have ed:d'=s.drawn:=hm.drawn;have eo:Re=s.os:=hm.os;subst eg;subst ed;subst eo;show A3 (hQ h' tk' Ox.toList (λb o e=>?_) (AZ (AM PM)) ?_)
 .have Nb:=AM e;show hm.heap b o (λhb=>?_) (Qi b o (AU Nb) (hold b o e));simp only[AI,At,Bq] at hb;rcases hb with hb|hb
  .show absurd Nb (by rw[hb];show Bt _)
  .rw[hb,hHs] at Nb;show absurd Nb (Nat.not_lt.mpr (Cu _))
 .have:Ox.toList=(fu w S ep es).toList.map (·.2):=by
   apply List.ext_getElem?;intro i;rw[AC,BU,BU];rcases Be i es.size with c|c
   .have hi:i<Ox.size:=by rw[M'.1];show c
    have{e,he,hv}:=M'.2 i _ (Ac hi);rw[Ac hi,hv,he];rfl
   .rw[BP (by rw[M'.1];show c),BP (by rw[nU];show c)];rfl
  rw[this];show(vj w S ep es).map _
abbrev lsH(h:Sm)(vs:Sk PP):Sm:=h.push (seqObj "list" vs.toArray 0)
def jF(h:Sm)(vs:Sk PP):(lsH h vs).get? h.objs.size=some (seqObj "list" vs.toArray 0):=AJ _ rfl
def nV(hb:h.get? b=some o):(bS (lsH h vs) h.objs.size vs).get? b=some o:=by
 have Nb:b<h.objs.size:=AM hb;have n0:b≠h.objs.size:=AU Nb;have n1:b≠h.objs.size+1:=AU (Am Nb);have n2:b≠h.objs.size+1+1:=AU (Am (Am Nb));rw[BJ _ _ _ (by rw[C',BI,C'];show n2),BJ _ _ _ (by rw[BI,C'];show n1),Dh _ _ _ _ n0,BJ _ _ _ n0];show hb
def vx{Nw:Array PP}(hb:h.get? b=some o):(sortedHeap (lsH h vs) h.objs.size vs Nw).get? b=some o:=by
 unfold sortedHeap;rw[Dh _ _ _ _ (AU (AM hb))];show nV hb
def vy(h:Sm)(vs:Sk PP)(Nw:Array PP):∃e,(sortedHeap (lsH h vs) h.objs.size vs Nw).get? h.objs.size=some (seqObj "list" Nw e):=by
 obtain⟨e1,NX⟩:∃e1,((lsH h vs).update h.objs.size (Obj.mapSeq λ_=>(#[]:Array PP))).get? h.objs.size=some (seqObj "list" #[] e1):={_,DR (jF h vs) (λ_=> #[])};have Qs:(bS (lsH h vs) h.objs.size vs).get? h.objs.size=some (seqObj "list" #[] e1):=by
  rw[BJ _ _ _ (by rw[C',BI,C'];show AU (Am (BZ _))),BJ _ _ _ (by rw[BI,C'];show AU (BZ _))];show NX
 show{_,DR Qs (λ_=>Nw)}
def Hr{v:PP}{ir:Sk PP->Sc->Prop}{Q:PP->Sc->Prop}(hcol:wpAny (model prog w) A.in1 (collect v) ir E s)
  (h:∀vs s1,ir vs s1->vs.length<64/\(vs.length<2->Q (.ref s1.heap.objs.size) {s1 with heap:=sortedHeap (lsH s1.heap vs) s1.heap.objs.size vs vs.toArray})/\
   (2<=vs.length->∃(c:Nat->Nat->Bool) (kd:SortKind),StrO vs.length c/\
    (∀(R:SortKind->Sc->Prop) (E:PP->Sc->Prop),R kd {s1 with heap:=bS (lsH s1.heap vs) s1.heap.objs.size vs}->wpAny (model prog w) A.in1.in1 (keyKind' vs.toArray) R E {s1 with heap:=bS (lsH s1.heap vs) s1.heap.objs.size vs})/\
    (∀i j,i<vs.length->j<vs.length->∀C:Bool->Sc->Prop,C (c i j) {s1 with heap:=bS (lsH s1.heap vs) s1.heap.objs.size vs}->wpAny (model prog w) A.in1.in1 (keyLt' kd (vs.getD i .none) (vs.getD j .none)) C (λ_ _=>False) {s1 with heap:=bS (lsH s1.heap vs) s1.heap.objs.size vs})/\
    ∀p,Ord vs.length p->Up c p vs.length->Q (.ref s1.heap.objs.size) {s1 with heap:=sortedHeap (lsH s1.heap vs) s1.heap.objs.size vs (p.map λi=>vs.getD i .none)})):
  wpAny (model prog w) A (call (.builtin "sorted") [v]) Q E s:=by
 show Calls.call_function_entry kind_sorted plain_sorted entry_sorted (args_sorted1 _) ?_;unfold Builtin.«sorted»;show A0 (m:=checkCount "sorted" 1 1 _) (A3 ?_);show A0 (thn hcol λvs s1 g=>?_);have{h64,few,many}:=h vs s1 g;show A0 (wpAny_newList ?_ (by rw[B1];lia));change wpAny _ _ _ _ _ {s1 with heap:=lsH s1.heap vs};by_cases h2:vs.length<2
 .show A0 (B2 (Al slot_list_sort {_,jF s1.heap vs,0} entry_list_sort (ui (s:={s1 with heap:=lsH s1.heap vs}) (jF s1.heap vs) h2 {1,?_}) (args_list_sort _)));show A3 {1,few h2}
 .have{c,kd,so,QU,hc,hq}:=many (by lia);have{p,hs,hp,up}:=GW so (by lia) h64;show A0 (B2 (Al slot_list_sort {_,jF s1.heap vs,0} entry_list_sort (uG (c:=cP vs.length c) (s:={s1 with heap:=lsH s1.heap vs}) (jF s1.heap vs) (by lia) (by lia) (by rw[hp.size];lia) (λR=>QU R _) (λi j b hb Q' QV=>?_) hs {1,?_}) (args_list_sort _)))
  .unfold cP at hb;by_cases h:i<vs.length/\j<vs.length
   .rw[A8 h] at hb;cases hb;show hc i j h.1 h.2 _ QV
   .rw[A6 h] at hb;cases hb
  .show A3 {1,hq p hp up}
end
section
variable{X:Cx}{M6:Sk (Se×Obj)}{σ:St}{H:Hp}{s:Sc}
theorem vA:∀{xs:Sk Int}{vs:Sk PP},au (xs.map V.int) vs->∀(prog:Sf) (w:Si),ItemsAre (intKind prog w) xs vs
 |[],_,.nil,_,_=>.nil
 |x::xs,_,.cons r1 r2,prog,w=>by
  have{t,0}:=r1;show .cons (intKind_is prog w x t) (vA r2 prog w)
def Hs(I:Inv X M6 σ H s){xs:Sk Int}(h:SqT X.K H a (xs.map V.int)):IsTupleKey (intKind X.prog X.w) s.heap xs a:=by
 have{M9,r,p,z}:=I.tuple h;have{o,ho,hc,n,hd}:=p;show{o,_,n,ho,hc,hd,vA r _ _}
theorem Ht{A:Sj}{k:Nat}(hr:Room k A):A.units+8<cLine:=Nat.lt_of_le_of_lt (Nat.add_le_add_left (by decide:8<=64) _) hr.units
def ssB(xss:Sk (Sk Int)):Bool:=[true,false].all λled=>match stE (.fresh 0 0 led, #[]) xss with
 |some y=>y.1.fits y.2.size&&decide (y.1.dummies= #[])&&decide (y.1.place.toList.Pairwise (· < ·))&&(y.1.led==led)&&y.1.plain&&decide (y.2.size<=y.1.mask)&&decide (y.2.size<64)&&decide y.2.toList.Nodup&&y.2.toList.all (xss.contains ·)&&xss.all (y.2.toList.contains ·)
 |none=>false
def Hu(h:ssB xss=true)(led:Bool):∃y,stE (.fresh 0 0 led, #[]) xss=some y/\(∀es:Array (Int×PP),es.size=y.2.size->Tb y.1 es)/\y.1.led=led/\y.1.plain=true/\y.2.size<=y.1.mask/\y.2.size<64/\y.2.toList.Nodup/\∀z,z∈y.2.toList↔z∈xss:=by
 have h:=AV.mp h led (by cases led<;>simp)
 generalize stE (.fresh 0 0 led, #[]) xss=r at h⊢;cases r with
 |none=>cases h
 |some y=>
  simp only[A9,AQ,AV,List.contains_iff_mem,D'] at h;have{{{{{{{{{h1,h2},h3},h4},h5},h6},h7},h8},h9},h10}:=h;show{y,0,λes e=>{?_,h2,λi j OH hj=>?_,4},h4,h5,h6,h7,h8,λz=>{h9 z,h10 z}}
  .unfold SetTable.fits at h1;simp only[A9,D'] at h1;rw[h1.1,e]
  .have:=List.pairwise_iff_getElem.mp h3 i j (by simp;lia) (by simpa using hj) OH;simpa[Array.getD,hj,Nat.lt_trans OH hj] using this
inductive rSSet(vs:List V)(H:Hp)(Q:VK):Prop
 |mk (v:V) (xss:List (List Int)) (m:Nat):vs=[v]->Is H (.l (xss.map tI)) v->0<m->((∀xs∈xss,xs.length=m))->ssB xss=true->(∀(N':List (List Int)) (q:Addr) (H':Hp),N'.Nodup->(∀z,z∈N'↔z∈xss)->(∀i j,i<j->j<N'.length->ltI (N'.getD j []) (N'.getD i [])=false)->H q=none->ae H H'->Is H' (.l (N'.map tI)) (.ref q)->Q (.ref q) H')->rSSet vs H Q
def Hv(I:Inv X M6 σ H s){rs:Sk V}(hi:Iss H (xss.map tI) rs)(r':au rs vs)(hm:0<m)(Qv:∀xs∈xss,xs.length=m)(Na:xss.length<64)(hnd:xss.Nodup){Q:VK}
  (q:∀(N':Sk (Sk Int)) (q:Se) (H':Hp),N'.Perm xss->(∀i j,i<j->j<N'.length->ltI (N'.getD j []) (N'.getD i [])=false)->H q=none->ae H H'->Is H' (.l (N'.map tI)) (.ref q)->Q (.ref q) H') (A:Sj):
  vs.length<64/\(vs.length<2->EP X M6 σ Q (.ref s.heap.objs.size) {s with heap:=sortedHeap (lsH s.heap vs) s.heap.objs.size vs vs.toArray})/\
   (2<=vs.length->∃(c:Nat->Nat->Bool) (kd:SortKind),StrO vs.length c/\
    (∀(R:SortKind->Sc->Prop) (E:PP->Sc->Prop),R kd {s with heap:=bS (lsH s.heap vs) s.heap.objs.size vs}->wpAny (model X.prog X.w) A.in1.in1 (keyKind' vs.toArray) R E {s with heap:=bS (lsH s.heap vs) s.heap.objs.size vs})/\
    (∀i j,i<vs.length->j<vs.length->∀C:Bool->Sc->Prop,C (c i j) {s with heap:=bS (lsH s.heap vs) s.heap.objs.size vs}->wpAny (model X.prog X.w) A.in1.in1 (keyLt' kd (vs.getD i .none) (vs.getD j .none)) C (λ_ _=>False) {s with heap:=bS (lsH s.heap vs) s.heap.objs.size vs})/\
    ∀p,Ord vs.length p->Up c p vs.length->EP X M6 σ Q (.ref s.heap.objs.size) {s with heap:=sortedHeap (lsH s.heap vs) s.heap.objs.size vs (p.map λi=>vs.getD i .none)}):=by
 have NC:∀xs∈xss,xs≠[]:=λxs hx z=>by have:=Qv xs hx;rw[z] at this;show absurd this (by change¬0=m;lia)
 have RB:rs.length=xss.length:=by rw[hi.length,A1]
 have ln:=r'.length;have lns:vs.length=xss.length:=by lia
 show{4,λh2=>?_,λh2=>{ft xss,tuples' true,by rw[lns];show GY (by lia) Qv hnd,λR E hR=>?_,λi j OW hj' C hC=>?_,λp ho up=>?_}}
 .have{e,he}:=vy s.heap vs vs.toArray;have fr:=I.hok.fresh (a:=s.heap.objs.size) (AB _);show{.ref s.heap.objs.size,_,I.laid (t':=s.toks) (λ_ _=>vx) (AB _) (show aG X.prog X.w _ _ _ (.lst rs) from{by rw[B1];lia,vs,e,r',he}),0,q xss _ _ (List.Perm.refl _) (λi j a b=>absurd b (by lia)) fr (ae.new fr) (aA ak (hi.mono (ae.new fr)))}
 .have I2:Inv X M6 σ H {s with heap:=bS (lsH s.heap vs) s.heap.objs.size vs}:=I.kept (t':=s.toks) λb o e=>nV e;have{fs,k1,k2,k3}:=um I2 hi r' NC;show kat_kind (T:= .type "int") k1 (by lia) (λf hf=>by have{z,t,0}:=k3 f hf;show .now) rfl hR
 .have I2:Inv X M6 σ H {s with heap:=bS (lsH s.heap vs) s.heap.objs.size vs}:=I.kept (t':=s.toks) λb o e=>nV e;have g:∀i,i<xss.length->∃a,vs.getD i .none=.ref a/\SqT X.K H a ((xss.getD i []).map V.int):=λi h=>by
   have hr:i<rs.length:=by lia
   have{d,hd,h1}:=hi.of_get (A2 hr);rw[AC,A2 h] at hd;cases hd;have{a,ea,ha}:=bK h1;have{u,NA,ru}:=r'.get (A2 hr);rw[ea] at ru;obtain rfl:u=Value.ref a:=ru;show{a,?_,?_}
   .rw[A5,NA];rfl
   .rw[A5,A2 h];show SqT.of ha
  have{a1,e1,s1}:=g i (by lia);have{a2,e2,s2}:=g j (by lia);rw[e1,e2];rw[uR (by lia) (by lia)] at hC;show Gv I2 s1 s2 hC
 .rw[lns] at ho up;have Po:∀i∈p.toList,i<xss.length:=λi hi=>ho.lt hi;have{e,he}:=vy s.heap vs (p.map λi=>vs.getD i .none);have en:(p.map λi=>vs.getD i .none)=List.toArray (p.toList.map λi=>vs.getD i .none):=by
   apply Array.toList_inj.mp;simp
  rw[en] at he⊢;have fr:=I.hok.fresh (a:=s.heap.objs.size) (AB _);show{.ref s.heap.objs.size,_,I.laid (t':=s.toks) (λ_ _=>vx) (AB _) (show aG X.prog X.w _ _ _ (.lst (p.toList.map λi=>rs.getD i .non)) from{?_,_,e,nE r' p.toList (λi hi=>by rw[RB];show Po i hi),he}),0,q (p.toList.map λi=>xss.getD i []) _ _ ?_ ?_ fr (ae.new fr) (aA ak ((uk hi p.toList Po).mono (ae.new fr)))}
  .rw[A1,B0,B1,ho.size];lia
  .have pp:=(Ce.mp ho).map λi=>xss.getD i [];rw[show(List.range xss.length).toArray.toList=List.range xss.length from rfl,Gu] at pp;show pp
  .intro i j OH hj;rw[A1,B0,ho.size] at hj;have up:=up i j OH hj;have g:∀i,i<xss.length->(p.toList.map λi=>xss.getD i []).getD i []=xss.getD (at0 p i) []/\at0 p i<xss.length:=λi h=>by
    have hs:i<p.size:=by rw[ho.size];show h
    have e:at0 p i=p[i]:=by simp[at0,Array.getD,hs]
    rw[e];show{?_,ho.lt (by simp)};rw[A5,AC];simp[hs]
   have{g1,g2}:=g i (by lia);have{g3,g4}:=g j hj;rw[g1,g3];rw[uR g4 g2] at up;show up
theorem nW{α β:Type}{f:β->α}{P:β->Prop}:∀(vs:Sk α),(∀v∈vs,∃j,P j/\v=f j)->∃js:Sk β,vs=js.map f/\∀j∈js,P j
 |[],_=>{[],0,λ_ h=>nomatch h}
 |v::vs,h=>by
  have{j,pj,e}:=h v (by simp);have{js,es,ps}:=nW vs λu hu=>h u (by simp[hu]);show{j::js,by rw[e,es];rfl,λi hi=>by rcases AI.mp hi with rfl|hi;show pj;show ps i hi}
theorem vB(ad:Nat->Se):∀js:Sk Nat,au (js.map λj=>V.ref (ad j)) (js.map λj=>Value.ref (ad j))
 |[]=>.nil
 |j::js=>.cons rfl (vB ad js)
theorem vC{H:Hp}(kk:Nat->Sk Int)(ad:Nat->Se):∀js:Sk Nat,(∀j∈js,H (ad j)=some (.tup ((kk j).map V.int)))->Iss H ((js.map kk).map tI) (js.map λj=>V.ref (ad j))
 |[],_=>ax
 |j::js,h=>ap (eD (h j (by simp))) (vC kk ad js λi hi=>h i (by simp[hi]))
def Hw{α β:Type}{f:α->β}{L:Sk α}{vs:Sk β}(h:vs.Perm (L.map f)):∃js:Sk α,js.Perm L/\vs=js.map f:=by
 generalize hm:L.map f=ms at h;induction h generalizing L with
 |nil=>show{[],by rw[List.map_eq_nil_iff.mp hm],0}
 | @cons x l1 l2 p ih=>
  cases L with
  |nil=>cases hm
  |cons a L=>
   rw[AK] at hm;injection hm with h1 h2;have{js,p,e}:=ih h2;show{a::js,p.cons a,by rw[AK,h1,e]}
 |swap x y l=>
  match L,hm with
  |a::b::L,hm=>
   simp only[AK,CP] at hm;have{0,0,0}:=hm;show{b::a::L,List.Perm.swap ..,0}
 |trans p1 p2 ih1 ih2=>
  have{js,q1,e1}:=ih2 hm;have{ks,q2,e2}:=ih1 e1.symm;show{ks,q2.trans q1,e2}
def Hx(ek:EsK kk ad n es ks)(hp:vs.Perm (es.toList.map (·.2))):
  ∃js:Sk Nat,vs=js.map (λj=>Value.ref (ad j))/\(∀j∈js,j<n)/\(js.map kk).Perm ks.toList:=by
 have hl:es.toList.length=ks.toList.length:=by simp[ek.size]
 have{L,eL,pL}:=nW (f:=λj=>((hK (kk j),Value.ref (ad j)),kk j)) (P:=λj=>j<n) (es.toList.zip ks.toList) λv hv=>by
  have{i,hi,e}:=DO.mp hv;rw[List.getElem_zip] at e;rw[List.length_zip] at hi;have hi1:i<es.size:=by simp at hi;lia
  have{j,j1,j2,j3}:=ek.of (Ac hi1);have hk:ks[i]? =some ks.toList[i]:=by rw[<-BU,A2]
  rw[hk,Option.some.injEq] at j2;show{j,j1,?_};rw[<-e,j2];show Prod.ext (by simpa using j3) rfl
 have e1:es.toList=L.map λj=>(hK (kk j),Value.ref (ad j)):=by
  have:=BB (List.map Prod.fst) eL;rw[List.map_fst_zip (by lia),BN] at this;show this
 have e2:ks.toList=L.map kk:=by
  have:=BB (List.map Prod.snd) eL;rw[List.map_snd_zip (by lia),BN] at this;show this
 rw[e1,BN] at hp;have{js,p,e}:=Hw hp;show{js,e,λj hj=>pL j (p.mem_iff.mp hj),by rw[e2];show p.map kk}
def Hy{e:Sl}{ta:TA}{p p2 pos PY:Pos}(hu:X.A.units+8<cLine)(hh:X.A.handled=none)(hg:Gl X "sorted")(hm:X.mg "sorted"=none)(hg2:Gl X "set")(hm2:X.mg "set"=none)
  (ha:PA X [e] ta) (he:starEach [e] X.env=(false,eval e X.env)::starEach [] X.env:=by rfl)
  (Px:starEach [Expr.Call (.Name "set" p2) [e] [] PY] X.env=(false,eval (Expr.Call (.Name "set" p2) [e] [] PY) X.env)::starEach [] X.env:=by rfl):
  PE X (.Call (.Name "sorted" p) [.Call (.Name "set" p2) [e] [] PY] [] pos) (tCB rSSet ta):=by
 intro M6 s σ H Q I h;show BK (cR I hg hm (by first|show boot_sorted|rfl|ac_nf) ?_ (by decide) (by decide));show DA ?_ Px (by rfl);rw[Px];change wpAny _ _ (spliced ((false,eval (Expr.Call (.Name "set" p2) [e] [] PY) X.env)::backTo pos (starEach [] X.env))) _ _ s;show CV ?_;show BK (cR I hg2 hm2 (by first|rfl|ac_nf) ?_ (by decide) (by decide));show B7 (thn (ha PY M6 s σ H _ I h) λus s1 zu57=>?_) he (by rfl);have{vs,H1,I1,r1,q1}:=zu57;have{v,xss,m,0,hv,Rw,Qv,RC,q}:=q1;have{y,Os,htb,tl,tp,tm,t64,knd,Qw}:=Hu RC (!X.w.params.followText "set-order");have{l,rs,0,hl,hi}:=aD hv;have RB:rs.length=xss.length:=by rw[hi.length,A1]
 have{u,0,rx}:=c8 r1;cases rx;have{M9,r',pl,hz}:=I1.list (SqL.of (K:=X.K) hl);have ln:=r'.length;have g:∀i,∃a,i<xss.length->M9[i]? =some (.ref a)/\rs[i]? =some (.ref a)/\H1 a=some (.tup ((xss.getD i []).map V.int)):=λi=>by
  by_cases h:i<xss.length
  .have hr:i<rs.length:=by lia
   have{d,hd,h1}:=hi.of_get (A2 hr);rw[AC,A2 h] at hd;cases hd;have{a,ea,ha}:=bK h1;have{u,NA,ru}:=r'.get (A2 hr);rw[ea] at ru;obtain rfl:u=Value.ref a:=ru;show{a,λ_=>{NA,by rw[A2 hr,ea],?_}};rw[A5,A2 h];show ha
  .show{(0),λc=>absurd c h}
 let ad:Nat->Se:=λi=>Classical.choose (g i)
 have hg:∀i,i<xss.length->M9[i]? =some (.ref (ad i))/\rs[i]? =some (.ref (ad i))/\H1 (ad i)=some (.tup ((xss.getD i []).map V.int)):=λi hi=>Classical.choose_spec (g i) hi;generalize ad=ad at hg;show G9 (kk:=λi=>xss.getD i []) (ad:=ad) (items:=M9.toArray) hh (by lia) pl.isList (xs:=xss) (λi hi=>?_) (by rw[AH];lia) Os (λi hi=>?_) λh' tk es hS ek hk=>?_
 .rw[AH] at hi;rw[A5,A2 (by lia)];rfl
 .rw[AH] at hi;have hg':=hg i (by lia);show{by rw[List.getElem?_toArray];show hg'.1,Hs I1 (SqT.of hg'.2.2)}
 .have I2:Inv X M6 σ H1 {s1 with heap:=h',toks:=tk}:=I1.kept λb o e=>hk b o (AM e) e;show A3 ?_;change wpAny _ _ (call (.builtin "sorted") [.ref s1.heap.objs.size]) _ _ {s1 with heap:=h',toks:=tk};have{ep,ho}:=hS;have ez:=ek.size;show Hr (Hq (s:={s1 with heap:=h',toks:=tk}) (A:=X.A.in1) hh ho (htb es ez) (by lia) tl tp λh'' tk' vs OX hsz hp=>?_) λvs s' g=>g;have{js,ev,lt,pk}:=Hx ek hp;have I3:Inv X M6 σ H1 {s1 with heap:=h'',toks:=tk'}:=I2.kept OX;have lt':∀j∈js,j<xss.length:=λj hj=>by have:=lt j hj;rw[AH] at this;lia
  subst ev;have mem:∀z,z∈js.map (λi=>xss.getD i [])↔z∈xss:=λz=>by rw[pk.mem_iff];show Qw z
  have bound:(js.map λi=>xss.getD i []).length=y.2.size:=by rw[pk.length_eq,B0]
  have nd:=pk.nodup_iff.mpr knd;show Hv I3 (rs:=js.map λj=>V.ref (ad j)) (xss:=js.map λi=>xss.getD i []) (vC _ ad js λj hj=>(hg j (lt' j hj)).2.2) (vB ad js) Rw (λxs hx=>Qv xs ((mem xs).mp hx)) (by lia) nd (λN' q' H' pm srt hq sm his=>?_) X.A;show q N' q' H' (pm.nodup_iff.mpr nd) (λz=>by rw[pm.mem_iff];show mem z) srt hq sm his
end
end L2
namespace L2
open PySem PySem.Spec PyProof.Rows PySem.W
variable{H H':Hp}{M7:Sk (Sk Key×V)}{P:Sf}{Q:Sn PP->Sc->Prop}{d it:Se}{e:DictEntry}{ep i:Nat}{es:Array DictEntry}{o:Obj}{w:Si}
section
variable{prog:Sf}{w:Si}{A:Sj}{E:PP->Sc->Prop}{s:Sc}
def Hz{Q:PP->Sc->Prop}(hd:(d==sysModules)=false)(ho:s.heap.get? d=some o)(hc:o.ExactDict)(OR:o.data=.dict es ep)
  (hQ:Q (.ref s.heap.objs.size) {s with heap:=s.heap.push {cls:= .type "dict_keyiterator",data:= .fields #[.ref d,.int 0 0,.int es.size 0,.int ep 0]}}):
  wpAny (model prog w) A (pyIter (.ref d)) Q E s:=by
 have hT:s.TypeIs (.ref d) "dict":={o,ho,hc.1};show wpAny_pyIter_slot hT PySem.F.slot_dict_iter (Al PySem.F.slot_dict_iter hT PySem.F.entry_dict_iter ?_ (PySem.F.args_dict_iter_1 _));unfold Builtin.«dict.__iter__»;show A0 ?_;unfold Builtin.Dict.dictSlotNone;show A0 (wpAny_notOrdered_dict hT ?_);change wpAny _ _ (pure (Value.ref d)) _ _ s;show A3 ?_;change wpAny _ _ (Builtin.Dict.showsAll d>>=_) _ _ s;unfold Builtin.Dict.showsAll;rw[A6 (by rw[hd];show AO)];show A0 (A3 ?_);show A0 (Ch ho OR ?_);show A0 (D7 ho OR ?_);show A0 (Ax (A3 {1,"dict_keyiterator",_,{_,AJ _ rfl,0},Bi.lookup,?_}));simpa[rawInt] using hQ
def HI(Nd:s.heap.IsKeyIter it d i es.size ep)(PZ:s.heap.get? d=some o)(P0:o.data=.dict es ep)(he:es[i]? =some e)
  (hQ:∀h',h'.IsKeyIter it d (i+1) es.size ep->Heap.SameBut it s.heap h'->Q (some e.key) {s with heap:=h'}):wpAny (model prog w) A (pyNext (.ref it)) Q E s:=by
 have{oi,ho,hc,hd}:=id Nd;have Nb:i<es.size:=(Array.getElem?_eq_some_iff.mp he).1;unfold pyNext;show A0 (CK (B5 (name:=Str.ofString "__next__") Nd.typeIs Bi (Al Bi Nd.typeIs PySem.F.entry_dict_keyiterator_next ?_ (PySem.F.args_dict_keyiterator_next_1 _))));show A0 (A3 ?_);show A0 ?_;show A0 ?_;first|show A0 (CT Nd.typeIs (A3 ?_));skip|show A0 (Cz Nd.typeIs (A3 ?_));skip
 show A0 (DJ ho hd ?_);have OB:Builtin.Dict_items.ownsTuple "dict_keyiterator"=false:=by decide
 simp -iota only[OB,AN,Au];change wpAny _ _ (if(Value.ref d==Value.none)=true then _ else _) _ _ s;rw[A6 (show¬((Value.ref d==Value.none)=true) from AO)];show A0 (A3 ?_);show A0 (Ch PZ P0 ?_);rw[A6 (by simp)];show A0 (A3 ?_);show A0 (D7 PZ P0 ?_);rw[A6 (by simp)];show A3 ?_;simp only[show¬((i:Int)<0) from by lia,Au,Ag,he];show A0 ?_;first|show A0 (CT Nd.typeIs (A3 ?_));skip|show A0 (Cz Nd.typeIs (A3 ?_));skip
 show A0 (wpAny_isOneOf_keyiter Nd.typeIs ?_);change wpAny _ _ (setField (.ref it) 1 (rawInt ((i:Int)+1))>>=_) _ _ s;show A0 (CC ho hd (by simp) ?_);have NP:(s.heap.update it (Obj.mapFields (·.setIfInBounds 1 (rawInt ((i:Int)+1))))).IsKeyIter it d (i+1) es.size ep:={_,Bw _ ho (DZ (By hd _)),(Obj.cls_mapFields ..).trans hc,by rw[By hd];simp[rawInt]};show A0 (B2 ?_);show A0 (wpAny_isOneOf_keyiter (s:={s with heap:=s.heap.update it (Obj.mapFields (·.setIfInBounds 1 (rawInt ((i:Int)+1))))}) NP.typeIs ?_);change wpAny _ _ (pure e.key) _ _ _;show A3 (A3 {1,A3 (hQ _ NP (BE ..))})
def HJ(hh:A.handled=none)(Nd:s.heap.IsKeyIter it d i es.size ep)(PZ:s.heap.get? d=some o)(P0:o.data=.dict es ep)(he:es.size<=i)
  (hQ:∀h',Heap.ExtBut it s.heap h'->Q none {s with heap:=h'}):wpAny (model prog w) A (pyNext (.ref it)) Q E s:=by
 have{oi,ho,hc,hd}:=id Nd;unfold pyNext;show A0 (CK (B5 (name:=Str.ofString "__next__") Nd.typeIs Bi (Al Bi Nd.typeIs PySem.F.entry_dict_keyiterator_next ?_ (PySem.F.args_dict_keyiterator_next_1 _))));show A0 (A3 ?_);show A0 ?_;show A0 ?_;first|show A0 (CT Nd.typeIs (A3 ?_));skip|show A0 (Cz Nd.typeIs (A3 ?_));skip
 show A0 (DJ ho hd ?_);have OB:Builtin.Dict_items.ownsTuple "dict_keyiterator"=false:=by decide
 simp -iota only[OB,AN,Au];change wpAny _ _ (if(Value.ref d==Value.none)=true then _ else _) _ _ s;rw[A6 (show¬((Value.ref d==Value.none)=true) from AO)];show A0 (A3 ?_);show A0 (Ch PZ P0 ?_);rw[A6 (by simp)];show A0 (A3 ?_);show A0 (D7 PZ P0 ?_);rw[A6 (by simp)];show A3 ?_;simp only[show¬((i:Int)<0) from by lia,Au,Ag,BP he];show A0 ?_;first|show A0 (CT Nd.typeIs (A3 ?_));skip|show A0 (Cz Nd.typeIs (A3 ?_));skip
 change wpAny _ _ (setField (.ref it) 0 .none>>=_) _ _ s;show A0 (CC ho hd (by simp) ?_);change wpAny _ _ (newExc (.type "StopIteration") []>>=_) _ _ _;show A0 ?_;simp only[newExc,newTuple];show A0 (Ax ?_ (by size_fits));show A0 (m:=firstArgMember _ _) (Df (a:=Value.none) (by first|rfl|(simp only[firstArgMember];rfl)) ?_);show Ax ?_ (by size_fits);simp -iota only[raiseNew];show A0 (wpAny_handled ?_);rw[show A.in1.handled=none from hh];show A0 (A3 (wpAny_throw ?_));show A0 (Bx (T:="StopIteration") (b:=true) {_,AJ _ rfl,0} isSubtype_stop ?_);show A3 (hQ _ (((BE ..).extBut.push _).push _))
end
section
variable{prog:Sf}{w:Si}{A:Sj}{E:PP->Sc->Prop}{s:Sc}
def HK{Q:PP->Sc->Prop}(hd:(d==sysModules)=false)(ho:s.heap.get? d=some o)(hc:o.ExactDict)
  (hQ:Q (.ref s.heap.objs.size) {s with heap:=s.heap.push {cls:= .type "dict_values",data:= .fields #[.ref d]}}):wpAny (model prog w) A (call (.builtin "dict.values") [.ref d]) Q E s:=by
 have hT:s.TypeIs (.ref d) "dict":={o,ho,hc.1};show Al PySem.F.slot_dict_values hT PySem.F.entry_dict_values ?_ (PySem.F.args_dict_values_1 _);show A0 ?_;unfold Builtin.Dict.noArgs;show A0 (wpAny_notOrdered_dict hT ?_);change wpAny _ _ (pure d) _ _ s;show A3 ?_;change wpAny _ _ (Builtin.Dict.showsAll d>>=_) _ _ s;unfold Builtin.Dict.showsAll;rw[A6 (by rw[hd];show AO)];show A0 (A3 ?_);show A0 (Ax (A3 {1,hQ}))
def HL{v:Se}{Q:PP->Sc->Prop}(hv:s.heap.IsValuesView v d)(ho:s.heap.get? d=some o)(OR:o.data=.dict es ep)
  (hQ:Q (.ref s.heap.objs.size) {s with heap:=s.heap.push {cls:= .type "dict_valueiterator",data:= .fields #[.ref d,.int 0 0,.int es.size 0,.int ep 0]}}):
  wpAny (model prog w) A (pyIter (.ref v)) Q E s:=by
 have{ov,hov,hcv,hdv}:=id hv;show wpAny_pyIter_slot hv.typeIs PySem.F.slot_dict_values_iter (Al PySem.F.slot_dict_values_iter hv.typeIs PySem.F.entry_dict_values_iter ?_ (PySem.F.args_dict_values_iter_1 _));unfold Builtin.«dict_values.__iter__»;show A0 (A3 ?_);show A0 ?_;unfold Builtin.Dict_items.dictOf;show A0 (Bh hov hdv (x:= .ref d) rfl (A3 ?_));show A0 ?_;unfold Builtin.Dict_items.newIterator;show A0 (Ch ho OR ?_);show A0 (D7 ho OR ?_);have OB:Builtin.Dict_items.ownsTuple "dict_valueiterator"=false:=by decide
 simp -iota only[OB,AN,Au];show Ax (A3 {1,"dict_valueiterator",_,{_,AJ _ rfl,0},Bb.lookup,?_});simpa[rawInt] using hQ
def HM(Nd:s.heap.IsValIter it d i es.size ep)(PZ:s.heap.get? d=some o)(P0:o.data=.dict es ep)(he:es[i]? =some e)
  (hQ:∀h',h'.IsValIter it d (i+1) es.size ep->Heap.SameBut it s.heap h'->Q (some e.val) {s with heap:=h'}):wpAny (model prog w) A (pyNext (.ref it)) Q E s:=by
 have{oi,ho,hc,hd}:=id Nd;have Nb:i<es.size:=(Array.getElem?_eq_some_iff.mp he).1;unfold pyNext;show A0 (CK (B5 (name:=Str.ofString "__next__") Nd.typeIs Bb (Al Bb Nd.typeIs PySem.F.entry_dict_valueiterator_next ?_ (PySem.F.args_dict_valueiterator_next_1 _))));show A0 (A3 ?_);show A0 ?_;show A0 ?_;first|show A0 (CS Nd.typeIs (A3 ?_));skip|show A0 (Cy Nd.typeIs (A3 ?_));skip
 show A0 (DJ ho hd ?_);have OB:Builtin.Dict_items.ownsTuple "dict_valueiterator"=false:=by decide
 simp -iota only[OB,AN,Au];change wpAny _ _ (if(Value.ref d==Value.none)=true then _ else _) _ _ s;rw[A6 (show¬((Value.ref d==Value.none)=true) from AO)];show A0 (A3 ?_);show A0 (Ch PZ P0 ?_);rw[A6 (by simp)];show A0 (A3 ?_);show A0 (D7 PZ P0 ?_);rw[A6 (by simp)];show A3 ?_;simp only[show¬((i:Int)<0) from by lia,Au,Ag,he];show A0 ?_;first|show A0 (CS Nd.typeIs (A3 ?_));skip|show A0 (Cy Nd.typeIs (A3 ?_));skip
 show A0 (wpAny_isOneOf_valiter Nd.typeIs ?_);change wpAny _ _ (setField (.ref it) 1 (rawInt ((i:Int)+1))>>=_) _ _ s;show A0 (CC ho hd (by simp) ?_);have NP:(s.heap.update it (Obj.mapFields (·.setIfInBounds 1 (rawInt ((i:Int)+1))))).IsValIter it d (i+1) es.size ep:={_,Bw _ ho (DZ (By hd _)),(Obj.cls_mapFields ..).trans hc,by rw[By hd];simp[rawInt]};show A0 (B2 ?_);show A0 (wpAny_isOneOf_valiter (s:={s with heap:=s.heap.update it (Obj.mapFields (·.setIfInBounds 1 (rawInt ((i:Int)+1))))}) NP.typeIs ?_);show A0 (wpAny_isOneOf_valiter (s:={s with heap:=s.heap.update it (Obj.mapFields (·.setIfInBounds 1 (rawInt ((i:Int)+1))))}) NP.typeIs ?_);change wpAny _ _ (pure e.val) _ _ _;show A3 (A3 {1,A3 (hQ _ NP (BE ..))})
def HN(hh:A.handled=none)(Nd:s.heap.IsValIter it d i es.size ep)(PZ:s.heap.get? d=some o)(P0:o.data=.dict es ep)(he:es.size<=i)
  (hQ:∀h',Heap.ExtBut it s.heap h'->Q none {s with heap:=h'}):wpAny (model prog w) A (pyNext (.ref it)) Q E s:=by
 have{oi,ho,hc,hd}:=id Nd;unfold pyNext;show A0 (CK (B5 (name:=Str.ofString "__next__") Nd.typeIs Bb (Al Bb Nd.typeIs PySem.F.entry_dict_valueiterator_next ?_ (PySem.F.args_dict_valueiterator_next_1 _))));show A0 (A3 ?_);show A0 ?_;show A0 ?_;first|show A0 (CS Nd.typeIs (A3 ?_));skip|show A0 (Cy Nd.typeIs (A3 ?_));skip
 show A0 (DJ ho hd ?_);have OB:Builtin.Dict_items.ownsTuple "dict_valueiterator"=false:=by decide
 simp -iota only[OB,AN,Au];change wpAny _ _ (if(Value.ref d==Value.none)=true then _ else _) _ _ s;rw[A6 (show¬((Value.ref d==Value.none)=true) from AO)];show A0 (A3 ?_);show A0 (Ch PZ P0 ?_);rw[A6 (by simp)];show A0 (A3 ?_);show A0 (D7 PZ P0 ?_);rw[A6 (by simp)];show A3 ?_;simp only[show¬((i:Int)<0) from by lia,Au,Ag,BP he];show A0 ?_;first|show A0 (CS Nd.typeIs (A3 ?_));skip|show A0 (Cy Nd.typeIs (A3 ?_));skip
 change wpAny _ _ (setField (.ref it) 0 .none>>=_) _ _ s;show A0 (CC ho hd (by simp) ?_);change wpAny _ _ (newExc (.type "StopIteration") []>>=_) _ _ _;show A0 ?_;simp only[newExc,newTuple];show A0 (Ax ?_ (by size_fits));show A0 (m:=firstArgMember _ _) (Df (a:=Value.none) (by first|rfl|(simp only[firstArgMember];rfl)) ?_);show Ax ?_ (by size_fits);simp -iota only[raiseNew];show A0 (wpAny_handled ?_);rw[show A.in1.handled=none from hh];show A0 (A3 (wpAny_throw ?_));show A0 (Bx (T:="StopIteration") (b:=true) {_,AJ _ rfl,0} isSubtype_stop ?_);show A3 (hQ _ (((BE ..).extBut.push _).push _))
theorem HP(hh:A.handled=none)(I d:Se)(NC:d≠I)(OR:o.data=.dict es ep):
  Walks prog w A I [I,d] [I] es.size (λi v=>∃e,es[i]? =some e/\v=e.val) (λi h=>h.IsValIter I d i es.size ep/\h.get? d=some o) where
 sub:=λb hb=>by simp at hb;simp[hb]
 frame:=λ_ _ _ st hk=>{st.1.at λo e=>hk I (by simp) o e,hk d (by simp) _ st.2}
 item:=λi s Q E hi st hQ=>HM st.1 st.2 OR (Ac hi) λh' O1 hs'=>hQ _ h' s.toks {_,Ac hi,0} {O1,hs'.extBut d _ NC st.2} λb o hb e=>hs'.extBut b o (λh=>hb (by simp[h])) e
 done:=λs Q E st hQ=>HN hh st.1 st.2 OR (AB _) λh' Qu=>hQ h' s.toks λb o hb e=>Qu b o (λh=>hb (by simp[h])) e
 self:=λ_ _ _ _ st hQ=>wpAny_pyIter_valiter st.1 hQ
theorem vD(ns:Sk Int):∀k,k<=ns.length->preSum (λi=>ns.getD i 0) k=(ns.take k).sum
 |0,_=>by simp[preSum]
 |k+1,h=>by
  have hk:k<ns.length:=by lia
  have g:ns.getD k 0=ns[k]:=by simp[List.getD,hk]
  rw[preSum,vD ns k (by lia),AX,A2 hk,BQ];change _+ns.getD k 0=_+[ns[k]].sum;rw[g];simp
end
theorem nX{α β:Type}{R:α->β->Prop}:∀{xs:Sk α}{ys:Sk β}{i:Nat}{x:α},Paired R xs ys->xs[i]? =some x->∃y,ys[i]? =some y/\R x y
 |_,_,i,x,.nil,h=>by simp at h
 |_,_,0,x,.cons r _,h=>by simp at h;subst h;show{1,r}
 |_,_,i+1,x,.cons _ t,h=>by simp at h;have{y,e,r}:=nX t h;show{y,by simpa using e,r}
def Itk(d:Se)(o:Obj)(M7:Sk (Sk Key×V)):It:=
 {λi H=>H d=some (.frz o (.dT M7))/\i<M7.length,λi H x H'=>H'=H/\∃b k v,x=.ref b/\M7[i]? =some (k,v)/\H b=some (.tup (k.map kV)),λi H=>H d=some (.frz o (.dT M7))/\M7.length<=i}
inductive iDict_(R:(It->Hp->Prop))(x:V)(H1:Hp):Prop
 |mk (d:Addr) (M7:List (List Key×V)):x=.ref d->Rd H1 d (.dT M7)->(∀(o:Obj) (H2:Hp),H2 d=some (.frz o (.dT M7))->(∀b,b≠d->H2 b=H1 b)->R (Itk d o M7) H2)->iDict_ R x H1
def HQ(td:TE):TI:=λσ H R=>td σ H λx H1=>iDict_ R x H1
def HR{K:W.Frag}{tg:Sl}(d it:Se)(o:Obj)(M7:Sk (Sk Key×V))(ep:Nat)(hep:∀NH PD,o.data=.dict NH PD->PD=ep):Turn P w K tg (Itk d o M7) [it] it (λi h=>h.IsKeyIter it d i M7.length ep) where
 mem:=by simp
 obj:=λi h st b hb=>by
  have e:b=it:=by simpa using hb
  subst e;have{o,e,c,d}:=st;show{o,e,λv z=>by rw[d] at z;cases z}
 keep:=λi h h' st k=>st.at λo e=>k it (by simp) o e
 item:=by
  intro X hP hw hK hc i M6 s σ H E I hf st hg;subst hP hw hK;have{hq,hi}:=hg;have{ho,z,y,xs,Nv,o',es,PD,h1,h2,h3,h4,h5}:=(show aG X.prog X.w H s.heap d (.frz o (.dT M7)) from I.hok d _ hq);obtain rfl:o=o':=Ao (ho.symm.trans h1);obtain rfl:PD=ep:=hep _ _ h3;have hx:M7[i]? =some M7[i]:=A2 hi;have{q,PR,e1,e2,e3}:=nX Nv hx;have hsz:es.size=M7.length:=by rw[<-B0,h4,A1,<-C8 Nv]
  have he:es[i]? =some (entryOfKey (tupleKind (bY X.prog X.w)) q):=by rw[<-BU,h4,AC,PR];rfl
  have{f0,f1,f2,f3,f4,f5}:=hf it (by simp);rw[<-hsz] at st;show HI st ho h3 he λh' NP sb=>?_;have I1:Inv X M6 σ H {s with heap:=h'}:=I.turned (t':=s.toks) (λb o hb e=>(sb.2 b hb).trans e) f0 f1 f3 f4 f5;have{oo,e,c,d'}:=id NP;rw[hsz] at NP;show{1,go_of (s:={s with heap:=h'}) e c d' (by decide) {.ref q.2.1,H,I1,0,{0,q.2.1,M7[i].1,M7[i].2,0,hx,e2},NP,λb hb=>(hf b hb).1}}
 done:=by
  intro X hP hw hK hc i M6 s σ H E I hf st hg;subst hP hw hK;have{hq,hi}:=hg;have{ho,z,y,xs,Nv,o',es,PD,h1,h2,h3,h4,h5}:=(show aG X.prog X.w H s.heap d (.frz o (.dT M7)) from I.hok d _ hq);obtain rfl:o=o':=Ao (ho.symm.trans h1);obtain rfl:PD=ep:=hep _ _ h3;have hsz:es.size=M7.length:=by rw[<-B0,h4,A1,<-C8 Nv]
  have{f0,f1,f2,f3,f4,f5}:=hf it (by simp);rw[<-hsz] at st;show HJ (I.ok.hd hc) st ho h3 (by lia) λh' eb=>{0,I.turned (t':=s.toks) (λb o hb e=>eb b o hb e) f0 f1 f3 f4 f5}
 self:=λ_ _ _ _ _ st h=>wpAny_pyIter_keyiter st h
section
variable{X:Cx}{tg:Sl}
def HS{h:Sm}(q:aG P w H h d (.dT M7))(k:∀b ys,H b=some (.tup ys)->H' b=some (.tup ys)):aG P w H' h d (.dT M7):=by
 have{z,y,xs,Nv,r}:=q;show{z,y,xs,KT.keeps Nv λc ys ec=>k c ys ec,r}
def HU{l:Sl}{tl:TE}(hl:PE X l tl):PI X tg l (HQ tl):=by
 intro M6 s σ H R I h;show thn (hl M6 s σ H _ I h) λv s1 zu58=>?_;have{x,H1,I1,r1,q1}:=zu58;have{d,M7,0,hq,q}:=q1;cases r1;have hob:aG X.prog X.w H1 s1.heap d (.dT M7):=kP I1.hok hq;have{z,y,xs,Nv,o,es,ep,h1,h2,h3,h4,h5}:=id hob;have hsz:es.size=M7.length:=by rw[<-B0,h4,A1,<-C8 Nv]
 obtain⟨H2,I2,e2,k2⟩:∃H2,Inv X M6 σ H2 s1/\H2 d=some (.frz o (.dT M7))/\∀b,b≠d->H2 b=H1 b:=by
  rcases hq with hq|⟨o',hq⟩
  .show{_,hJ (t':=s1.toks) I1 (by rw[hq];show True.intro) (Heap.SameBut.refl _ _) {o,h1} (show aG X.prog X.w (upd H1 d (.frz o (.dT M7))) s1.heap d (.frz o (.dT M7)) from{h1,HS hob λb ys e=>by rw[av (kt e hq (λz=>nomatch z))];show e}),ak,λb hb=>av hb}
  .have{Ol,_}:=(show aG X.prog X.w H1 s1.heap d (.frz o' (.dT M7)) from I1.hok d _ hq);obtain rfl:o'=o:=Ao (Ol.symm.trans h1);show{H1,I1,hq,λ_ _=>rfl}
 show Hz y h1 h2 h3 ?_;rw[hsz];show{s1.heap.objs.size,[s1.heap.objs.size],_,3,I2.kept (t':=s1.toks) λb o e=>A4 _ e,HR d _ o M7 ep (λNH PD e=>by rw[h3] at e;cases e;rfl),{_,AJ _ rfl,0,0},λb hb=>?_,q o H2 e2 k2};have e:b=s1.heap.objs.size:=by simpa using hb
 subst e;show I2.fpOk (AB _) (I2.hok.fresh (AB _))
def HV{g:TG}{tb:TS}{D:Ends}{σ:St}(Pv:Nat->St->Hp->Prop)(h0:Pv 0 σ H)(hl:∀i σ H,i<=M7.length->Pv i σ H->H d=some (.frz o (.dT M7)))
  (hs:∀i k v b σ H,M7[i]? =some (k,v)->Pv i σ H->H b=some (.tup (k.map kV))->g (.ref b) σ H λσ2 H2=>tb (eLp D (Pv (i+1))) σ2 H2) (hd:∀σ H,Pv M7.length σ H->D.nx σ H):
  ∃Wq:Nat->Nat->St->Hp->Prop,(∃m,Wq 0 m σ H)/\∀i m σ H,Wq i m σ H->
   ((Itk d o M7).stop i H/\D.nx σ H)\/((Itk d o M7).go i H/\∃N:St->Hp->Prop,(∀σ' H',N σ' H'->∃m',m'<m/\Wq (i+1) m' σ' H')/\∀x H',(Itk d o M7).yld i H x H'->g x σ H' λσ2 H2=>tb (eLp D (N)) σ2 H2):=by
 show{λi m σ H=>m=M7.length-i/\i<=M7.length/\Pv i σ H,{M7.length,7,AW _,h0},?_};rintro i m σ H ⟨rfl,hi,p⟩;have q:=hl i σ H hi p;by_cases Nb:i<M7.length
 .show .inr {{q,Nb},Pv (i+1),λσ' H' p'=>{M7.length-(i+1),4,0,Nb,p'},?_};rintro x H' ⟨rfl,b,k,v,rfl,e,hb⟩;show hs i k v b σ _ e p hb
 .obtain rfl:i=M7.length:=by lia
  show .inl {{q,AB _},hd σ H p}
def HW(tk tv:TE):TE:=λσ H Q=>∀p,H p=none->tk σ (upd H p (.dT [])) λx H1=>tv σ H1 λy H2=>H2 p=some (.dT [])/\∃k b,x=.ref b/\H2 b=some (.tup (k.map kV))/\Q (.ref p) (upd H2 p (.dT (aZ [] k y)))
def HX{ek ev:Sl}{tk tv:TE}{pos:Pos}(hu:X.A.units+1<cLine)(hk:PE X ek tk)(hv:PE X ev tv):PE X (.Dict [some ek] [ev] pos) (HW tk tv):=by
 intro M6 s σ H Q I q;have hn:=I.hok.fresh (AB s.heap.objs.size);have I1:=I.laid (a:=s.heap.objs.size) (o:= .dT []) (h':=s.heap.push {cls:= .type "dict",data:= .dict #[]}) (t':=s.toks) (λ_ _ q=>A4 _ q) (AB _) (tG s.heap I.big);rw[arm_eval_Dict,zip_pairTrees [some ek] [ev] X.env pos rfl rfl,dictDisplay_pairs (pairTrees [some ek] [ev] X.env pos) (by intro z;cases z) (show 1<17 by decide)];show A0 (De (A0 ?_));unfold subDict;show A0 (wpAny_alloc ?_);show A0 (B2 ?_);rw[A8 (show(pairTrees [some ek] [ev] X.env pos).length<=15 from(by decide:1<=15))];show A0 (pairTrees_cons_walk (thn (hk M6 _ σ _ _ I1 (q _ hn)) λu s1 zu59=>?_));have{x,H1,I2,rx,q1}:=zu59;show thn (hv M6 s1 σ H1 _ I2 q1) λw2 s2 zu60=>?_;have{y,H2,I3,ry,e,k,b,ex,eb,q2}:=zu60;show pairTrees_nil_walk ?_;subst ex;cases (show u=Value.ref b from rx);have{z,hd,xs,Nv,dd}:=tF I3.hok e;cases Nv;show wpAny_holding (wpAny_bind ?_);rw[List.forIn_cons];dsimp only;show A0 (A0 (wpAny_dictSet_heap (knd:=tupleKind (bY X.prog X.w)) (show X.A.units<cLine by lia) (jk I3.hok eb) dd (λh' Qh hs=>A3 ?_) (AW _)));dsimp only;rw[List.forIn_nil];show wpAny_pure (wpAny_pure (wpAny_pure (wpAny_pure ?_)));have{o,es,ep,hq,h2,h3,h4,_,h5}:=Qh;show{.ref s.heap.objs.size,_,hJ I3 (by rw[e];show True.intro) hs {o,hq} (show aG X.prog X.w (upd H2 s.heap.objs.size (.dT (aZ [] k y))) h' s.heap.objs.size (.dT (aZ [] k y)) from{(by change 1<=sizeLine;decide),hd,_,KT.keeps (KT.put .nil k eb ry) λc ys ec=>?_,o,es,ep,hq,h2,h3,h4,h5}),0,q2};rw[av (kt ec e (λz=>nomatch z))];show ec
inductive tSumV_(Q:VK)(x:V)(H1:Hp):Prop
 |mk (d:Addr) (M7:List (List Key×V)) (ns:List Int):x=.ref d->Rd H1 d (.dT M7)->M7.map (·.2)=ns.map V.int->Q (.int ns.sum) H1->tSumV_ Q x H1
def HY(td:TE):TE:=λσ H Q=>td σ H λx H1=>tSumV_ Q x H1
def HZ{e:Sl}{td:TE}{p Nr Nh pos:Pos}(hc:X.calm=true)(hg:Gl X "sum")(hm:X.mg "sum"=none)(he:PE X e td)
  (Px:starEach [Expr.Call (.Attribute e "values" Nr) [] [] Nh] X.env=(false,eval (Expr.Call (.Attribute e "values" Nr) [] [] Nh) X.env)::starEach [] X.env:=by rfl)
  (OM:attributeBase e "values" X.env (eval e X.env)=eval e X.env:=by rfl) (ON:(Nr.endLine==Nh.line)=true:=by rfl):
  PE X (.Call (.Name "sum" p) [.Call (.Attribute e "values" Nr) [] [] Nh] [] pos) (HY td):=by
 intro M6 s σ H Q I h;show BK (cR I hg hm (by first|show Dl|rfl|ac_nf) ?_ (by decide) (by decide));show DA ?_ Px (by rfl);rw[Px];change wpAny _ _ (spliced ((false,eval (Expr.Call (.Attribute e "values" Nr) [] [] Nh) X.env)::backTo pos (starEach [] X.env))) _ _ s;show CV ?_;show wpAny_Call_method0_late OM ON (thn (he M6 s σ H _ I h) λv s1 zu61=>?_);have{x,H1,I1,r1,q1}:=zu61;have{d,M7,ns,0,hrd,hns,q}:=q1;cases r1;have{hT,Oy,hsys}:=tH I1 (.inr {M7,hrd});have{z,y,xs,Nv,o,es,ep,h1,h2,h3,h4,h5}:=(show aG X.prog X.w H1 s1.heap d (.dT M7) from kP I1.hok hrd);show{"dict","dict.values",PySem.F.plainAttrs_dict,PySem.F.slot_dict_values,PySem.F.type_dict_values,hT,Oy,DQ rfl (PySem.evalArgs_none (HK hsys h1 h2 (A3 ?_)))};change wpAny _ _ (call (.builtin "sum") [.ref s1.heap.objs.size]) _ _ _;have h1':(s1.heap.push {cls:= .type "dict_values",data:= .fields #[.ref d]}).get? d=some o:=A4 _ h1;have hdl:d<s1.heap.objs.size:=AM h1;have hsz:es.size=M7.length:=by rw[<-B0,h4,A1,<-C8 Nv]
 have hnl:ns.length=M7.length:=by have:=BB List.length hns;simpa using this.symm
 show call_sum_walkAnyS (HL (s:={s1 with heap:=s1.heap.push {cls:= .type "dict_values",data:= .fields #[.ref d]}}) {_,AJ _ rfl,0,0} h1' h3 ?_);show{_,_,_,_,_,_,_,λi=>ns.getD i 0,0,(HP (A:=X.A.in1) (I.ok.hd hc) (s1.heap.push {cls:= .type "dict_values",data:= .fields #[.ref d]}).objs.size d (by rw[B3];show AU (Am hdl)) h3).toS,{{_,AJ _ rfl,0,0},A4 _ h1'},?_,?_,?_}
 .intro b hb;simp only[AI,At,Bq] at hb;rcases hb with rfl|rfl
  .change _<(Heap.push (s1.heap.push _) _).objs.size;rw[B3 (s1.heap.push _)];show BZ _
  .change _<(Heap.push (s1.heap.push _) _).objs.size;rw[B3,B3];show Am (Am hdl)
 .rintro i v ⟨e,hei,rfl⟩;rw[<-BU,h4,AC] at hei;have{q',QV,0}:=A'.mp hei;have hi:i<M7.length:=by rw[C8 Nv];show(AF.mp QV).1
  have{q2,hq2,e1,e2,e3}:=nX Nv (A2 hi);rw[QV] at hq2;cases hq2;have:M7[i].2=V.int (ns.getD i 0):=by
   have z1:(M7.map (·.2))[i]? =some M7[i].2:=by rw[AC,A2 hi];rfl
   rw[hns,AC,A2 (by lia)] at z1;simp only[C0,Option.some.injEq] at z1;rw[<-z1,A5,A2 (by lia)];rfl
  rw[this] at e3;show e3
 .intro s' t' Rw;have{h',g',d',tk',Re}:=s';have eg:g'=s1.gens:=Rw.gens;have ed:d'=s1.drawn:=Rw.drawn;have eo:Re=s1.os:=Rw.os;subst eg;subst ed;subst eo;have es:preSum (λi=>ns.getD i 0) es.size=ns.sum:=by rw[hsz,<-hnl,vD ns ns.length (AB _),AS]
  rw[es];show{.int ns.sum,H1,I1.kept λb o e=>Rw.heap b o (λhb=>?_) (A4 _ (A4 _ e)),{t',0},q};simp only[AI,At,Bq] at hb;have:=AM e;rw[hb,B3] at this;show absurd this (Nat.not_lt.mpr (Cu _))
end
section
variable{X:Cx}
def nY:OpR X (binaryOp .Add) (λx y H Q=>∃xs ys,Is H (.t xs) x/\Is H (.t ys) y/\xs.length+ys.length<=sizeLine/\∀v H2,ae H H2->Is H2 (.t (xs++ys)) v->Q v H2):=by
 intro M6 s σ H x y v u Q I rx ry h;have{xs,ys,hx,hy,hz,q}:=h;have{a,vs,0,ha,ra}:=bu hx;have{b,ws,0,hb,rb}:=bu hy;have l1:=ra.length;have l2:=rb.length;by_cases h1:vs=[]
 .subst h1;have hx0:xs=[]:=BV.mp (by rw[<-l1];rfl);subst hx0;cases rx;cases ry;have{M9,r1,p1,_}:=I.tuple (SqT.of (K:=X.K) ha);have{Ov,r2,p2,_}:=I.tuple (SqT.of (K:=X.K) hb);cases r1;have{{cls,dd,data,sl},ho,hc,n,hd}:=p1;have{{Qp,OK,data2,OL},NW,Ou,n2,Om}:=p2;simp only at hc hd Ou Om;subst hc hd Ou Om;show concat_meets {_,ho,0} {_,NW,0} noFill_tuple_add seq_tuple_add PySem.F.slot_tuple_add PySem.F.entry_tuple_add (PySem.F.args_tuple_add_2 _ _) (tuple_addW0 a b _ _ n n2 dd OK sl OL (by simp)) {ho,NW,{.ref b,H,I,0,q _ H (ae.refl H) hy}}
 .show EV M6 s σ H (.ref a) (.ref b) v u Q I rx ry {a,b,vs,ws,0,0,SqT.of ha,SqT.of hb,h1,4,λe=>?_,λ_ p np=>?_}
  .have:ys=[]:=BV.mp (by rw[<-l2,e];rfl);subst this;show q _ H (ae.refl H) (by rw[BR];show hx)
  .show q _ _ (ae.new np) (bt ak ((ra.append rb).mono (ae.new np)))
def vE:SlR X (λx lo hi H Q=>∃xs PQ,Is H (.t xs) x/\(∀(H':Hp) (vs:Sk V),Iss H' xs vs->Iss H' PQ (bR vs lo hi))/\(∀vs:Sk V,vs.length=xs.length->(HT.sIx vs.length 0 lo=0/\HT.sIx vs.length vs.length hi=vs.length)->PQ=xs)/\∀v H2,ae H H2->Is H2 (.t PQ) v->Q v H2):=by
 intro M6 s σ H x v vl vu lo hi sl Q I rx hs pl pu h;have{xs,PQ,hx,hc,hw,q}:=h;have{a,vs,0,ha,ra}:=bu hx;show GZ M6 s σ H (.ref a) v vl vu lo hi sl Q I rx hs pl pu {a,vs,0,SqT.of ha,λe=>?_,λe p np=>?_}
 .have:=hw vs ra.length e;subst this;show q _ H (ae.refl H) hx
 .show q _ _ (ae.new np) (bt ak ((hc _ _ ra).mono (ae.new np)))
end
def LTS(H H':Hp):Prop:=(∀b xs,H b=some (.lst xs)->H' b=some (.lst xs))/\∀b xs,H b=some (.tup xs)->H' b=some (.tup xs)
theorem LTS.dict{o:HO}(h:H d=some (.dT M7)):LTS H (upd H d o):=
 {λb xs e=>by rw[av (by rintro rfl;rw[h] at e;cases e)];show e,λb xs e=>by rw[av (by rintro rfl;rw[h] at e;cases e)];show e}
def LTS.rd(h:Rd H d (.dT M7))(k:∀b,b≠d->H' b=H b):LTS H H':=by
 have nd:∀b o,H b=some o->(∀M7,o≠ .dT M7)->(∀ob u,o≠ .frz ob u)->b≠d:=by
  rintro b o e n1 n2 rfl;rcases h with h|⟨ob,h⟩
  .rw[h] at e;cases e;show n1 _ rfl
  .rw[h] at e;cases e;show n2 _ _ rfl
 show{λb xs e=>by rw[k b (nd b _ e (λ_ z=>nomatch z) λ_ _ z=>nomatch z)];show e,λb xs e=>by rw[k b (nd b _ e (λ_ z=>nomatch z) λ_ _ z=>nomatch z)];show e}
mutual
theorem Is.lts{H H':Hp}(s:LTS H H'):∀{d:D}{v:V},Is H d v->Is H' d v
 |.i _,_,h=>by rw[aB h];show bj
 |.l xs,_,h=>by
  have{a,vs,e,q,r}:=aD h;rw[e];show aA (s.1 _ _ q) (Iss.lts s r)
 |.t xs,_,h=>by
  have{a,vs,e,q,r}:=bu h;rw[e];show bt (s.2 _ _ q) (Iss.lts s r)
theorem Iss.lts{H H':Hp}(s:LTS H H'):∀{xs:Sk D}{vs:Sk V},Iss H xs vs->Iss H' xs vs
 |[],_,h=>by rw[bm h];show ax
 |x::xs,_,h=>by
  have{u,us,e,q,r}:=aM h;rw[e];show ap (Is.lts s q) (Iss.lts s r)
end
abbrev Mx(K:Type):=Sum K (Sk K)
def isL{K:Type}:Mx K->Bool
 |.inl _=>true
 |.inr _=>false
section
variable{prog:Sf}{w:Si}{K:Type}[DecidableEq K]{knd:KeyKind prog w K}
inductive ItemsM(knd:KeyKind prog w K)(h:Heap):List (Mx K)->List Value->Prop
 |nil:ItemsM knd h [] []
 |val {k:K}{v:Value}{ks:List (Mx K)}{vs:List Value}:knd.is k v=true->ItemsM knd h ks vs->ItemsM knd h (.inl k::ks) (v::vs)
 |tup {k:List K}{a:Addr}{ks:List (Mx K)}{vs:List Value}:IsTupleKey knd h k a->ItemsM knd h ks vs->ItemsM knd h (.inr k::ks) (.ref a::vs)
def Lk(l m:Sk Bool):Prop:=∀(i:Nat) b c,l[i]? =some b->m[i]? =some c->b=c
def cn(knd:KeyKind prog w K)(S:Sk Bool->Prop)(h:Sm)(ks:Sk (Mx K))(a:Se):Prop:=S (ks.map isL)/\∃o items n,h.get? a=some o/\o.cls=.type "tuple"/\o.data=.seq items n/\ItemsM knd h ks items.toList
def ItemsM.inj{h:Sm}{x y:Sk (Mx K)}{vs:Sk PP}(hx:ItemsM knd h x vs)(hy:ItemsM knd h y vs)(e:Lk (x.map isL) (y.map isL)):x=y:=by
 induction hx generalizing y with
 |nil=>cases hy;rfl
 |val h1 _ ih=>
  cases hy with
  |val h2 t2=>rw[knd.inj _ _ _ h1 h2,ih t2 λi=>e (i+1)]
  |tup h2 t2=>cases e 0 _ _ rfl rfl
 |tup h1 _ ih=>
  cases hy with
  |val h2 t2=>cases e 0 _ _ rfl rfl
  |tup h2 t2=>rw[h1.inj h2,ih t2 λi=>e (i+1)]
def ItemsM.keeps{h h':Sm}{x:Sk (Mx K)}{vs:Sk PP}{d:Se}{o:Obj}{es ep}(hx:ItemsM knd h x vs)(ho:h.get? d=some o)(hd:o.data=.dict es ep)(hs:Heap.SameBut d h h'):ItemsM knd h' x vs:=by
 induction hx with
 |nil=>show .nil
 |val h1 _ ih=>show .val h1 ih
 |tup h1 _ ih=>show .tup (h1.keeps ho hd hs) ih
variable{S:Sk Bool->Prop}
def cn.typeIs{s:Sc}{ks:Sk (Mx K)}{a:Se}(x:cn knd S s.heap ks a):s.TypeIs (.ref a) "tuple":=by have{_,o,_,_,ho,hc,_}:=x;show{o,ho,hc}
def cn.inj(hS:∀l m,S l->S m->Lk l m){h:Sm}{a:Se}{x y:Sk (Mx K)}(hx:cn knd S h x a)(hy:cn knd S h y a):x=y:=by
 have{e1,o,items,n,ho,_,hd,hi}:=hx;have{e2,o',items',n',Ol,_,Pf,OW}:=hy;obtain rfl:o=o':=Ao (ho.symm.trans Ol);rw[hd] at Pf;injection Pf with h1 _;subst h1;show hi.inj OW (hS _ _ e1 e2)
def cn.keeps{h h':Sm}{ks:Sk (Mx K)}{a d:Se}{o:Obj}{es ep}(x:cn knd S h ks a)(ho:h.get? d=some o)(hd:o.data=.dict es ep)(hs:Heap.SameBut d h h'):cn knd S h' ks a:=by
 have{e,o',items,n,Ol,hc,Pf,hi}:=x;have NC:a≠d:=by
  rintro rfl;obtain rfl:o'=o:=Ao (Ol.symm.trans ho);rw[hd] at Pf;show nomatch Pf
 show{e,o',items,n,(hs.2 a NC).trans Ol,hc,Pf,hi.keeps ho hd hs}
def eK(knd:KeyKind prog w K):Mx K->Int
 |.inl k=>knd.hash k
 |.inr ks=>tupleKeyHash knd ks
def iu{K:Type}:Mx K->Nat
 |.inl _=>1
 |.inr ks=>ks.length+1
def nZ(knd:KeyKind prog w K)(ks:Sk (Mx K)):Int:=reduceHash (Builtin.Tuple.tupleHashOf (ks.map (eK knd)))
def og(ks:Sk (Mx K)):Nat:=(ks.map iu).sum+1
variable{A:Sj}{E:PP->Sc->Prop}{s:Sc}
def Ia{ks:Sk (Mx K)}{a:Se}{Q:Int->Sc->Prop}(hu:A.units+1<cLine)(hk:cn knd S s.heap ks a)(h:Q (nZ knd ks) {s with toks:=s.toks+og ks}):
  wpAny (model prog w) A (pyHash (.ref a)) Q E s:=by
 have hT:=hk.typeIs;have{_,o,items,n,ho,_,hd,hi}:=hk;unfold pyHash;first|unfold pyHashByItsType|skip
 first|show A0 (wpAny_cRoomFor_or (.inr (by lia)) ?_)|skip
 show A0 (C6 hT DP.lookup ?_);change wpAny _ _ (if(some (Value.builtin "tuple.__hash__")==some Value.none)=true then _ else _) Q E s;rw[A6 (by rw[beq_builtin_none];show AO)];show A0 (C6 hT DP.lookup ?_);change wpAny _ _ (callSpecialIfBoundUnlessNone? (.ref a) "__hash__" _>>=_) Q E s;show A0 (wpAny_callSpecialIfBoundUnlessNone?_slot hT DP (Al DP hT F.entry_tuple_hash ?_ (F.args_tuple_hash_1 _)));change wpAny _ _ (Builtin.Tuple.tupleItemsOf (.ref a)>>=_) _ _ s;show A0 (wpAny_tupleItemsOf ho hd ?_);show A0 ?_;rw[<-Ct];show C9 _
  (λaW (b:Array Int) s'=>∃done left,ks=done++left/\ItemsM knd s.heap left aW/\b.toList=done.map (eK knd)/\s'={s with toks:=s.toks+(done.map iu).sum})
  _ ?_ ?_ _ _ {[],ks,0,hi,0,0}
 .rintro x aW b s' ⟨done,left,rfl,hl,hb,rfl⟩;cases hl with
  | @val k v1 ks' _ h1 ND=>
   show A0 (knd.pyHash h1 ?_);first
    |show A3 {done++[.inl k],ks',7,ND,by simp[hb,eK],by simp[DF,iu]}
    |show A0 (A3 (A3 {done++[.inl k],ks',7,ND,by simp[hb,eK],by simp[DF,iu]}))
  | @tup k a1 ks' _ h1 ND=>
   show A0 (wpAny_pyHash_tuple (knd:=knd) (ks:=k) (by first|show hu|(rw[cJ];lia)|(simp;lia)) h1 ?_);first
    |show A3 {done++[.inr k],ks',7,ND,by simp[hb,eK],by simp[DF,iu]}
    |show A0 (A3 (A3 {done++[.inr k],ks',7,ND,by simp[hb,eK],by simp[DF,iu]}))
 .rintro b s' ⟨done,left,rfl,hl,hb,rfl⟩;cases hl;rw[BR] at h;change wpAny _ _ (retInt (Builtin.Tuple.tupleHashOf b.toList)) _ _ _;rw[hb];show wpAny_ret_mkInt ?_;change wpAny _ _ (if(decide (-(2:Int)^63<=Builtin.Tuple.tupleHashOf (done.map (eK knd)))&&decide (Builtin.Tuple.tupleHashOf (done.map (eK knd))<2^63))=true then _ else _) Q E _;unfold nZ reduceHash og at h;by_cases hr:(decide (-(2:Int)^63<=Builtin.Tuple.tupleHashOf (done.map (eK knd)))&&decide (Builtin.Tuple.tupleHashOf (done.map (eK knd))<2^63))=true
  .rw[A8 hr];rw[A8 hr] at h;show A3 (by simpa[DF] using h)
  .rw[A6 hr];rw[A6 hr] at h;show A0 (CD (A3 (by simpa[DF] using h)))
def Ib(hS:∀l m,S l->S m->Lk l m){x y:Sk (Mx K)}{a b:Se}{P:Fin->Sc->Prop}(hu:A.units<cLine)(hx:cn knd S s.heap x a)(hy:cn knd S s.heap y b)(h:P (.done (.ret (.bool (decide (x=y))))) s):
  wpAny (model prog w) A (Builtin.«tuple.__eq__» {[.ref a,.ref b],[]}) P E s:=by
 have hTb:=hy.typeIs;have{sx,oa,xs,na,hoa,_,OF,hia}:=hx;have{sy,ob,ys,nb,hob,_,PH,hib}:=hy;change wpAny _ _ (isInstance (.ref b) (.type "tuple")>>=_) _ _ s;show A0 (Bx hTb isSubtype_tuple_tuple ?_);simp only[BL,AN,Au];show A0 (wpAny_tupleItemsOf hoa OF ?_);show A0 (wpAny_tupleItemsOf hob PH ?_);show A0 ?_;show C9 _
  (λaW r s'=>r.1=none/\s'=s/\∃x' y' PQ ys',aW=List.zip PQ ys'/\ItemsM knd s.heap x' PQ/\ItemsM knd s.heap y' ys'/\decide (x'=y')=decide (x=y)/\Lk (x'.map isL) (y'.map isL)/\(PQ.length==ys'.length)=(xs.size==ys.size))
  _ ?_ ?_ _ _ {0,0,x,y,xs.toList,ys.toList,0,hia,hib,0,hS _ _ sx sy,7}
 .rintro⟨u,v⟩ aW r s' ⟨hr,rfl,x',y',PQ,ys',hz,Nl,On,Pq,Rj,Na⟩;cases Nl with
  |nil=>simp at hz
  | @val k1 v1 x'' xs'' h1 hx''=>
   cases On with
   |nil=>simp at hz
   |tup _ _=>cases Rj 0 _ _ rfl rfl
   | @val k2 v2 Rz ys'' h2 PX=>
    simp only[List.zip_cons_cons,CP,Prod.mk.injEq] at hz;have{{0,0},0}:=hz;show A0 (knd.eqBool h1 h2 ?_);by_cases hk:k1=k2
    .subst hk;rw[Ay rfl];simp only[BL,AN,Au];show A3 {0,0,x'',Rz,xs'',ys'',0,hx'',PX,?_,λi=>Rj (i+1),by simpa using Na};rw[<-Pq];by_cases hxy:x''=Rz
     .simp[hxy]
     .simp[hxy]
    .rw[An hk];simp only[D4,CF];have hf:decide (x=y)=false:=by rw[<-Pq];simp[hk]
     rw[hf] at h;show A0 (A3 (A3 (A3 h)))
  | @tup k1 a1 x'' xs'' h1 hx''=>
   cases On with
   |nil=>simp at hz
   |val _ _=>cases Rj 0 _ _ rfl rfl
   | @tup k2 a2 Rz ys'' h2 PX=>
    simp only[List.zip_cons_cons,CP,Prod.mk.injEq] at hz;have{{0,0},0}:=hz;show A0 (wpAny_eqBool_tuple (knd:=knd) (x:=k1) (y:=k2) (by first|show hu|(rw[cJ];lia)|(simp;lia)) h1 h2 ?_);by_cases hk:k1=k2
    .subst hk;rw[Ay rfl];simp only[BL,AN,Au];show A3 {0,0,x'',Rz,xs'',ys'',0,hx'',PX,?_,λi=>Rj (i+1),by simpa using Na};rw[<-Pq];by_cases hxy:x''=Rz
     .simp[hxy]
     .simp[hxy]
    .rw[An hk];simp only[D4,CF];have hf:decide (x=y)=false:=by rw[<-Pq];simp[hk]
     rw[hf] at h;show A0 (A3 (A3 (A3 h)))
 .rintro⟨r1,r2⟩ s' ⟨hr,rfl,x',y',PQ,ys',hz,Nl,On,Pq,Rj,Na⟩;simp only at hr;subst hr;show A3 ?_;have hfin:(xs.size==ys.size)=decide (x=y):=by
   rw[<-Pq,<-Na];cases Nl with
   |nil=>
    cases On with
    |nil=>simp
    |val _ _=>simp
    |tup _ _=>simp
   |val _ _=>
    cases On with
    |nil=>simp
    |val _ _=>simp at hz
    |tup _ _=>simp at hz
   |tup _ _=>
    cases On with
    |nil=>simp
    |val _ _=>simp at hz
    |tup _ _=>simp at hz
  change P (.done (.ret (.bool (xs.size==ys.size)))) s';rw[hfin];show h
def Ic(hS:∀l m,S l->S m->Lk l m){x y:Sk (Mx K)}{a b:Se}{Q:Bool->Sc->Prop}(hu:A.units+1<cLine)(hx:cn knd S s.heap x a)(hy:cn knd S s.heap y b)(h:Q (decide (x=y)) s):
  wpAny (model prog w) A (eqBool (.ref a) (.ref b)) Q E s:=by
 unfold eqBool;try with_reducible show B2 ?_
 change wpAny _ _ (if(Value.ref a==Value.ref b)=true then _ else _) Q E s;by_cases OO:(Value.ref a==Value.ref b)=true
 .rw[A8 OO];have e:a=b:=by have:=eq_of_beq OO;injection this
  subst e;obtain rfl:=cn.inj hS hx hy;show A0 (CD (A3 (by simpa using h)))
 .rw[A6 OO];show A0 (wpAny_richCompare_same_room (op:= .Eq) hx.typeIs hy.typeIs F.slot_tuple_eq
   (Al F.slot_tuple_eq hx.typeIs F.entry_tuple_eq (Ib hS (by first|lia|(rw[cJ];lia)|(simp;lia)) hx hy {1,(λe=>nomatch e),Bo h}) (F.args_tuple_eq_2 _ _)) (by lia))
def Ie{ks:Sk K}{a:Se}{n:Nat}{Q:Bool->Sc->Prop}(hk:IsTupleKey knd s.heap ks a)(h:Q true s):wpAny (model prog w) A (eqIsQuiet (n+1) (.ref a)) Q E s:=by
 have hT:=hk.typeIs;have{o,items,n,ho,_,hd,hi}:=hk;unfold eqIsQuiet;show A0 (C6 hT F.slot_tuple_eq.lookup ?_);change wpAny _ _ (isInstance (.ref a) (.type "tuple")>>=_) _ _ s;show A0 (Bx hT isSubtype_tuple_tuple ?_);simp only[BL,AN,Au];show A0 (Bj ho hd ?_);show A0 ?_;change wpAny _ _ (forIn items _ _) _ _ s;rw[<-Ct];show C9 _ (λaW r s'=>r.1=none/\s'=s/\∀v∈aW,carriedByValue v=true) _ ?_ ?_ _ _ {0,0,hi.byValue}
 .rintro v aW r s' ⟨hr,rfl,NE⟩;rw[eqIsQuiet_byValue _ (NE v AE)];show A0 (A3 ?_);simp only[BL,AN,Au];show A3 {0,0,λu Rx=>NE u (AG _ Rx)}
 .rintro⟨r1,r2⟩ s' ⟨hr,rfl,_⟩;simp only at hr;subst hr;show A3 h
def Ig{ks:Sk (Mx K)}{a:Se}{Q:Bool->Sc->Prop}(hk:cn knd S s.heap ks a)(h:Q true s):wpAny (model prog w) A (eqIsQuiet 8 (.ref a)) Q E s:=by
 have hT:=hk.typeIs;have{_,o,items,n,ho,_,hd,hi}:=hk;unfold eqIsQuiet;show A0 (C6 hT F.slot_tuple_eq.lookup ?_);change wpAny _ _ (isInstance (.ref a) (.type "tuple")>>=_) _ _ s;show A0 (Bx hT isSubtype_tuple_tuple ?_);simp only[BL,AN,Au];show A0 (Bj ho hd ?_);show A0 ?_;change wpAny _ _ (forIn items _ _) _ _ s;rw[<-Ct];show C9 _ (λaW r s'=>r.1=none/\s'=s/\∃x,ItemsM knd s.heap x aW) _ ?_ ?_ _ _ {0,0,ks,hi}
 .rintro v aW r s' ⟨hr,rfl,x,NE⟩;cases NE with
  |val h1 ht=>
   rw[eqIsQuiet_byValue _ (knd.byValue _ _ h1)];show A0 (A3 ?_);simp only[BL,AN,Au];show A3 {0,0,_,ht}
  |tup h1 ht=>
   show A0 (Ie h1 ?_);simp only[BL,AN,Au];show A3 {0,0,_,ht}
 .rintro⟨r1,r2⟩ s' ⟨hr,rfl,_⟩;simp only at hr;subst hr;show A3 h
end
def mxK{prog:Sf}{w:Si}{K L:Type}[DecidableEq K][DecidableEq L](knd:KeyKind prog w K)(S:Sk Bool->Prop)(hS:∀l m,S l->S m->Lk l m)(f:L->Sk (Mx K))(hf:∀x y,f x=f y->x=y):HeapKind prog w L where
 is h k a:=cn knd S h (f k) a
 hash k:=nZ knd (f k)
 draws k:=og (f k)
 room:=λA=>A.units+1<cLine
 inj:=λhx hy=>hf _ _ (cn.inj hS hx hy)
 keeps:=λx ho hd hs=>x.keeps ho hd hs
 pyHash:=λhu hk h=>Ia hu hk h
 eqBool:=λhu hx hy h=>Ic hS hu hx hy (by rwa [show decide (f _=f _)=decide (_=_) from decide_eq_decide.mpr {hf _ _,BB f}])
 quiet:=λhk h=>Ig hk h
def vG{prog:Sf}{w:Si}{K:Type}[DecidableEq K](knd:KeyKind prog w K)(sh:Sk Bool):HeapKind prog w (Sk (Mx K)):=
 mxK knd (λl=>l=sh) (λ_ _ e f i b c x y=>by rw[e] at x;rw[f] at y;show Ao (x.symm.trans y)) (λx=>x) λ_ _ e=>e
def vH{prog:Sf}{w:Si}{K:Type}[DecidableEq K](knd:KeyKind prog w K):HeapKind prog w (Sk (Sk K)):=
 mxK knd (λl=>∀b,b∈l->b=false) (λ_ _ e f i b c x y=>(e b (AR x)).trans (f c (AR y)).symm) (λx=>x.map Sum.inr) λx y e=>by
  induction x generalizing y with
  |nil=>cases y with
   |nil=>rfl
   |cons _ _=>cases e
  |cons _ _ ih=>cases y with
   |nil=>cases e
   |cons _ _=>injection e with e1 e2;injection e1 with e1;rw[e1,ih _ e2]
def cA{A:Sj}{k:Nat}(hr:Room k A):A.units+2<cLine:=by have:=hr.un;lia
class KOk {P:Sf}{w:Si}{κ:Type} [DecidableEq κ] (hk:HeapKind P w κ) (IK:Hp->κ->V->Prop):Prop where
 of:∀{H:Hp}{h:Sm}{k:κ}{a:Se},HOk P w H h->IK H k (.ref a)->hk.is h k a
 ref:∀{H:Hp}{k:κ}{y:V},IK H k y->∃b,y=.ref b
 keeps:∀{H H':Hp},(∀b ys,H b=some (.tup ys)->H' b=some (.tup ys))->∀{k:κ}{v:V},IK H k v->IK H' k v
 room1:∀{A:Sj},A.units+1<cLine->hk.room A
section
variable{P:Sf}{w:Si}{κ:Type}[DecidableEq κ]{hk:HeapKind P w κ}{IK:Hp->κ->V->Prop}{H:Hp}{h:Sm}{a:Se}
theorem KOk.room(F:KOk hk IK){A:Sj}(hu:A.units+2<cLine):hk.room A.in1:=F.room1 (by rw[cJ];lia)
def KOk.rf(F:KOk hk IK){k:κ}{y:V}{u:PP}(h:IK H k y)(r:aw y u):∃b,y=.ref b/\u=.ref b:=by
 have{b,0}:=F.ref h;show{b,0,r}
def gE(hk:HeapKind P w κ)(xs:Sk (κ×Se×PP))(a:Se)(h:Sm):Prop:=
 ∃o es ep,h.get? a=some o/\o.ExactDict/\o.data=.dict es ep/\es.toList=xs.map (entryOfKey hk)/\(xs.map (·.1)).Nodup
abbrev GT(IK:Hp->κ->V->Prop)(H:Hp):Sk (κ×V)->Sk (κ×Se×PP)->Prop:=Paired λp q=>p.1=q.1/\IK H p.1 (.ref q.2.1)/\aw p.2 q.2.2
def DG(hk:HeapKind P w κ)(IK:Hp->κ->V->Prop)(H:Hp)(a:Se)(M7:Sk (κ×V)):Prop:=M7.length<=sizeLine/\(a==sysModules)=false/\∃xs,GT IK H M7 xs/\H a=some (.ext (gE hk xs a))
def jG[F:KOk hk IK]{M7:Sk (κ×V)}(ok:HOk P w H h)(e:DG hk IK H a M7):M7.length<=sizeLine/\(a==sysModules)=false/\∃xs,GT IK H M7 xs/\H a=some (.ext (gE hk xs a))/\h.DictOfH hk a xs:=by
 have{z,y,xs,r,e}:=e;have{{o,es,ep,h1,h2,h3,h4,h5},_,_}:=(show aG P w H h a (.ext (gE hk xs a)) from ok a _ e);show{z,y,xs,r,e,o,es,ep,h1,h2,h3,h4,λx hx=>?_,h5};have all:∀{l:Sk (κ×V)}{m:Sk (κ×Se×PP)},GT IK H l m->∀x∈m,hk.is h x.1 x.2.1:=by
  intro l m q;induction q with
  |nil=>intro x hx;show nomatch hx
  | @cons p q ps qs hq t ih=>
   intro x hx;rcases AI.mp hx with e|hx
   .subst e;show F.of ok (by rw[<-hq.1];show hq.2.1)
   .show ih x hx
 show all r x hx
def oh{xs:Sk (κ×Se×PP)}{H':Hp}(d:∃o es ep,h.get? a=some o/\o.ExactDict/\o.data=.dict es ep/\es.toList=xs.map (entryOfKey hk)/\(xs.map (·.1)).Nodup):aG P w H' h a (.ext (gE hk xs a)):=by
 show{d,let ⟨o,_,_,h1,_⟩:=d;{o,h1},λh1 h2 f k=>?_};have{o,es,ep,e1,r}:=f;show{o,es,ep,k o e1,r}
def GT.val{M7:Sk (κ×V)}{xs:Sk (κ×Se×PP)}(r:GT IK H M7 xs)(k:κ):cE (aU M7 k) ((atKey xs k).map (·.2)):=by
 induction r with
 |nil=>show True.intro
 | @cons p q ps qs h t ih=>
  have{h1,_,h2}:=h;by_cases e:p.1=k
  .have e':q.1=k:=h1.symm.trans e;have b:atKey (q::qs) k=some q.2:=by simp[atKey,Bg,e']
   rw[cH e,b];show h2
  .have e':¬q.1=k:=λz=>e (h1.trans z);have b:atKey (q::qs) k=atKey qs k:=by simp[atKey,Bg,e']
   rw[cU e,b];show ih
def GT.repl{M7:Sk (κ×V)}{xs:Sk (κ×Se×PP)}(r:GT IK H M7 xs)(k:κ){y:V}{u:PP}(ry:aw y u):
  GT IK H (M7.map λkv=>if kv.1=k then(kv.1,y) else kv) (xs.map (putAt k u)):=by
 induction r with
 |nil=>show .nil
 | @cons p q ps qs h t ih=>
  rw[AK,AK];show .cons ?_ ih;have{h1,h2,h3}:=h;unfold putAt;by_cases e:p.1=k
  .rw[A8 e,A8 (h1.symm.trans e)];show{h1,h2,ry}
  .rw[A6 e,A6 (λz=>e (h1.trans z))];show{h1,h2,h3}
def GT.put{M7:Sk (κ×V)}{xs:Sk (κ×Se×PP)}(r:GT IK H M7 xs)(k:κ){b:Se}{y:V}{u:PP}(hb:IK H k (.ref b))(ry:aw y u):
  GT IK H (aZ M7 k y) (storedH xs k b u):=by
 have e:(M7.any λkv=>decide (kv.1=k))=(atKey xs k).isSome:=by
  rw[fI,(r.val k).isSome_eq,Option.isSome_map]
 unfold aZ storedH;rw[e];by_cases q:(atKey xs k).isSome=true
 .rw[A8 q,A8 q];show r.repl k ry
 .rw[A6 q,A6 q];show Paired.snoc r {0,hb,ry}
theorem GT.keeps(F:KOk hk IK){H':Hp}{M7:Sk (κ×V)}{xs:Sk (κ×Se×PP)}(r:GT IK H M7 xs)(ht:∀b ys,H b=some (.tup ys)->H' b=some (.tup ys)):GT IK H' M7 xs:=
 Paired.mapP r λ_ _ z=>{z.1,F.keeps ht z.2.1,z.2.2}
def DG.keeps[F:KOk hk IK]{H':Hp}{M7:Sk (κ×V)}(d:DG hk IK H a M7)(ha:H' a=H a)(ht:∀b ys,H b=some (.tup ys)->H' b=some (.tup ys)):DG hk IK H' a M7:=by
 have{z,y,xs,r,e}:=d;show{z,y,xs,r.keeps F ht,ha.trans e}
def DG.mono[F:KOk hk IK]{H':Hp}{M7:Sk (κ×V)}(s:ae H H')(d:DG hk IK H a M7):DG hk IK H' a M7:=by
 have{z,y,xs,r,e}:=d;show{z,y,xs,r.keeps F λb ys=>s b _,s _ _ e}
def DG.mut{M7:Sk (κ×V)}(d:DG hk IK H a M7):Mut (H a):=by
 have{_,_,xs,_,e}:=d;rw[e];show True.intro
def DG.ntup{M7:Sk (κ×V)}(d:DG hk IK H a M7){b:Se}{ys:Sk V}(e:H b=some (.tup ys)):b≠a:=by
 have{_,_,xs,_,e2}:=d;rintro rfl;rw[e2] at e;cases e
def vI{p:Se}(hp:p=h.objs.size)(hb:sysModules<h.objs.size):DG hk IK (upd H p (.ext (gE hk [] p))) p []:=by
 subst hp;show{AW _,DY.mpr (DE (AU hb)),[],.nil,ak}
def vJ(h:Sm):aG P w H (h.push {cls:= .type "dict",data:= .dict #[]}) h.objs.size (.ext (gE hk [] h.objs.size)):=
 oh {_, #[],(0),AJ _ rfl,{0,0,0},0,0,List.nodup_nil}
end
section
variable{X:Cx}{κ:Type}[DecidableEq κ]{hk:HeapKind X.prog X.w κ}{IK:Hp->κ->V->Prop}{M6:Sk (Se×Obj)}{σ:St}{H:Hp}{s:Sc}{a b:Se}{v:V}{r:PP}{A:Sj}{E:PP->Sc->Prop}{M7:Sk (κ×V)}{ks:κ}
def Ih[F:KOk hk IK]{Q:PP->Sc->Prop}(hu:A.units+2<cLine)(I:Inv X M6 σ H s)(d:DG hk IK H a M7)(k:IK H ks (.ref b))(l:aU M7 ks=some v)(h:∀w' s',Inv X M6 σ H s'->aw v w'->Q w' s'):
  wpAny (model X.prog X.w) A (getItem (.ref a) (.ref b)) Q E s:=by
 have{z,hd,xs,Nv,_,dd}:=jG I.hok d;have{w',hw,Ow}:=cE.some_of (v:=v) (o:=(atKey xs ks).map (·.2)) (by rw[<-l];show Nv.val ks);have{p,hp,hp2}:=A'.mp hw;show wpAny_getItem_heap (F.room hu) (F.of I.hok k) dd hp ?_;rw[hp2];show h w' _ (I.tok _) Ow
def Ii[F:KOk hk IK]{Q:PP->Sc->Prop}(hu:A.units+2<cLine)(I:Inv X M6 σ H s)(d:DG hk IK H a M7)(k:IK H ks (.ref b))(h:∀s',Inv X M6 σ H s'->Q (.bool (!(aU M7 ks).isSome)) s'):
  wpAny (model X.prog X.w) A (compareOp .NotIn (.ref b) (.ref a)) Q E s:=by
 have{z,hd,xs,Nv,_,dd}:=jG I.hok d;show wpAny_notIn_heap (F.room hu) (F.of I.hok k) hd dd ?_;have q:=(Nv.val ks).isSome_eq;rw[Option.isSome_map] at q;rw[<-q];show h _ (I.tok _)
def Ij[F:KOk hk IK]{Q:Unit->Sc->Prop}(hu:A.units+2<cLine)(I:Inv X M6 σ H s)(d:DG hk IK H a M7)(k:IK H ks (.ref b))(hl:M7.length<sizeLine)(rv:aw v r)
  (h:∀H' s',DG hk IK H' a (aZ M7 ks v)->(∀b,b≠a->H' b=H b)->Inv X M6 σ H' s'->Q () s'):wpAny (model X.prog X.w) A (setItem (.ref a) (.ref b) r) Q E s:=by
 have{z,hd,xs,Nv,e,dd}:=jG I.hok d;have hz:xs.length<=sizeLine:=by rw[<-C8 Nv];show z
 have ND:(aZ M7 ks v).length<=sizeLine:=by have:=m7 M7 ks v;lia
 show wpAny_setItem_heap (hsz:=hz) (F.room hu) (F.of I.hok k) dd λh' Qh hs=>?_;have{q,es,ep,hq,h2,h3,h4,_,h5}:=Qh;show h (upd H a (.ext (gE hk (storedH xs ks b r) a))) _ {ND,hd,_,(Nv.put ks k rv).keeps F λc ys ec=>?_,ak} (λc hc=>av hc) (hJ I d.mut hs {q,hq} (oh {q,es,ep,hq,h2,h3,h4,h5}));rw[av (d.ntup ec)];show ec
def Ik[F:KOk hk IK](I:Inv X M6 σ H s)(d:DG hk IK H a M7):s.TypeIs (.ref a) "dict"/\(∀b,Value.ref a=.ref b->∃ob,s.heap.get? b=some ob/\ob.dict=none)/\(a==sysModules)=false:=by
 have{_,hd,xs,_,_,dd}:=jG I.hok d;show{dd.typeIs,λb q=>?_,hd};cases q;have{ob,_,_,h1,h2,_}:=dd;show{ob,h1,h2.2.1}
end
section
variable{P:Sf}{w:Si}{κ:Type}[DecidableEq κ]
inductive tGGet_(hk:HeapKind P w κ)(IK:Hp->κ->V->Prop)(Q:VK)(x:V)(y:V)(H2:Hp):Prop
 |mk a M7 ks v:x=.ref a->DG hk IK H2 a M7->IK H2 ks y->aU M7 ks=some v->Q v H2->tGGet_ hk IK Q x y H2
def oj(hk:HeapKind P w κ)(IK:Hp->κ->V->Prop)(td ty:TE):TE:=λσ H Q=>td σ H λx H1=>ty σ H1 λy H2=>tGGet_ hk IK Q x y H2
inductive tGNotIn_(hk:HeapKind P w κ)(IK:Hp->κ->V->Prop)(Q:VK)(y:V)(x:V)(H2:Hp):Prop
 |mk a M7 ks:x=.ref a->DG hk IK H2 a M7->IK H2 ks y->Q (.bl (!(aU M7 ks).isSome)) H2->tGNotIn_ hk IK Q y x H2
def om(hk:HeapKind P w κ)(IK:Hp->κ->V->Prop)(ty td:TE):TE:=λσ H Q=>ty σ H λy H1=>td σ H1 λx H2=>tGNotIn_ hk IK Q y x H2
inductive sGPut_(hk:HeapKind P w κ)(IK:Hp->κ->V->Prop)(D:Ends)(σ:St)(v:V)(x:V)(y:V)(H3:Hp):Prop
 |mk a M7 ks:x=.ref a->DG hk IK H3 a M7->IK H3 ks y->M7.length<sizeLine->(∀H4,DG hk IK H4 a (aZ M7 ks v)->(∀b,b≠a->H4 b=H3 b)->D.nx σ H4)->sGPut_ hk IK D σ v x y H3
def on(hk:HeapKind P w κ)(IK:Hp->κ->V->Prop)(td ty tv:TE):TS:=λD σ H=>tv σ H λv H1=>td σ H1 λx H2=>ty σ H2 λy H3=>sGPut_ hk IK D σ v x y H3
def vK(hk:HeapKind P w κ)(IK:Hp->κ->V->Prop):TE:=λ_ H Q=>∀p H',H p=none->DG hk IK H' p []->(∀b,b≠p->H' b=H b)->Q (.ref p) H'
def vL(hk:HeapKind P w κ)(IK:Hp->κ->V->Prop)(tk tv:TE):TE:=λσ H Q=>∀p H0,H p=none->DG hk IK H0 p []->(∀b,b≠p->H0 b=H b)->tk σ H0 λx H1=>tv σ H1 λy H2=>DG hk IK H2 p []/\∃ks,IK H2 ks x/\∀H3,DG hk IK H3 p [(ks,y)]->(∀b,b≠p->H3 b=H2 b)->Q (.ref p) H3
end
section
variable{X:Cx}{κ:Type}[DecidableEq κ]{hk:HeapKind X.prog X.w κ}{IK:Hp->κ->V->Prop}{o i e f value ek ev:Sl}{pos Nq Nr Nh:Pos}{td ty tv tx tk:TE}
def vM[F:KOk hk IK](hu:X.A.units+2<cLine)(ho:PE X o td)(hi:PE X i ty)(hs:hU i):PE X (.Subscript o i pos) (oj hk IK td ty):=by
 intro M6 s σ H Q I h;show m8 PySem.F.slot_dict_getitem.lookup hs (thn (ho M6 s σ H _ I h) λu s1 zu62=>?_);have{x,H1,I1,rx,q1}:=zu62;show thn (hi M6 s1 σ H1 _ I1 q1) λiv s2 zu63=>?_;have{y,H2,I2,ry,a,M7,ks,v,ex,d,k,l,q2}:=zu63;subst ex;obtain rfl:u=Value.ref a:=rx;have{b,0,0}:=F.rf k ry;show{(Ik I2 d).1,Ih hu I2 d k l λw' s3 I3 Ow=>{v,H2,I3,Ow,q2}}
def vN[F:KOk hk IK](hu:X.A.units+2<cLine)(hi:PE X i ty)(ho:PE X o td):PC X .NotIn i o (om hk IK ty td):=by
 intro M6 s σ H Q I h;show thn (hi M6 s σ H _ I h) λiv s1 zu64=>?_;have{y,H1,I1,ry,q1}:=zu64;show thn (ho M6 s1 σ H1 _ I1 q1) λu s2 zu65=>?_;have{x,H2,I2,rx,a,M7,ks,ex,d,k,q2}:=zu65;subst ex;obtain rfl:u=Value.ref a:=rx;have{b,0,0}:=F.rf k ry;show Ii hu I2 d k λs3 I3=>{.bl _,H2,I3,0,q2}
def vO[F:KOk hk IK](hu:X.A.units+2<cLine)(ho:PE X o td)(hi:PE X i ty)(hv:PE X value tv)(hs:swapsWith value (some (.Subscript o i Nq)) pos.line X.env=pure false):
  PS X (.Assign [.Subscript o i Nq] value pos) (on hk IK td ty tv):=by
 intro M6 s σ H D I h;show wpAny_Assign_Subscript (thn (hv M6 s σ H _ I h) λr s1 zu66=>?_) hs;have{v,H1,I1,rv,q1}:=zu66;show thn (ho M6 s1 σ H1 _ I1 q1) λu s2 zu67=>?_;have{x,H2,I2,rx,q2}:=zu67;show thn (hi M6 s2 σ H2 _ I2 q2) λiv s3 zu68=>?_;have{y,H3,I3,ry,a,M7,ks,ex,d,k,hl,q3}:=zu68;subst ex;obtain rfl:u=Value.ref a:=rx;have{b,0,0}:=F.rf k ry;show Ij hu I3 d k hl rv λH4 s4 d4 k4 I4=>{σ,H4,I4,q3 H4 d4 k4}
def Il:PE X (.Dict [] [] pos) (vK hk IK):=λM6 s σ H Q I h=>
 wpAny_Dict_empty {.ref s.heap.objs.size,_,I.laid (a:=s.heap.objs.size) (o:= .ext (gE hk [] s.heap.objs.size)) (t':=s.toks) (λ_ _ q=>A4 _ q) (AB _) (vJ s.heap),0,h _ _ (I.hok.fresh (AB _)) (vI rfl I.big) (λb hb=>av hb)}
def Im[F:KOk hk IK](hu:X.A.units+2<cLine)(hek:PE X ek tk)(hv:PE X ev tv):PE X (.Dict [some ek] [ev] pos) (vL hk IK tk tv):=by
 intro M6 s σ H Q I q;have hn:=I.hok.fresh (AB s.heap.objs.size);have I1:=I.laid (a:=s.heap.objs.size) (o:= .ext (gE hk [] s.heap.objs.size)) (h':=s.heap.push {cls:= .type "dict",data:= .dict #[]}) (t':=s.toks) (λ_ _ q=>A4 _ q) (AB _) (vJ s.heap);rw[arm_eval_Dict,zip_pairTrees [some ek] [ev] X.env pos rfl rfl,dictDisplay_pairs (pairTrees [some ek] [ev] X.env pos) (by intro z;cases z) (show 1<17 by decide)];show A0 (De (A0 ?_));unfold subDict;show A0 (wpAny_alloc ?_);show A0 (B2 ?_);rw[A8 (show(pairTrees [some ek] [ev] X.env pos).length<=15 from(by decide:1<=15))];show A0 (pairTrees_cons_walk (thn (hek M6 _ σ _ _ I1 (q _ _ hn (vI rfl I.big) (λb hb=>av hb))) λu s1 zu69=>?_));have{x,H1,I2,rx,q1}:=zu69;show thn (hv M6 s1 σ H1 _ I2 q1) λw2 s2 zu70=>?_;have{y,H2,I3,ry,d,ks,k,q2}:=zu70;show pairTrees_nil_walk ?_;have{b,0,0}:=F.rf k rx;have{z,hd,xs,Nv,e,dd}:=jG I3.hok d;cases Nv;show wpAny_holding (wpAny_bind ?_);rw[List.forIn_cons];dsimp only;show A0 (A0 (wpAny_dictSet_heap (knd:=hk) (F.room1 (by lia)) (F.of I3.hok k) dd (λh' Qh hs=>A3 ?_) (AW _)));dsimp only;rw[List.forIn_nil];show wpAny_pure (wpAny_pure (wpAny_pure (wpAny_pure ?_)));have{o,es,ep,hq,h2,h3,h4,_,h5}:=Qh;show{.ref s.heap.objs.size,upd H2 s.heap.objs.size (.ext (gE hk (storedH [] ks b w2) s.heap.objs.size)),hJ I3 d.mut hs {o,hq} (oh {o,es,ep,hq,h2,h3,h4,h5}),0,q2 _ {(by change 1<=sizeLine;decide),hd,_,(GT.put .nil ks k ry).keeps F λc ys ec=>?_,ak} (λc hc=>av hc)};rw[av (d.ntup ec)];show ec
end
def nK(ks:Sk (Sk Int)):D:= .t (ks.map tI)
section
variable{P:Sf}{w:Si}{H:Hp}{h:Sm}{a:Se}
theorem vP:∀{ks:Sk Int}{us:Sk PP},au (ks.map V.int) us->ItemsAre (intKind P w) ks us
 |[],_,r=>by rw[Dd] at r;cases r;show .nil
 |k::ks,_,r=>by
  rw[AK] at r;cases r with
  |cons h t=>
   have{t',0}:=h;show .cons (show Value.isInt k (.int k t')=true by simp[Value.isInt]) (vP t)
def vQ{ks:Sk Int}(ok:HOk P w H h)(e:H a=some (.tup (ks.map V.int))):IsTupleKey (intKind P w) h ks a:=by
 have{_,M9,r,o,h1,h2,n,h3}:=(show aG P w H h a (.tup (ks.map V.int)) from ok a _ e);show{o,M9.toArray,n,h1,h2,h3,by simpa using vP r}
theorem vR(ok:HOk P w H h):∀{ks:Sk (Sk Int)}{vs:Sk V}{us:Sk PP},Iss H (ks.map tI) vs->au vs us->ItemsM (intKind P w) h (ks.map Sum.inr) us
 |[],_,_,i,r=>by rw[bm i] at r;cases r;show .nil
 |k::ks,_,_,i,r=>by
  have{u,us,0,q,i2}:=aM i;have{b,0,hb}:=bK q;cases r with
  |cons h t=>
   cases h;show .tup (vQ ok hb) (vR ok i2 t)
def Io{ks:Sk (Sk Int)}(ok:HOk P w H h)(e:Is H (nK ks) (.ref a)):(vH (intKind P w)).is h ks a:=by
 have{b,vs,eb,hb,hi}:=bu e;cases eb;have{_,M9,r,o,h1,h2,n,h3}:=(show aG P w H h a (.tup vs) from ok a _ hb);show{λb hb=>by have{x,hx,0}:=Ae.mp hb;have{y,_,0}:=Ae.mp hx;rfl,o,M9.toArray,n,h1,h2,h3,by simpa using vR ok hi r}
def Ip{H':Hp}(ht:∀b ys,H b=some (.tup ys)->H' b=some (.tup ys)){ks:Sk (Sk Int)}{v:V}(h:Is H (nK ks) v):Is H' (nK ks) v:=by
 have{b,vs,0,hb,hi}:=bu h;have go:∀{xs:Sk (Sk Int)}{vs:Sk V},Iss H (xs.map tI) vs->Iss H' (xs.map tI) vs:=by
  intro xs;induction xs with
  |nil=>intro vs h;rw[bm h];show ax
  |cons x xs ih=>
   intro vs h;have{u,us,0,q,r}:=aM h;have{c,0,hc}:=bK q;show ap (eD (ht _ _ hc)) (ih r)
 show bt (ht _ _ hb) (go hi)
abbrev hkN(P:Sf)(w:Si):=vH (intKind P w)
instance nOk:KOk (hkN P w) (λH ks v=>Is H (nK ks) v):={Io,λh=>let ⟨b,_,e,_⟩:=bu h;{b,e},λht _ _=>Ip ht,λh=>h}
abbrev DN(P:Sf)(w:Si):Hp->Se->Sk (Sk (Sk Int)×V)->Prop:=DG (hkN P w) (λH ks v=>Is H (nK ks) v)
end
abbrev Iq(P:Sf)(w:Si):TE->TE->TE:=oj (hkN P w) (λH ks v=>Is H (nK ks) v)
abbrev Ir(P:Sf)(w:Si):TE->TE->TE:=om (hkN P w) (λH ks v=>Is H (nK ks) v)
abbrev Iu(P:Sf)(w:Si):TE->TE->TE->TS:=on (hkN P w) (λH ks v=>Is H (nK ks) v)
abbrev Iw(P:Sf)(w:Si):TE->TE->TE:=vL (hkN P w) (λH ks v=>Is H (nK ks) v)
section
variable{X:Cx}{o i e f value ek ev:Sl}{pos Nq Nr Nh:Pos}{td ty tv tx tk:TE}
def vS(hu:X.A.units+2<cLine)(ho:PE X o td)(hi:PE X i ty)(hs:hU i):PE X (.Subscript o i pos) (Iq X.prog X.w td ty):=vM hu ho hi hs
def vT(hu:X.A.units+2<cLine)(hi:PE X i ty)(ho:PE X o td):PC X .NotIn i o (Ir X.prog X.w ty td):=vN hu hi ho
def vU(hu:X.A.units+2<cLine)(ho:PE X o td)(hi:PE X i ty)(hv:PE X value tv)(hs:swapsWith value (some (.Subscript o i Nq)) pos.line X.env=pure false):
  PS X (.Assign [.Subscript o i Nq] value pos) (Iu X.prog X.w td ty tv):=vO hu ho hi hv hs
def lp(hu:X.A.units+2<cLine)(hk:PE X ek tk)(hv:PE X ev tv):PE X (.Dict [some ek] [ev] pos) (Iw X.prog X.w tk tv):=Im hu hk hv
end
end L2
namespace PySem.SeqAt
open AutoSeq1 (wpAny_loadPart')
open MeetsSeq MeetsSeq2 MeetsSeq3 SeqRoads2
end PySem.SeqAt
namespace L2
open PySem PySem.Spec PyProof.Rows
variable{H:Hp}{K:W.Frag}{N0:Sk Sl}{P:Sf}{Q:PP->Sc->Prop}{X:Cx}{a acc b i1 i2 it l1 l2 z:Se}{g:TG}{i k k1 own:Nat}{js:Sk Nat}{ks:Sk (Mx Int)}{pos:Pos}{tb:TS}{te:TE}{vs ys:Array PP}{w:Si}{x:PP}{xs:Sk V}
variable{X:Cx}
open PySem.W
def mD:Mx Int->D
 |.inl i=>.i i
 |.inr t=>tI t
def qsh:Sk Bool:=[true,true,false,false]
def mK(ks:Sk (Mx Int)):D:= .t (ks.map mD)
def IsK(H:Hp)(ks:Sk (Mx Int))(v:V):Prop:=ks.map isL=qsh/\Is H (mK ks) v
section
variable{P:Sf}{w:Si}{H:Hp}{h:Sm}{a:Se}
theorem oq(ok:HOk P w H h):∀{ks:Sk (Mx Int)}{vs:Sk V}{us:Sk PP},Iss H (ks.map mD) vs->au vs us->ItemsM (intKind P w) h ks us
 |[],_,_,i,r=>by rw[bm i] at r;cases r;show .nil
 |.inl k::ks,_,_,i,r=>by
  have{u,us,0,q,i2}:=aM i;obtain rfl:=aB q;cases r with
  |cons h t=>
   have{t',0}:=h;show .val (show Value.isInt k (.int k t')=true by simp[Value.isInt]) (oq ok i2 t)
 |.inr k::ks,_,_,i,r=>by
  have{u,us,0,q,i2}:=aM i;have{b,0,hb}:=bK q;cases r with
  |cons h t=>
   cases h;show .tup (vQ ok hb) (oq ok i2 t)
def Ix(ok:HOk P w H h)(e:IsK H ks (.ref a)):(vG (intKind P w) qsh).is h ks a:=by
 have{sh,e}:=e;have{b,vs,eb,hb,hi}:=bu e;cases eb;have{_,M9,r,o,h1,h2,n,h3}:=(show aG P w H h a (.tup vs) from ok a _ hb);show{sh,o,M9.toArray,n,h1,h2,h3,by simpa using oq ok hi r}
def Iy{H':Hp}(ht:∀b ys,H b=some (.tup ys)->H' b=some (.tup ys)){v:V}(h:IsK H ks v):IsK H' ks v:=by
 have{sh,h}:=h;have{b,vs,0,hb,hi}:=bu h;have go:∀{xs:Sk (Mx Int)}{vs:Sk V},Iss H (xs.map mD) vs->Iss H' (xs.map mD) vs:=by
  intro xs;induction xs with
  |nil=>intro vs h;rw[bm h];show ax
  |cons x xs ih=>
   intro vs h;have{u,us,0,q,r}:=aM h;cases x with
   |inl k=>rw[show u=.int k from aB q];show ap bj (ih r)
   |inr k=>
    have{c,0,hc}:=bK q;show ap (eD (ht _ _ hc)) (ih r)
 show{sh,bt (ht _ _ hb) (go hi)}
abbrev hkM(P:Sf)(w:Si):=vG (intKind P w) qsh
instance mOk:KOk (hkM P w) IsK:={Ix,λh=>let ⟨b,_,e,_⟩:=bu h.2;{b,e},λht _ _=>Iy ht,λh=>h}
abbrev DM(P:Sf)(w:Si):Hp->Se->Sk (Sk (Mx Int)×V)->Prop:=DG (hkM P w) IsK
end
abbrev Iz(P:Sf)(w:Si):TE->TE->TE:=oj (hkM P w) IsK
abbrev IA(P:Sf)(w:Si):TE->TE->TE:=om (hkM P w) IsK
abbrev IB(P:Sf)(w:Si):TE->TE->TE->TS:=on (hkM P w) IsK
abbrev IC(P:Sf)(w:Si):TE:=vK (hkM P w) IsK
section
variable{X:Cx}{o i e f value ek ev:Sl}{pos Nq Nr Nh:Pos}{td ty tv tx tk:TE}
def vV(hu:X.A.units+2<cLine)(ho:PE X o td)(hi:PE X i ty)(hs:hU i):PE X (.Subscript o i pos) (Iz X.prog X.w td ty):=vM hu ho hi hs
def vX(hu:X.A.units+2<cLine)(hi:PE X i ty)(ho:PE X o td):PC X .NotIn i o (IA X.prog X.w ty td):=vN hu hi ho
def vY(hu:X.A.units+2<cLine)(ho:PE X o td)(hi:PE X i ty)(hv:PE X value tv)(hs:swapsWith value (some (.Subscript o i Nq)) pos.line X.env=pure false):
  PS X (.Assign [.Subscript o i Nq] value pos) (IB X.prog X.w td ty tv):=vO hu ho hi hv hs
def vZ:PE X (.Dict [] [] pos) (IC X.prog X.w):=Il
end
section
variable{prog:Sf}{w:Si}{A:Sj}{E:PP->Sc->Prop}{s:Sc}
def ot{t:Se}(Nd:s.heap.IsTupleIter it t i)(ht:s.heap.IsTuple t vs)(hx:vs[i]? =some x)(hQ:∀h',h'.IsTupleIter it t (i+1)->Heap.SameBut it s.heap h'->Q x {s with heap:=h'}):
  wpAny (model prog w) A (Builtin.SmallTypes.nextOf (.ref it)) Q E s:=by
 have{o,ho,hc,hd}:=id Nd;have{q,hq,_,nq,hdq}:=ht;unfold Builtin.SmallTypes.nextOf;show A0 (B5 (name:=Str.ofString "__next__") Nd.typeIs Cn (Al Cn Nd.typeIs F.entry_tuple_iterator_next ?_ (F.args_tuple_iterator_next_1 _)));change wpAny _ _ (field (.ref it) 0>>=_) _ _ s;show A0 (Bh ho hd (x:= .ref t) rfl ?_);change wpAny _ _ (if(Value.ref t==Value.none)=true then _ else _) _ _ s;rw[A6 (show¬((Value.ref t==Value.none)=true) from AO)];change wpAny _ _ (field (.ref it) 1>>=_) _ _ s;show A0 (Bh ho hd (x:= .int i 0) rfl ?_);change wpAny _ _ (seqItems? (.ref t)>>=_) _ _ s;show A0 (Bj hq hdq ?_);simp only[Ag,hx];show A0 (CC ho hd (by simp) (A3 {x,0,A3 (hQ _ {_,Bw _ ho (DZ (By hd _)),(Obj.cls_mapFields ..).trans hc,by rw[By hd];simp[rawInt]} (BE ..))}))
def v9{t:Se}{Q:PP->Sc->Prop}(hh:A.handled=none)(Nd:s.heap.IsTupleIter it t i)(ht:s.heap.IsTuple t vs)(hx:vs[i]? =none)
  (hE:∀h' e,Heap.ExtBut it s.heap h'->(∃o,h'.get? e=some o/\o.cls=.type "StopIteration")->E (.ref e) {s with heap:=h'}):wpAny (model prog w) A (Builtin.SmallTypes.nextOf (.ref it)) Q E s:=by
 have{o,ho,hc,hd}:=id Nd;have{q,hq,_,nq,hdq}:=ht;unfold Builtin.SmallTypes.nextOf;show A0 (B5 (name:=Str.ofString "__next__") Nd.typeIs Cn (Al Cn Nd.typeIs F.entry_tuple_iterator_next ?_ (F.args_tuple_iterator_next_1 _)));change wpAny _ _ (field (.ref it) 0>>=_) _ _ s;show A0 (Bh ho hd (x:= .ref t) rfl ?_);change wpAny _ _ (if(Value.ref t==Value.none)=true then _ else _) _ _ s;rw[A6 (show¬((Value.ref t==Value.none)=true) from AO)];change wpAny _ _ (field (.ref it) 1>>=_) _ _ s;show A0 (Bh ho hd (x:= .int i 0) rfl ?_);change wpAny _ _ (seqItems? (.ref t)>>=_) _ _ s;show A0 (Bj hq hdq ?_);simp only[Ag,hx];show A0 (CD (A0 (CC ho hd (by simp) ?_)));change wpAny _ _ (newExc (.type "StopIteration") []>>=_) _ _ _;show A0 ?_;simp only[newExc,newTuple];show A0 (Ax ?_ (by size_fits));show A0 (m:=firstArgMember _ _) (Df (a:=Value.none) (by first|rfl|(simp only[firstArgMember];rfl)) (Ax ?_ (by size_fits)));simp -iota only[raiseNew];show A0 (wpAny_handled ?_);(first|rw[show A.in1.handled=none from hh]|rw[hh]);show A0 (A3 (wpAny_throw (hE _ _ (((BE ..).extBut.push _).push _) {_,AJ _ rfl,0})))
theorem wc(hh:A.handled=none)(it t:Se)(NC:t≠it)(vs:Array PP):Draws prog w A it [it,t] vs.size (λi v=>vs[i]? =some v) (λi h=>h.IsTupleIter it t i/\h.IsTuple t vs) where
 live:=λ_ _ st=>let ⟨⟨o,ho,_⟩,_⟩:=st;{o,ho}
 frame:=λ_ _ _ No hk=>by have{st1,Pn}:=No;show{st1.at λo e=>hk it (by simp) o e,Pn.at λo e=>hk t (by simp) o e}
 item:=λi s Q E hi No hQ=>by have{st1,Pn}:=No;show ot st1 Pn (x:=vs[i]) (by simp[hi]) λh' a b=>hQ _ h' s.toks (by simp[hi]) {a,Pn.extBut b.extBut NC} b
 done:=λs Q E No hE=>by have{st1,Pn}:=No;show v9 hh st1 Pn (by simp) hE
def ID{t:Se}(hL:s.heap.IsTuple t vs)
  (h:∀h',IsEnum h' (s.heap.objs.size+1) s.heap.objs.size 0 .none->h'.IsTupleIter s.heap.objs.size t 0->h'.objs.size=s.heap.objs.size+2->(∀b o,s.heap.get? b=some o->h'.get? b=some o)->Q (.ref (s.heap.objs.size+1)) {s with heap:=h'}):
  wpAny (model prog w) A (call (.type "enumerate") [.ref t]) Q E s:=by
 have mt:Meets (Builtin.«enumerate.__new__» ⟨[.type "enumerate",.ref t],[]⟩) (λ_ R s=>s.heap.IsTuple t vs/\R (.ok (.ret (.ref (s.heap.push {cls:= .type "tuple_iterator",data:= .fields #[.ref t,.int 0 0]}).objs.size))) {s with heap:=(s.heap.push {cls:= .type "tuple_iterator",data:= .fields #[.ref t,.int 0 0]}).push {cls:= .type "enumerate",data:= .fields #[.none,.bool false,.ref s.heap.objs.size,rawInt 0,.none,.none]}}):=
  .of_wp λprog w A R s h=>by
   have{hp,g,d,tk,os}:=s;have{hL,h}:=h;have Pp:=sub_enumerate;have{{c,dct,dt,sl},hl,hc,n,hd}:=id hL;have hc:c=.type "tuple":=hc;have hd:dt=.seq vs n:=hd;subst hc hd
   wp_walk using AutoSeq1.wpAny_loadPart' hl
   show wpAny_stack_any λst=>A3 ?_;split
   .next c _ _ _ _ _=>cases (c==Value.type "enumerate")<;>(wp_walk using AutoSeq1.wpAny_loadPart' hl,D9 hL;show{1,h})
   .wp_walk using AutoSeq1.wpAny_loadPart' hl,D9 hL;show{1,h}
 show callType_new F.called_enumerate (by decide) (F.typeCall_enumerate_1 _) (F.newCall_enumerate_1 _) (λobj=>F.args_object_init_2 obj _) F.entry_enumerate_new mt {hL,?_};have hz:(s.heap.push {cls:= .type "tuple_iterator",data:= .fields #[.ref t,.int 0 0]}).objs.size=s.heap.objs.size+1:=B3 ..
 change _/\_;rw[hz];have he:=AJ (s.heap.push {cls:= .type "tuple_iterator",data:= .fields #[.ref t,.int 0 0]}) (o:={cls:= .type "enumerate",data:= .fields #[.none,.bool false,.ref s.heap.objs.size,rawInt 0,.none,.none]}) rfl;rw[hz] at he;show{{_,he,0},h _ he {_,A4 _ (AJ _ rfl),0,0} (by rw[B3,hz]) λb o x=>A4 _ (A4 _ x)}
end
def gI(K:W.Frag)(a:Se):It:=
 {λi H=>∃xs x,SqT K H a xs/\xs[i]? =some x,λi H v H'=>∃x p,(∀xs,SqT K H a xs->xs[i]? =some x)/\v=.ref p/\H p=none/\H'=upd H p (.tup [.int i,x]),λi H=>∃xs,SqT K H a xs/\xs.length=i}
def IE(a e it:Se)(NC:e≠it)(hai:a≠it)(hae:e≠a):
  Turn P w K (.Tuple N0 k pos) (gI K a) [e,it] e (λi h=>(∃Ot,IsEnum h e it (i:Nat) Ot)/\h.IsTupleIter it a i) where
 mem:=by simp
 obj:=λi h st b hb=>by
  have{{Ot,h1},o,h2,h3,h4}:=st;simp only[AI,At,Bq] at hb;rcases hb with rfl|rfl
  .show{_,h1,λv y=>by cases y}
  .show{o,h2,λv y=>by rw[h4] at y;cases y}
 keep:=λi h h' No kk=>by have{{Ot,z},Pn}:=No;show{{Ot,kk e (by simp) _ z},Pn.at λo z=>kk it (by simp) o z}
 item:=by
  intro X hP hw hK hc i M6 s σ H E I hf st hg;subst hP hw hK;have{xs,x,hq,hx}:=hg;have{M9,rv,p,hz}:=I.tuple hq;have{u,hu,ru}:=rv.get hx;have{{Ot,he},Nd}:=st;have ltE:e<s.heap.objs.size:=AM he;have Nb:i<M9.toArray.size:=by have:=(AF.mp hu).1;simpa using this
  show wpAny_pyNext_enum_itemD (wc (A:=X.A.in1) (show X.A.in1.handled=none from I.ok.hd hc) it a hai M9.toArray) he {Nd,p} Nb NC (by simp[NC,hae]) λx' h' tk px ho zu71 hT hsz hk=>?_;have{O1,_}:=zu71;show{.ref s.heap.objs.size,0,?_};obtain rfl:x'=u:=by
   have px:M9.toArray[i]? =some x':=px;have:M9[i]? =some x':=by simpa using px
   rw[hu] at this;show(Ao this).symm
  show wpAny_letOwnedTupleGo_enum ho λh2 Px sb=>?_;have k2:∀b o,b∉[e,it]->s.heap.get? b=some o->h2.get? b=some o:=λb o n z=>by
   simp only[AI,At,Bq,not_or] at n;show(sb.2 b n.1).trans (hk b o n.1 n.2 z)
  have Rr:h2.get? s.heap.objs.size=some {cls:= .type "tuple",data:= .seq #[.int i tk,x']}:=(sb.2 _ (BM ltE)).trans hT;show{.ref s.heap.objs.size,upd H s.heap.objs.size (.tup [.int i,x]),I.turnNew (t':=tk+1) hf k2 {by change 2<=sizeLine;decide,[.int i tk,x'],.cons {1} (.cons ru .nil),{_,Rr,0,1}},0,{x,_,λys hy=>by rw[I.tuple_inj hy hq];show hx,0,I.hok.fresh (AB _),0},{{x',by simpa using Px},O1.at λo z=>(sb.2 it NC.symm).trans z},λb hb=>?_};have there:∃o,s.heap.get? b=some o:=by
   simp only[AI,At,Bq] at hb;rcases hb with rfl|rfl
   .show{_,he}
   .show Nd.imp λo q=>q.1
  have{o,q}:=there;rw[av (AU (AM q))];show(hf b hb).1
 done:=by
  intro X hP hw hK hc i M6 s σ H E I hf st hg;subst hP hw hK;have{xs,hq,hx}:=hg;have{M9,rv,p,hz}:=I.tuple hq;have{{Ot,he},Nd}:=st;have hl:=rv.length;have{f0,f1,f2,f3,f4,f5}:=hf it (by simp);have hn:i=M9.toArray.size:=by simp;lia
  show wpAny_pyNext_enum_endD (wc (A:=X.A.in1) (show X.A.in1.handled=none from I.ok.hd hc) it a hai M9.toArray) he {hn▸Nd,p} λh' eb=>{0,I.turned (t':=s.toks) (λb o hb z=>eb b o hb z) f0 f1 f3 f4 f5}
 self:=λ_ _ _ _ _ st h=>let ⟨⟨_,z⟩,_⟩:=st;wpAny_pyIter_enum z h
section
variable{X:Cx}{N0:Sk Sl}{k:Nat}{Oe p pos:Pos}{e:Sl}{te:TE}
def IF(K:W.Frag)(tl:TE):TI:=λσ H R=>tl σ H λx H1=>∃a,x=.ref a/\(∃xs,SqT K H1 a xs)/\R (gI K a) H1
def ou(hg:Gl X "enumerate")(hm:X.mg "enumerate"=none)(hl:PE X e te)(he:starEach [e] X.env=[(false,eval e X.env)]:=by rfl):PI X (.Tuple N0 k Oe) (.Call (.Name "enumerate" p) [e] [] pos) (IF X.K te):=by
 intro M6 s σ H R I h;show BK (cR I hg hm boot_enumerate ?_);show B7 (thn ((ab hl af he) _ M6 s σ H (λvs H1=>match vs with|[x]=>(∃a,x=.ref a/\(∃xs,SqT X.K H1 a xs)/\R (gI X.K a) H1)|_=>False) I h) λus s1 zu72=>?_) he (by rfl);have{vs,H1,I1,r1,q1}:=zu72
 match vs,q1,r1 with
 |[x],q1,r1=>
 have{a,0,{xs,hq},q}:=q1;have{u,0,ru}:=c8 r1;obtain rfl:u=Value.ref a:=ru;have{M9,rv,pl,hz}:=I1.tuple hq;have la:a<s1.heap.objs.size:=let ⟨_,q,_⟩:=pl;AM q;show ID (show s1.heap.IsTuple a M9.toArray from pl) λh' hen Nd hsz hk=>?_;show wpAny_pyIter_enum hen ?_;show{_,[_,_],_,_,H1,0,I1.kept (t':=s1.toks) hk,IE a _ _ (BM (BZ _)) (AU la) (BM (Am la)),{{_,by simpa using hen},Nd},λb hb=>?_,q};have fr:∀b,s1.heap.objs.size<=b->cx X M6 H1 b:=λb z=>I1.fpOk z (I1.hok.fresh z);simp only[AI,At,Bq] at hb;rcases hb with rfl|rfl<;>show fr _ (by lia)
end
def wd{D:Ends}{σ:St}(Pv:Nat->St->Hp->Prop)(h0:Pv 0 σ H)(hl:∀i σ H,i<=xs.length->Pv i σ H->SqT K H a xs)
  (hs:∀i x σ H p,xs[i]? =some x->Pv i σ H->H p=none->g (.ref p) σ (upd H p (.tup [.int i,x])) λσ2 H2=>tb (eLp D (Pv (i+1))) σ2 H2) (hd:∀σ H,Pv xs.length σ H->D.nx σ H):
  ∃Wq:Nat->Nat->St->Hp->Prop,(∃m,Wq 0 m σ H)/\∀i m σ H,Wq i m σ H->
   ((gI K a).stop i H/\D.nx σ H)\/((gI K a).go i H/\∃N:St->Hp->Prop,(∀σ' H',N σ' H'->∃m',m'<m/\Wq (i+1) m' σ' H')/\∀x H',(gI K a).yld i H x H'->g x σ H' λσ2 H2=>tb (eLp D (N)) σ2 H2):=by
 show{λi m σ H=>m=xs.length-i/\i<=xs.length/\Pv i σ H,{xs.length,7,AW _,h0},?_};rintro i m σ H ⟨rfl,hi,p⟩;have q:=hl i σ H hi p;by_cases Nb:i<xs.length
 .show .inr {{xs,xs[i],q,by simp[Nb]},Pv (i+1),λσ' H' p'=>{xs.length-(i+1),4,0,Nb,p'},λx H' y=>?_};have{z,pp,e1,e2,e3,e4}:=y;subst e2 e4;show hs i z σ H pp (e1 xs q) p e3
 .obtain rfl:i=xs.length:=by lia
  show .inl {{xs,q,0},hd σ H p}
def IG{ti:TT}{σ:St}{H1:Hp}{Q:VK}(Pv:Nat->Hp->Prop)(h0:Pv 0 (upd H1 acc (.lst [])))(hl:∀i H2,i<=xs.length->Pv i H2->SqT K H2 a xs)
  (hs:∀i x H2 p,xs[i]? =some x->Pv i H2->H2 p=none->g (.ref p) (dz own js σ) (upd H2 p (.tup [.int i,x])) λσ4 H4=>ti σ4 H4 λb H5=>if b=true then te σ4 H5 λy H6=>rAppend (.ref acc) [y] H6 λ_ H7=>Pv (i+1) H7 else Pv (i+1) H5) (hd:∀H2,Pv xs.length H2->Q (.ref acc) H2)
  (mono:∀σ H (R R':St->Hp->Prop) x,(∀σ' H',R σ' H'->R' σ' H')->g x σ H R->g x σ H R') (N7:∀σ H (R R':Bool->Hp->Prop),(∀b H',R b H'->R' b H')->ti σ H R->ti σ H R') (N8:∀σ H (R R':VK),(∀v H',R v H'->R' v H')->te σ H R->te σ H R'):
  jo (gI K a) own js g ti te σ H1 acc Q:=by
 show{λi m H2=>m=xs.length-i/\i<=xs.length/\Pv i H2,{xs.length,7,AW _,h0},?_};rintro i m H2 ⟨rfl,hi,p⟩;have qa:=hl i H2 hi p;by_cases Nb:i<xs.length
 .show .inr {{xs,xs[i],qa,by simp[Nb]},λv H3 z=>?_};have{x,pp,e1,e3,e4,e5}:=z;subst e3 e5;show mono _ _ _ _ _ (λσ4 H4 q=>N7 _ _ _ _ (λb H5 q=>?_) q) (hs i x _ pp (e1 xs qa) p e4);cases b with
  |true=>
   show N8 _ _ _ _ (λv H6 q=>?_) q;have{l,zs,y,a1,a2,a3,a4,a5}:=q;show{l,zs,y,a1,a2,a3,a4,_,4,0,Nb,a5}
  |false=>show{_,4,0,Nb,q}
 .obtain rfl:i=xs.length:=by lia
  show .inl {{xs,qa,0},hd H2 p}
def IH{ti:TT}{σ:St}{H1:Hp}{Q:VK}(Pv:Nat->Hp->Prop)(h0:Pv 0 (upd H1 acc (.lst [])))(hl:∀i H2,i<=xs.length->Pv i H2->SqL K H2 a xs)
  (hs:∀i x H2 p,xs[i]? =some x->Pv i H2->H2 p=none->g (.ref p) (dz own js σ) (upd H2 p (.tup [.int i,x])) λσ4 H4=>ti σ4 H4 λb H5=>if b=true then te σ4 H5 λy H6=>rAppend (.ref acc) [y] H6 λ_ H7=>Pv (i+1) H7 else Pv (i+1) H5) (hd:∀H2,Pv xs.length H2->Q (.ref acc) H2)
  (mono:∀σ H (R R':St->Hp->Prop) x,(∀σ' H',R σ' H'->R' σ' H')->g x σ H R->g x σ H R') (N7:∀σ H (R R':Bool->Hp->Prop),(∀b H',R b H'->R' b H')->ti σ H R->ti σ H R') (N8:∀σ H (R R':VK),(∀v H',R v H'->R' v H')->te σ H R->te σ H R'):
  jo (Ite K a) own js g ti te σ H1 acc Q:=by
 show{λi m H2=>m=xs.length-i/\i<=xs.length/\Pv i H2,{xs.length,7,AW _,h0},?_};rintro i m H2 ⟨rfl,hi,p⟩;have qa:=hl i H2 hi p;by_cases Nb:i<xs.length
 .show .inr {{xs,xs[i],qa,by simp[Nb]},λv H3 z=>?_};have{x,pp,e1,e3,e4,e5}:=z;subst e3 e5;show mono _ _ _ _ _ (λσ4 H4 q=>N7 _ _ _ _ (λb H5 q=>?_) q) (hs i x _ pp (e1 xs qa) p e4);cases b with
  |true=>
   show N8 _ _ _ _ (λv H6 q=>?_) q;have{l,zs,y,a1,a2,a3,a4,a5}:=q;show{l,zs,y,a1,a2,a3,a4,_,4,0,Nb,a5}
  |false=>show{_,4,0,Nb,q}
 .obtain rfl:i=xs.length:=by lia
  show .inl {{xs,qa,AB _},hd H2 p}
def we(hc:X.calm=true):bP X (.builtin "sum") (λxs H Q=>∃(p:Se) (ns:Sk Int),xs=[.ref p]/\SqT X.K H p (ns.map V.int)/\Q (.int ns.sum) H):=by
 intro M6 s σ H xs us Q I r h;have{p,ns,0,hq,q}:=h;have{u,0,rx}:=c8 r;cases rx;have{M9,r',pl,hz}:=I.tuple hq;have hi:IntsAre M9 ns:=m3 r';have{ys,e}:=hi.allInts.items;have hl:s.heap.IsTuple p M9.toArray:=pl;rw[e] at hl;have n1:=hi.numsOf;rw[show M9=M9.toArray.toList from rfl,e,nums_intItems] at n1;have lt:p<s.heap.objs.size:=let ⟨_,q,_⟩:=hl;AM q;show call_sum_walkG (D9 hl ?_);show{_,_,_,_,_,_,numAt ys,0,Walks.tuple (A:=X.A.in1) (show X.A.in1.handled=none from I.ok.hd hc) _ p (AU lt) (intItems ys),{{_,AJ _ rfl,0,0},hl.push _},λb hb=>?_,λ_ _=>intItems_at,λh' tk t' hk=>?_}
 .simp only[AI,At,Bq] at hb;rw[B3];rcases hb with rfl|rfl
  .show BZ _
  .show Am lt
 .show{.int ns.sum,H,I.kept λb o z=>hk b o (λy=>?_) (A4 _ z),{t',?_},q}
  .simp only[AI,At,Bq] at y;show absurd (AM z) (by rw[y];show Bt _)
  .rw[preSum_eq,C5 (by simp[intItems]),n1]
section
variable{prog:Sf}{w:Si}{A:Sj}{E:PP->Sc->Prop}{s:Sc}
def II{TI TO:Se}{k2:Nat}{xs:Array PP}{y a b:PP}{Q:Sn PP->Sc->Prop}(D:ZipApart z TI TO i1 i2 l1 l2)(hz:IsZip s.heap z TI TO .none)(P1:IsPair s.heap TI (.ref i1) (.ref i2))(Qx:IsPair s.heap TO a b)
  (h1:s.heap.IsTupleIter i1 l1 k1) (h2:s.heap.IsTupleIter i2 l2 k2) (NG:s.heap.IsTuple l1 xs) (Nk:s.heap.IsTuple l2 ys) (hx:xs[k1]? =some x) (hy:ys[k2]? =some y)
  (hQ:∀h',IsZip h' z TI TO (rawInt s.heap.objs.size)->IsPair h' TO x y->h'.IsTupleIter i1 l1 (k1+1)->h'.IsTupleIter i2 l2 (k2+1)->IsPair h' s.heap.objs.size x y->h'.objs.size=s.heap.objs.size+1->(∀c o,c≠z->c≠TO->c≠i1->c≠i2->s.heap.get? c=some o->h'.get? c=some o)->Q (some (.ref s.heap.objs.size)) {s with heap:=h'}):
  wpAny (model prog w) A (pyNext (.ref z)) Q E s:=by
 have hT:s.TypeIs (.ref z) "zip":={_,hz,0};unfold pyNext;show A0 (CK (B5 (name:=Str.ofString "__next__") hT F.slot_zip_next (Al F.slot_zip_next hT F.entry_zip_next ?_ (F.args_zip_next_1 _))));change wpAny _ _ (field (.ref z) 2>>=_) _ _ _;show A0 (Bh hz rfl (x:= .bool false) rfl ?_);change wpAny _ _ (field (.ref z) 3>>=_) _ _ _;show A0 (Bh hz rfl (x:= .ref TI) rfl (A0 (Bj P1 rfl ?_)));change wpAny _ _ (Builtin.SmallTypes.ownedTupleIsFree (.ref z)>>=_) _ _ _;show A0 ?_;unfold Builtin.SmallTypes.ownedTupleIsFree;show A0 (Bh hz rfl (x:= .none) rfl (A3 ?_));simp only[CF];show A0 (CD (A0 (Bh hz rfl (x:= .ref TO) rfl (A0 (D8 hz (by simp) λa1 P3 s1=>?_)))));have P3:IsZip a1 z TI TO .ellipsis:=P3;show A0 ?_;simp only[List.zipIdx_cons,List.zipIdx_nil,Cp,List.forIn_nil];show A0 (A0 (wpAny_onRaise ?_));change wpAny _ _ (Builtin.SmallTypes.nextOf (.ref i1)>>=_) _ _ _;show A0 (ot (h1.extBut s1.extBut D.i1z) (NG.extBut s1.extBut D.l1z) hx λa2 g1 s2=>A3 ?_);have o2:IsPair a2 TO a b:=s2.extBut _ _ D.TOi1 (s1.extBut _ _ D.TOz Qx);show A0 (Bj o2 rfl (A0 (wpAny_updateSeq_pair o2 λa3 o3 s3=>?_)));have o3:IsPair a3 TO x b:=o3;show A0 (wpAny_letGo (A3 ?_));show A0 (A0 (wpAny_onRaise ?_));change wpAny _ _ (Builtin.SmallTypes.nextOf (.ref i2)>>=_) _ _ _;show A0 (ot (((h2.extBut s1.extBut D.i2z).extBut s2.extBut D.i12.symm).extBut s3.extBut D.TOi2.symm) (((Nk.extBut s1.extBut D.l2z).extBut s2.extBut D.l2i1).extBut s3.extBut D.l2TO) hy λa4 g2 s4=>A3 ?_);have o4:IsPair a4 TO x b:=s4.extBut _ _ D.TOi2 o3;show A0 (Bj o4 rfl (A0 (wpAny_updateSeq_pair o4 λa5 o5 s5=>?_)));have o5:IsPair a5 TO x y:=o5;show A0 (wpAny_letGo (A3 (A3 ?_)));show A0 (Bj o5 rfl (A0 (wpAny_newTuple ?_)));have sz:a5.objs.size=s.heap.objs.size:=by rw[s5.1,s4.1,s3.1,s2.1,s1.1]
 have z5:IsZip a5 z TI TO .ellipsis:=s5.extBut _ _ D.TOz.symm (s4.extBut _ _ D.i2z.symm (s3.extBut _ _ D.TOz.symm (s2.extBut _ _ D.i1z.symm P3)));have k5:∀c o,c≠z->c≠TO->c≠i1->c≠i2->s.heap.get? c=some o->a5.get? c=some o:=λc o c1 c2 c3 c4 e=>s5.extBut _ _ c2 (s4.extBut _ _ c4 (s3.extBut _ _ c2 (s2.extBut _ _ c3 (s1.extBut _ _ c1 e))));have m1:a5.IsTupleIter i1 l1 (k1+1):=((g1.extBut s3.extBut D.TOi1.symm).extBut s4.extBut D.i12).extBut s5.extBut D.TOi1.symm;have m2:a5.IsTupleIter i2 l2 (k2+1):=g2.extBut s5.extBut D.TOi2.symm;have zl:z<a5.objs.size:=AM z5;change wpAny _ _ (Builtin.SmallTypes.ownedTupleHandOut (.ref z) (.ref a5.objs.size)>>=_) _ _ _;show A0 ?_;unfold Builtin.SmallTypes.ownedTupleHandOut;have z6:IsZip (a5.push {cls:= .type "tuple",data:= .seq #[x,y]}) z TI TO .ellipsis:=A4 _ z5;show A0 (D8 z6 (by simp) λa7 z7 s7=>?_);have z7:IsZip a7 z TI TO (rawInt a5.objs.size):=z7;show D8 z7 (by simp) λa8 z8 s8=>?_;have z8:IsZip a8 z TI TO (rawInt a5.objs.size):=z8;have up:∀c o,c≠z->a5.get? c=some o->a8.get? c=some o:=λc o c1 e=>s8.extBut _ _ c1 (s7.extBut _ _ c1 (A4 _ e));have t8:IsPair a8 a5.objs.size x y:=s8.extBut _ _ (BM zl) (s7.extBut _ _ (BM zl) (AJ _ rfl));have e8:a8.objs.size=a5.objs.size+1:=by rw[s8.1,s7.1,B3]
 rw[sz] at z8 t8 e8;show A3 {1,A3 ?_};change Q (some (.ref a5.objs.size)) _;rw[sz];show hQ a8 z8 (up _ _ D.TOz o5) (m1.at λo e=>up _ o D.i1z e) (m2.at λo e=>up _ o D.i2z e) t8 e8 λc o c1 c2 c3 c4 e=>up c o c1 (k5 c o c1 c2 c3 c4 e)
def IJ{TI TO:Se}{xs:Array PP}{a b:PP}{Q:Sn PP->Sc->Prop}(hh:A.handled=none)(D:ZipApart z TI TO i1 i2 l1 l2)(hz:IsZip s.heap z TI TO .none)(P1:IsPair s.heap TI (.ref i1) (.ref i2))(Qx:IsPair s.heap TO a b)
  (h1:s.heap.IsTupleIter i1 l1 k1) (NG:s.heap.IsTuple l1 xs) (hx:xs[k1]? =none) (hQ:∀h',(∀c o,c≠z->c≠TO->c≠i1->c≠i2->s.heap.get? c=some o->h'.get? c=some o)->Q none {s with heap:=h'}):wpAny (model prog w) A (pyNext (.ref z)) Q E s:=by
 have hT:s.TypeIs (.ref z) "zip":={_,hz,0};unfold pyNext;show A0 (CK (B5 (name:=Str.ofString "__next__") hT F.slot_zip_next (Al F.slot_zip_next hT F.entry_zip_next ?_ (F.args_zip_next_1 _))));change wpAny _ _ (field (.ref z) 2>>=_) _ _ _;show A0 (Bh hz rfl (x:= .bool false) rfl ?_);change wpAny _ _ (field (.ref z) 3>>=_) _ _ _;show A0 (Bh hz rfl (x:= .ref TI) rfl (A0 (Bj P1 rfl ?_)));change wpAny _ _ (Builtin.SmallTypes.ownedTupleIsFree (.ref z)>>=_) _ _ _;show A0 ?_;unfold Builtin.SmallTypes.ownedTupleIsFree;show A0 (Bh hz rfl (x:= .none) rfl (A3 ?_));simp only[CF];show A0 (CD (A0 (Bh hz rfl (x:= .ref TO) rfl (A0 (D8 hz (by simp) λa1 P3 s1=>?_)))));have P3:IsZip a1 z TI TO .ellipsis:=P3;show A0 ?_;simp only[List.zipIdx_cons,List.zipIdx_nil,Cp,List.forIn_nil];show A0 (A0 (wpAny_onRaise ?_));change wpAny _ _ (Builtin.SmallTypes.nextOf (.ref i1)>>=_) _ _ _;show A0 (v9 hh (h1.extBut s1.extBut D.i1z) (NG.extBut s1.extBut D.l1z) hx λa2 e s2 he=>?_);have{oe,hoe,hce}:=he;have z2:IsZip a2 z TI TO .ellipsis:=s2 _ _ D.i1z.symm P3;have ez:e≠z:=λx=>by subst x;rw[z2] at hoe;cases hoe;simp at hce
 show D8 z2 (by simp) λa3 _ s3=>?_;show A0 (Bx (T:="StopIteration") (b:=true) {oe,s3.extBut _ _ ez hoe,hce} isSubtype_stop (A3 (hQ _ λc o c1 _ c3 _ x=>s3.extBut _ _ c1 (s2 _ _ c3 (s1.extBut _ _ c1 x)))))
end
section
variable{prog:Sf}{w:Si}{A:Sj}{E:PP->Sc->Prop}{s:Sc}
abbrev tz1(h:Sm)(a:Se):Sm:=h.push {cls:= .type "tuple_iterator",data:= .fields #[.ref a,.int 0 0]}
abbrev tz2(h:Sm)(a b:Se):Sm:=(tz1 h a).push {cls:= .type "tuple_iterator",data:= .fields #[.ref b,.int 0 0]}
abbrev tz3(h:Sm)(a b:Se):Sm:=(tz2 h a b).push {cls:= .type "tuple",data:= .seq #[.ref h.objs.size,.ref (tz1 h a).objs.size]}
abbrev tz4(h:Sm)(a b:Se):Sm:=(tz3 h a b).push {cls:= .type "tuple",data:= .seq #[.none,.none]}
abbrev tz5(h:Sm)(a b:Se):Sm:=(tz4 h a b).push {cls:= .type "zip",data:= .fields #[.none,.bool false,.bool false,.ref (tz2 h a b).objs.size,.ref (tz3 h a b).objs.size]}
def IL{xs:Array PP}(ha:s.heap.IsTuple a xs)(hb:s.heap.IsTuple b ys)
  (h:∀h',IsZip h' (s.heap.objs.size+4) (s.heap.objs.size+2) (s.heap.objs.size+3) .none->IsPair h' (s.heap.objs.size+2) (.ref s.heap.objs.size) (.ref (s.heap.objs.size+1))->IsPair h' (s.heap.objs.size+3) .none .none->h'.IsTupleIter s.heap.objs.size a 0->h'.IsTupleIter (s.heap.objs.size+1) b 0->(∀c o,s.heap.get? c=some o->h'.get? c=some o)->Q (.ref (s.heap.objs.size+4)) {s with heap:=h'}):
  wpAny (model prog w) A (call (.type "zip") [.ref a,.ref b]) Q E s:=by
 have mt:Meets (Builtin.«zip.__new__» ⟨[.type "zip",.ref a,.ref b],[]⟩) (λ_ R s=>s.heap.IsTuple a xs/\s.heap.IsTuple b ys/\R (.ok (.ret (.ref (tz4 s.heap a b).objs.size))) {s with heap:=tz5 s.heap a b}):=
  .of_wp λprog w A R s h=>by
   have{hp,g,d,tk,os}:=s;have{h1,h2,h}:=h;have Pp:=sub_zip;have hL1:Heap.IsTuple (Shared.heap ⟨hp,g,d,tk,os⟩) a xs:=h1;have hL2:Heap.IsTuple (Shared.heap ⟨hp.push {cls:= .type "tuple_iterator",data:= .fields #[.ref a,.int 0 0]},g,d,tk,os⟩) b ys:=Heap.IsTuple.push h2 _
   wp_walk using wpAny_pyIter_tuple hL1,D9 hL2
   show{1,h}
 show callType_new F.called_zip (by decide) (F.typeCall_zip_2 _ _) (F.newCall_zip_2 _ _) (λobj=>F.args_object_init_3 obj _ _) F.entry_zip_new mt {ha,hb,?_};have z1:(tz1 s.heap a).objs.size=s.heap.objs.size+1:=B3 ..
 have z2:(tz2 s.heap a b).objs.size=s.heap.objs.size+2:=by rw[B3,z1]
 have z3:(tz3 s.heap a b).objs.size=s.heap.objs.size+3:=by rw[B3,z2]
 have z4:(tz4 s.heap a b).objs.size=s.heap.objs.size+4:=by rw[B3,z3]
 have g5:(tz5 s.heap a b).get? (tz4 s.heap a b).objs.size=some _:=AJ _ rfl;have g4:(tz5 s.heap a b).get? (tz3 s.heap a b).objs.size=some _:=A4 _ (AJ _ rfl);have g3:(tz5 s.heap a b).get? (tz2 s.heap a b).objs.size=some _:=A4 _ (A4 _ (AJ _ rfl));have g2:(tz5 s.heap a b).get? (tz1 s.heap a).objs.size=some _:=A4 _ (A4 _ (A4 _ (AJ _ rfl)));have g1:(tz5 s.heap a b).get? s.heap.objs.size=some _:=A4 _ (A4 _ (A4 _ (A4 _ (AJ _ rfl))));change _/\_;rw[z2,z3,z4] at g5;rw[z1,z2] at g3;rw[z3] at g4;rw[z1] at g2;rw[z4];show{{_,g5,0},h _ g5 g3 g4 {_,g1,0,0} {_,g2,0,0} λc o x=>A4 _ (A4 _ (A4 _ (A4 _ (A4 _ x))))}
end
def ItzT(K : W.Frag)(a b : Se) : It :=
  {λi H => ∃ xs x ys y, SqT K H a xs /\ SqT K H b ys /\ xs[i]? = some x /\ ys[i]? = some y,
   λi H v H' => ∃ x y p, (∀ xs, SqT K H a xs -> xs[i]? = some x) /\ (∀ ys, SqT K H b ys -> ys[i]? = some y) /\ v = .ref p /\ H p = none /\ H' = upd H p (.tup [x, y]),
   λi H => ∃ xs, SqT K H a xs /\ xs.length <= i}
def IM{TI TO:Se}(D:ZipApart z TI TO i1 i2 a b):
  Turn P w K (.Tuple N0 k pos) (ItzT K a b) [z,TI,TO,i1,i2] z (λi h=>IsZip h z TI TO .none/\IsPair h TI (.ref i1) (.ref i2)/\(∃x y,IsPair h TO x y)/\h.IsTupleIter i1 a i/\h.IsTupleIter i2 b i) where
 mem:=by simp
 obj:=λi h st c hc=>by
  have{h1,h2,{x,y,h3},{o4,h4,_,d4},{o5,h5,_,d5}}:=st;simp only[AI,At,Bq] at hc;rcases hc with rfl|rfl|rfl|rfl|rfl
  .show{_,h1,λv q=>by cases q}
  .show{_,h2,λv q=>by cases q}
  .show{_,h3,λv q=>by cases q}
  .show{_,h4,λv q=>by rw[d4] at q;cases q}
  .show{_,h5,λv q=>by rw[d5] at q;cases q}
 keep:=λi h h' st kk=>{kk z (by simp) _ st.1,kk TI (by simp) _ st.2.1,st.2.2.1.imp λx q=>q.imp λy q=>kk TO (by simp) _ q,st.2.2.2.1.at λo q=>kk i1 (by simp) o q,st.2.2.2.2.at λo q=>kk i2 (by simp) o q}
 item:=by
  intro X hP hw hK hc i M6 s σ H E I hf st hg;subst hP hw hK;have{xs,x,ys,y,hqa,hqb,hx,hy}:=hg;have{as,ra,pa,za}:=I.tuple hqa;have{bs,rb,pb,zb}:=I.tuple hqb;have{u,hu,ru}:=ra.get hx;have{v,hv,rv}:=rb.get hy;have{hz,P1,{_,_,Qx},h1,h2}:=st;have ltz:z<s.heap.objs.size:=AM hz;show II D hz P1 Qx h1 h2 (show s.heap.IsTuple a as.toArray from pa) (show s.heap.IsTuple b bs.toArray from pb) (x:=u) (y:=v) (by simpa using hu) (by simpa using hv) λh' hz' hTO' h1' h2' hT hsz hk=>{.ref s.heap.objs.size,0,?_};show wpAny_letOwnedTupleGo_zip hz' λh3 hz3 sb=>?_;have kk:∀c o,c∉[z,TI,TO,i1,i2]->s.heap.get? c=some o->h3.get? c=some o:=λc o n e=>by
   simp only[AI,At,Bq,not_or] at n;show(sb.2 c n.1).trans (hk c o n.1 n.2.2.1 n.2.2.2.1 n.2.2.2.2 e)
  have hT3:h3.get? s.heap.objs.size=some {cls:= .type "tuple",data:= .seq #[u,v]}:=(sb.2 _ (BM ltz)).trans hT;have hTI3:IsPair h3 TI (.ref i1) (.ref i2):=(sb.2 _ D.TIz).trans (hk _ _ D.TIz D.TITO D.TIi1 D.TIi2 P1);show{.ref s.heap.objs.size,upd H s.heap.objs.size (.tup [x,y]),I.turnNew (t':=s.toks) hf kk {by change 2<=sizeLine;decide,[u,v],.cons ru (.cons rv .nil),{_,hT3,0,1}},0,
   {x,y,_,λzs On=>by rw[I.tuple_inj On hqa];show hx,λzs On=>by rw[I.tuple_inj On hqb];show hy,0,I.hok.fresh (AB _),0},
   {hz3,hTI3,{_,_,(sb.2 _ D.TOz).trans hTO'},h1'.at λo q=>(sb.2 _ D.i1z).trans q,h2'.at λo q=>(sb.2 _ D.i2z).trans q},λc hc=>?_}
  have there:∃o,s.heap.get? c=some o:=by
   simp only[AI,At,Bq] at hc;rcases hc with rfl|rfl|rfl|rfl|rfl
   .show{_,hz}
   .show{_,P1}
   .show{_,Qx}
   .show h1.imp λo q=>q.1
   .show h2.imp λo q=>q.1
  have{o,q}:=there;rw[av (AU (AM q))];show(hf c hc).1
 done:=by
  intro X hP hw hK hc i M6 s σ H E I hf st hg;subst hP hw hK;have{xs,hqa,hx}:=hg;have{as,ra,pa,za}:=I.tuple hqa;have{hz,P1,{_,_,Qx},h1,h2}:=st;have la:=ra.length;show IJ (I.ok.hd hc) D hz P1 Qx h1 (show s.heap.IsTuple a as.toArray from pa) (by simp;lia) λh' hk=>{0,I.turnAll (t':=s.toks) hf λc o n e=>?_};simp only[AI,At,Bq,not_or] at n;show hk c o n.1 n.2.2.1 n.2.2.2.1 n.2.2.2.2 e
 self:=λ_ _ _ _ _ st h=>wpAny_pyIter_zip st.1 h
section
variable{X:Cx}{N0:Sk Sl}{k:Nat}{Oe p pos:Pos}{e f:Sl}{te tf:TE}
inductive iZipT_(K:W.Frag)(R:(It->Hp->Prop))(vs:List V)(H1:Hp):Prop
 |mk a b:vs=[.ref a,.ref b]->((∃xs,SqT K H1 a xs))->((∃ys,SqT K H1 b ys))->R (ItzT K a b) H1->iZipT_ K R vs H1
def IN(K:W.Frag)(ta:TA):TI:=λσ H R=>ta σ H λvs H1=>iZipT_ K R vs H1
def IP{ta:TA}(hg:Gl X "zip")(hm:X.mg "zip"=none)(hl:PA X [e,f] ta)(he:starEach [e,f] X.env=(false,eval e X.env)::starEach [f] X.env:=by rfl)(hp:(backTo pos (starEach [f] X.env)).any (·.1)=false:=by rfl):
  PI X (.Tuple N0 k Oe) (.Call (.Name "zip" p) [e,f] [] pos) (IN X.K ta):=by
 intro M6 s σ H R I h;show BK (cR I hg hm PyProof.Rows.Boot.«zip» ?_);show B7 (thn (hl _ M6 s σ H _ I h) λus s1 zu73=>?_) he hp;have{vs,H1,I1,r1,a,b,ev,{xs,hqa},{ys,hqb},q}:=zu73;subst ev;have{u,v,0,ru,rv}:=kL r1;obtain rfl:u=Value.ref a:=ru;obtain rfl:v=Value.ref b:=rv;have{as,ra,pa,za}:=I1.tuple hqa;have{bs,rb,pb,zb}:=I1.tuple hqb;have la:a<s1.heap.objs.size:=let ⟨_,q,_⟩:=pa;AM q;have lb:b<s1.heap.objs.size:=let ⟨_,q,_⟩:=pb;AM q;show IL (show s1.heap.IsTuple a as.toArray from pa) (show s1.heap.IsTuple b bs.toArray from pb) λh' hz P1 Qx h1 h2 hk=>?_;show wpAny_pyIter_zip hz ?_;show{_,[_,_,_,_,_],_,_,H1,0,I1.kept (t':=s1.toks) hk,IM (zipApart_new la lb),{hz,P1,{_,_,Qx},h1,h2},λc hc=>?_,q};have fr:∀c,s1.heap.objs.size<=c->cx X M6 H1 c:=λc z=>I1.fpOk z (I1.hok.fresh z);simp only[AI,At,Bq] at hc;rcases hc with rfl|rfl|rfl|rfl|rfl<;>show fr _ (by lia)
end
def IQ{ys:Sk V}{D:Ends}{σ:St}(hn:xs.length=ys.length)(Pv:Nat->St->Hp->Prop)(h0:Pv 0 σ H)(hl:∀i σ H,i<=xs.length->Pv i σ H->SqT K H a xs/\SqT K H b ys)
  (hs:∀i x y σ H p,xs[i]? =some x->ys[i]? =some y->Pv i σ H->H p=none->g (.ref p) σ (upd H p (.tup [x,y])) λσ2 H2=>tb (eLp D (Pv (i+1))) σ2 H2) (hd:∀σ H,Pv xs.length σ H->D.nx σ H):
  ∃Wq:Nat->Nat->St->Hp->Prop,(∃m,Wq 0 m σ H)/\∀i m σ H,Wq i m σ H->
   ((ItzT K a b).stop i H/\D.nx σ H)\/((ItzT K a b).go i H/\∃N:St->Hp->Prop,(∀σ' H',N σ' H'->∃m',m'<m/\Wq (i+1) m' σ' H')/\∀x H',(ItzT K a b).yld i H x H'->g x σ H' λσ2 H2=>tb (eLp D (N)) σ2 H2):=by
 show{λi m σ H=>m=xs.length-i/\i<=xs.length/\Pv i σ H,{xs.length,7,AW _,h0},?_};rintro i m σ H ⟨rfl,hi,p⟩;have{qa,qb}:=hl i σ H hi p;by_cases Nb:i<xs.length
 .have ly:i<ys.length:=by lia
  show .inr {{xs,xs[i],ys,ys[i],qa,qb,by simp[Nb],by simp[ly]},Pv (i+1),λσ' H' p'=>{xs.length-(i+1),4,0,Nb,p'},λv H' z=>?_};have{x,y,pp,e1,e2,e3,e4,e5}:=z;subst e3 e5;show hs i x y σ H pp (e1 xs qa) (e2 ys qb) p e4
 .obtain rfl:i=xs.length:=by lia
  show .inl {{xs,qa,AB _},hd σ H p}
inductive tNotL_(K:W.Frag)(Q:VK)(x:V)(H1:Hp):Prop
 |mk p xs:x=.ref p->SqL K H1 p xs->Q (.bl xs.isEmpty) H1->tNotL_ K Q x H1
def IR(K:W.Frag)(ta:TE):TE:=λσ H Q=>ta σ H λx H1=>tNotL_ K Q x H1
def IS{a:Sl}{ta:TE}(ha:PE X a ta):PE X (.UnaryOp .Not a pos) (IR X.K ta):=by
 intro M6 s σ H Q I h;show UnaryOp_ (thn (ha M6 s σ H _ I h) λv s1 zu74=>?_);have{x,H1,I1,r1,q1}:=zu74;have{p,xs,0,hx,q}:=q1;cases r1;have{M9,r,pl,hz}:=I1.list hx;have Na:=r.length;have hn:=gp;show not_of (wpAny_truthy_list pl.isList (by simp only[AH];lia) {.bl xs.isEmpty,H1,I1.tok _,by rw[mW r,Bool.not_not];rfl,q})
end L2
local macro_rules | `(tactic| ac_rfl) => `(tactic| (intro _ _ _ _ h; cases h; subst_vars; rfl))
namespace Mine
open PySem L2 PyProof.Rows
variable{H H' H'' H2 H6:Hp}{K:W.Frag}{L d fi i j k n p w:Nat}{M7:Sk (Sk (Sk Int)×V)}{Nc Op lo m sg sp z:Int}{OY b c e ff hh ks ns row xs ys zs:Sk Int}{P:Sf}{Q:VK}{Qy rs vs ws:Sk V}{R:Sk (Sk (Sk Int)×Int)}{Wq:Sk Pt->Int}{X:Cx}{a acc f l l1 l2:Se}{e0 ps qs r:Sk Pt}{fd:Sg}{mg:Str->Sn PP}{o:HO}{st:So}{u v:V}{x:Sk Int×Int}
def top(i:Nat):So:=PySem.Challenge.pw_floorcurves_k70_shades_of_counts.main.body.getD i (.Pass {(0),(0),(0),(0)})
abbrev ow:So:=top 8
def IT:FnScope ["thing"] ["thing"] (al ow):=by and_intros
abbrev ox:So:=top 9
def IU:FnScope ["thing","least","greatest"] ["thing","least","greatest"] (al ox):=by and_intros
abbrev oy:So:=top 10
def IV:FnScope ["d","k"] ["d","k"] (al oy):=by and_intros
abbrev oz:So:=top 11
def IW:FnScope ["d","k"] ["d","k"] (al oz):=by and_intros
abbrev oA:So:=top 12
def IX:FnScope ["d"] ["d"] (al oA):=by and_intros
abbrev oB:So:=top 14
def lq:FnScope ["number","chosen","found","place"] ["number","chosen"] (al oB):=by and_intros
abbrev oC:So:=top 16
def wg:FnScope ["thing","number"] ["thing"] (al oC):=by and_intros
abbrev jH:So:=top 17
def wj:FnScope ["row"] ["row"] (al jH):=by and_intros
abbrev oD:So:=top 18
def IY:FnScope ["d","held","free"] ["d","held","free"] (al oD):=by and_intros
abbrev oE:So:=top 20
def wo:FnScope ["numbers","kept"] ["numbers"] (al oE):=by and_intros
abbrev oF:So:=top 21
def jI:FnScope ["one","other","total","numbers","place","number"] ["one","other"] (al oF):=by and_intros
abbrev oG:So:=top 22
def iw:FnScope ["one","other","total","place","number","further","factor"] ["one","other"] (al oG):=by and_intros
abbrev oH:So:=top 23
def IZ:FnScope ["numbers","place","more"] ["numbers","place","more"] (al oH):=by and_intros
abbrev oI:So:=top 24
def lu:FnScope ["numbers","product","number"] ["numbers"] (al oI):=by and_intros
abbrev oJ:So:=top 26
def I0:FnScope ["row","length"] ["row","length"] (al oJ):=by and_intros
abbrev lv:So:=top 27
def ix:FnScope ["row","found","number","longer","begun"] ["row"] (al lv):=by and_intros
abbrev oK:So:=top 28
def lw:FnScope ["row","weight","first","missing","found","place"] ["row","weight","first"] (al oK):=by and_intros
abbrev oM:So:=top 29
def jJ:FnScope ["row","chosen","product","number","part"] ["row","chosen"] (al oM):=by and_intros
abbrev oN:So:=top 30
def lx:FnScope ["row","fuller","found","place","number"] ["row","fuller"] (al oN):=by and_intros
abbrev oO:So:=top 31
def jK:FnScope ["d","k","held","free","found","place","number","lesser"] ["d","k","held","free"] (al oO):=by and_intros
abbrev oP:So:=top 32
def jL:FnScope ["d","k","held","free","found","kept","freed","lesser"] ["d","k","held","free"] (al oP):=by and_intros
abbrev oQ:So:=top 33
def jM:FnScope ["asked","d","k","held","free"] ["asked"] (al oQ):=by and_intros
abbrev oR:So:=top 34
def iy:FnScope ["asked","known","total","number","weights","lesser"] ["asked","known"] (al oR):=by and_intros
abbrev oS:So:=top 35
def I8:FnScope ["d","k","held","free"] ["d","k","held","free"] (al oS):=by and_intros
abbrev oT:So:=top 36
def I9:FnScope ["d","k","held","free"] ["d","k","held","free"] (al oT):=by and_intros
abbrev oU:So:=top 38
def jN:FnScope ["d","drawing","ends","i","j","w"] ["d","drawing"] (al oU):=by and_intros
abbrev oV:So:=top 39
def Ja:FnScope ["d","drawing"] ["d","drawing"] (al oV):=by and_intros
abbrev oW:So:=top 40
def Jb:FnScope ["lift"] ["lift"] (al oW):=by and_intros
abbrev oX:So:=top 41
def lA:FnScope ["d","floor","weight","spare","found","j","w"] ["d","floor","weight","spare"] (al oX):=by and_intros
abbrev oY:So:=top 42
def jO:FnScope ["lifts","weight","spare","found","place","lift","rest"] ["lifts","weight","spare"] (al oY):=by and_intros
abbrev jP:So:=top 43
def iz:FnScope ["d","floor","drawing","spare","there","found","lifts","ends","left"] ["d","floor","drawing","spare"] (al jP):=by and_intros
abbrev lB:So:=top 44
def gJ:FnScope ["d","k","begun","floor","longer","drawing","spare"] ["d","k"] (al lB):=by and_intros
abbrev oZ:So:=top 45
def lC:FnScope ["drawing","product","lift"] ["drawing"] (al oZ):=by and_intros
abbrev o0:So:=top 48
def Jc:FnScope ["d","drawing"] ["d","drawing"] (al o0):=by and_intros
abbrev o6:So:=top 49
def lD:FnScope ["d","drawing","found","place","number"] ["d","drawing"] (al o6):=by and_intros
abbrev o7:So:=top 50
def iA:FnScope ["numbers","first","last","alike","found","here","choices","fuller","others"] ["numbers","first","last","alike"] (al o7):=by and_intros
abbrev o8:So:=top 51
def fO:FnScope ["d","marks","known","mark","fuller","numbers","further","choices"] ["d","marks"] (al o8):=by and_intros
abbrev o9:So:=top 52
def Jd:FnScope ["d","drawing"] ["d","drawing"] (al o9):=by and_intros
abbrev lE:So:=top 53
def Je:FnScope ["d","k"] ["d","k"] (al lE):=by and_intros
abbrev ph:So:=top 55
def lF:FnScope ["low","numbers","kept","first"] ["low","numbers"] (al ph):=by and_intros
abbrev pi:So:=top 56
def wp:FnScope ["one","other","low"] ["one","other"] (al pi):=by and_intros
abbrev pq:So:=top 57
def Jf:FnScope ["one","other"] ["one","other"] (al pq):=by and_intros
abbrev pz:So:=top 58
def Jg:FnScope ["one"] ["one"] (al pz):=by and_intros
abbrev pA:So:=top 59
def Jh:FnScope ["one"] ["one"] (al pA):=by and_intros
abbrev lG:So:=top 60
def Ji:FnScope ["w"] ["w"] (al lG):=by and_intros
abbrev pB:So:=top 62
def lH:FnScope ["d","found","x","y"] ["d"] (al pB):=by and_intros
abbrev pC:So:=top 63
def Jj:FnScope ["d","point"] ["d","point"] (al pC):=by and_intros
abbrev pD:So:=top 64
def Jk:FnScope ["a","b","c"] ["a","b","c"] (al pD):=by and_intros
abbrev lI:So:=top 65
def Jl:FnScope ["d"] ["d"] (al lI):=by and_intros
abbrev jQ:So:=top 66
def wu:FnScope ["d","down"] ["d"] (al jQ):=by and_intros
abbrev pE:So:=top 70
def ww:FnScope ["way","side","place"] ["way","side"] (al pE):=by and_intros
abbrev pF:So:=top 71
def gK:FnScope ["d","way","side","place","a","b","c","found","facing"] ["d","way","side"] (al pF):=by and_intros
abbrev pG:So:=top 72
def Jm:FnScope ["piece"] ["piece"] (al pG):=by and_intros
abbrev lJ:So:=top 74
def wx:FnScope ["row","k","with_first"] ["row","k"] (al lJ):=by and_intros
abbrev lK:So:=top 75
def wy:FnScope ["d","k","row"] ["d","k"] (al lK):=by and_intros
abbrev pH:So:=top 76
def iB:FnScope ["d","way","side","known","key","total","piece","further"] ["d","way","side","known"] (al pH):=by and_intros
abbrev pI:So:=top 78
def Jn:FnScope ["d"] ["d"] (al pI):=by and_intros
abbrev pJ:So:=top 79
def Jo:FnScope ["d"] ["d"] (al pJ):=by and_intros
abbrev pK:So:=top 80
def iC:FnScope ["d","k","over","under","total","way"] ["d","k"] (al pK):=by and_intros
abbrev pM:So:=top 82
def Jp:FnScope ["number"] ["number"] (al pM):=by and_intros
abbrev pN:So:=top 83
def lL:FnScope ["weights","product","weight"] ["weights"] (al pN):=by and_intros
abbrev pO:So:=top 84
def iD:FnScope ["d","way","side","known","key","total","piece","further"] ["d","way","side","known"] (al pO):=by and_intros
abbrev pP:So:=top 85
def iE:FnScope ["d","k","over","under","total","way"] ["d","k"] (al pP):=by and_intros
abbrev lM:So:=top 86
def jR:FnScope ["d","k","total","drawing","weights"] ["d","k"] (al lM):=by and_intros
abbrev pQ:So:=top 87
def gL:FnScope ["asked","known","total","number","weights","lesser","factor"] ["asked","known"] (al pQ):=by and_intros
abbrev pR:So:=top 88
def Jq:FnScope ["d","k","held","free"] ["d","k","held","free"] (al pR):=by and_intros
abbrev pT:So:=top 90
def Jr:FnScope ["_law_script","_law_k"] ["_law_script","_law_k"] (al pT):=by and_intros
abbrev pU:So:=top 91
def jS:FnScope ["_law_script","_law_k","_law_cell","_law_one","_law_other"] ["_law_script","_law_k"] (al pU):=by and_intros
abbrev pV:So:=top 92
def jT:FnScope ["_law_found","_law_k","_law_d"] [] (al pV):=by and_intros
abbrev pW:So:=top 93
def fP:FnScope ["_law_d","_law_x","_law_rows_here","_law_left","_law_w","_law_row"] ["_law_d","_law_x"] (al pW):=by and_intros
abbrev pX:So:=top 94
def Js:FnScope ["_law_found"] ["_law_found"] (al pX):=by and_intros
abbrev pY:So:=top 95
def lN:FnScope ["_law_found","_law_count","_law_low","_law_numbers","_law_number_here"] ["_law_found","_law_count"] (al pY):=by and_intros
abbrev pZ:So:=top 96
def gM:FnScope ["_law_script","_law_d","_law_k","_law_held","_law_free","_law_found","_law_kept"] ["_law_script"] (al pZ):=by and_intros
set_option genInjectivity false
set_option genSizeOfSpec false
set_option genSizeOf false
structure Fg(K:W.Frag)(mg:Str->Sn PP)(n q:Str)(st:So)(ps:Sk Str)(f:Se)(d:Sg):Prop where
 F:Fun K q q st f d
 B:gq K d ps []
 m:mg n=some (.ref f)
abbrev Fb(K:PySem.W.Frag)(mg:Str->Sn PP)(n:Str)(st:So)(ps:Sk Str)(f:Se)(d:Sg)(q:Str:=n):Prop:=Fg K mg n q st ps f d
structure Fns(K:W.Frag)(mg:Str->Sn PP) where
 f0:Addr
 d0:FuncData
 f1:Addr
 d1:FuncData
 f2:Addr
 d2:FuncData
 f3:Addr
 d3:FuncData
 f4:Addr
 d4:FuncData
 f5:Addr
 d5:FuncData
 f6:Addr
 d6:FuncData
 f7:Addr
 d7:FuncData
 f8:Addr
 d8:FuncData
 f9:Addr
 d9:FuncData
 f10:Addr
 d10:FuncData
 f11:Addr
 d11:FuncData
 f12:Addr
 d12:FuncData
 f13:Addr
 d13:FuncData
 f14:Addr
 d14:FuncData
 f15:Addr
 d15:FuncData
 f16:Addr
 d16:FuncData
 f17:Addr
 d17:FuncData
 f18:Addr
 d18:FuncData
 f19:Addr
 d19:FuncData
 f20:Addr
 d20:FuncData
 f21:Addr
 d21:FuncData
 f22:Addr
 d22:FuncData
 f23:Addr
 d23:FuncData
 f24:Addr
 d24:FuncData
 f25:Addr
 d25:FuncData
 f26:Addr
 d26:FuncData
 f27:Addr
 d27:FuncData
 f28:Addr
 d28:FuncData
 f29:Addr
 d29:FuncData
 f30:Addr
 d30:FuncData
 f31:Addr
 d31:FuncData
 f32:Addr
 d32:FuncData
 f33:Addr
 d33:FuncData
 f34:Addr
 d34:FuncData
 f35:Addr
 d35:FuncData
 f36:Addr
 d36:FuncData
 f37:Addr
 d37:FuncData
 f38:Addr
 d38:FuncData
 f39:Addr
 d39:FuncData
 f40:Addr
 d40:FuncData
 f41:Addr
 d41:FuncData
 f42:Addr
 d42:FuncData
 f43:Addr
 d43:FuncData
 f44:Addr
 d44:FuncData
 f45:Addr
 d45:FuncData
 f46:Addr
 d46:FuncData
 f47:Addr
 d47:FuncData
 f48:Addr
 d48:FuncData
 f49:Addr
 d49:FuncData
 f50:Addr
 d50:FuncData
 f51:Addr
 d51:FuncData
 f52:Addr
 d52:FuncData
 f53:Addr
 d53:FuncData
 f54:Addr
 d54:FuncData
 f55:Addr
 d55:FuncData
 f56:Addr
 d56:FuncData
 f57:Addr
 d57:FuncData
 f58:Addr
 d58:FuncData
 f59:Addr
 d59:FuncData
 f60:Addr
 d60:FuncData
 f61:Addr
 d61:FuncData
 f62:Addr
 d62:FuncData
 f63:Addr
 d63:FuncData
 f64:Addr
 d64:FuncData
 f65:Addr
 d65:FuncData
 f66:Addr
 d66:FuncData
 f67:Addr
 d67:FuncData
 f68:Addr
 d68:FuncData
 f69:Addr
 d69:FuncData
 f70:Addr
 d70:FuncData
 f71:Addr
 d71:FuncData
 f72:Addr
 d72:FuncData
 X0:Fb K mg "is_whole" ow ["thing"] f0 d0
 X1:Fb K mg "need_between" ox ["thing","least","greatest"] f1 d1
 X2:Fb K mg "need_narrow" oy ["d","k"] f2 d2
 X3:Fb K mg "need_wide" oz ["d","k"] f3 d3
 X4:Fb K mg "need_degree" oA ["d"] f4 d4
 X5:Fb K mg "choose" oB ["number","chosen"] f5 d5
 X6:Fb K mg "is_row" oC ["thing"] f6 d6
 X7:Fb K mg "row_weight" jH ["row"] f7 d7
 X8:Fb K mg "need_rows" oD ["d","held","free"] f8 d8
 X9:Fb K mg "without_last_noughts" oE ["numbers"] f9 d9
 X10:Fb K mg "sum_by_place" oF ["one","other"] f10 d10
 X11:Fb K mg "product_by_place" oG ["one","other"] f11 d11
 X12:Fb K mg "with_more" oH ["numbers","place","more"] f12 d12
 X13:Fb K mg "product_of" oI ["numbers"] f13 d13
 X14:Fb K mg "filled_up" oJ ["row","length"] f14 d14
 X15:Fb K mg "rows_within" lv ["row"] f15 d15
 X16:Fb K mg "rows_beyond" oK ["row","weight","first"] f16 d16
 X17:Fb K mg "choices" oM ["row","chosen"] f17 d17
 X18:Fb K mg "weights_gained" oN ["row","fuller"] f18 d18
 X19:Fb K mg "with_one_held" oO ["d","k","held","free"] f19 d19
 X20:Fb K mg "with_one_degree_fewer" oP ["d","k","held","free"] f20 d20
 X21:Fb K mg "summands" oQ ["asked"] f21 d21
 X22:Fb K mg "counted" oR ["asked","known"] f22 d22
 X23:Fb K mg "asked_of" oS ["d","k","held","free"] f23 d23
 X24:Fb K mg "by_ends" oT ["d","k","held","free"] f24 d24
 X25:Fb K mg "ends_at" oU ["d","drawing"] f25 d25
 X26:Fb K mg "sound" oV ["d","drawing"] f26 d26
 X27:Fb K mg "lost" oW ["lift"] f27 d27
 X28:Fb K mg "lifts_from" oX ["d","floor","weight","spare"] f28 d28
 X29:Fb K mg "leaving" oY ["lifts","weight","spare"] f29 d29
 X30:Fb K mg "with_floor" jP ["d","floor","drawing","spare"] f30 d30
 X31:Fb K mg "drawings" lB ["d","k"] f31 d31
 X32:Fb K mg "worth_floors" oZ ["drawing"] f32 d32 "worth"
 X33:Fb K mg "need_sound" o0 ["d","drawing"] f33 d33
 X34:Fb K mg "end_marks" o6 ["d","drawing"] f34 d34
 X35:Fb K mg "put_between" o7 ["numbers","first","last","alike"] f35 d35
 X36:Fb K mg "how_many_orders" o8 ["d","marks"] f36 d36
 X37:Fb K mg "how_many" o9 ["d","drawing"] f37 d37
 X38:Fb K mg "count_by_floors" lE ["d","k"] f38 d38
 X39:Fb K mg "shade" ph ["low","numbers"] f39 d39
 X40:Fb K mg "added" pi ["one","other"] f40 d40
 X41:Fb K mg "mixed" pq ["one","other"] f41 d41
 X42:Fb K mg "turned" pz ["one"] f42 d42
 X43:Fb K mg "at_one" pA ["one"] f43 d43
 X44:Fb K mg "stretch" lG ["w"] f44 d44
 X45:Fb K mg "points" pB ["d"] f45 d45
 X46:Fb K mg "is_point" pC ["d","point"] f46 d46
 X47:Fb K mg "corner" pD ["a","b","c"] f47 d47
 X48:Fb K mg "upper_edge" lI ["d"] f48 d48
 X49:Fb K mg "lower_edge" jQ ["d"] f49 d49
 X50:Fb K mg "first_turn" pE ["way","side"] f50 d50
 X51:Fb K mg "steps" pF ["d","way","side"] f51 d51
 X52:Fb K mg "piece_worth" pG ["piece"] f52 d52
 X53:Fb K mg "leaving_out" lJ ["row","k"] f53 d53
 X54:Fb K mg "ways" lK ["d","k"] f54 d54
 X55:Fb K mg "worth_ways" pH ["d","way","side","known"] f55 d55 "worth"
 X56:Fb K mg "known_above" pI ["d"] f56 d56
 X57:Fb K mg "known_below" pJ ["d"] f57 d57
 X58:Fb K mg "count_by_ways" pK ["d","k"] f58 d58
 X59:Fb K mg "of_number" pM ["number"] f59 d59
 X60:Fb K mg "stretched" pN ["weights"] f60 d60
 X61:Fb K mg "way_shade" pO ["d","way","side","known"] f61 d61
 X62:Fb K mg "shade_by_ways" pP ["d","k"] f62 d62
 X63:Fb K mg "shade_by_floors" lM ["d","k"] f63 d63
 X64:Fb K mg "ends_shade" pQ ["asked","known"] f64 d64
 X65:Fb K mg "shade_by_ends" pR ["d","k","held","free"] f65 d65
 X66:Fb K mg "_law_cell_at" pT ["_law_script","_law_k"] f66 d66
 X67:Fb K mg "_law_number" pU ["_law_script","_law_k"] f67 d67
 X68:Fb K mg "_law_pairs" pV [] f68 d68
 X69:Fb K mg "_law_rows" pW ["_law_d","_law_x"] f69 d69
 X70:Fb K mg "_law_whole" pX ["_law_found"] f70 d70
 X71:Fb K mg "_law_right" pY ["_law_found","_law_count"] f71 d71
 X72:Fb K mg "law" pZ ["_law_script"] f72 d72
 n_isinstance:mg "isinstance"=none
 n_int:mg "int"=none
 n_bool:mg "bool"=none
 n_range:mg "range"=none
 n_list:mg "list"=none
 n_sum:mg "sum"=none
 n_enumerate:mg "enumerate"=none
 n_max:mg "max"=none
 n_len:mg "len"=none
 n_tuple:mg "tuple"=none
 n_min:mg "min"=none
 n_zip:mg "zip"=none
 n_sorted:mg "sorted"=none
 n_set:mg "set"=none
 n_reversed:mg "reversed"=none
 n_abs:mg "abs"=none
 k_LEFT:Tok
 m_LEFT:mg "LEFT"=some (.int (1) k_LEFT)
 k_RIGHT:Tok
 m_RIGHT:mg "RIGHT"=some (.int (-1) k_RIGHT)
 a_NARROW:Addr
 m_NARROW:mg "NARROW"=some (.ref a_NARROW)
 D_NARROW:ii K a_NARROW [(1,6),(2,6),(3,6),(4,2)]=true
 a_WIDE:Addr
 m_WIDE:mg "WIDE"=some (.ref a_WIDE)
 D_WIDE:ii K a_WIDE [(1,6),(2,6),(3,6),(4,6),(5,3)]=true
 c_NoBound:Addr
 m_NoBound:mg "NoBound"=some (.ref c_NoBound)
 c_NoEnds:Addr
 m_NoEnds:mg "NoEnds"=some (.ref c_NoEnds)
 c_NoDrawing:Addr
 m_NoDrawing:mg "NoDrawing"=some (.ref c_NoDrawing)
 x_NoBound:W.excIn K c_NoBound bmV "ValueError.__new__"=true
 X_NoBound:XC K c_NoBound
 x_NoEnds:W.excIn K c_NoEnds bmV "ValueError.__new__"=true
 X_NoEnds:XC K c_NoEnds
 x_NoDrawing:W.excIn K c_NoDrawing bmV "ValueError.__new__"=true
 X_NoDrawing:XC K c_NoDrawing
theorem pcq{x q:Str}{ps:Sk Str}{sp:Sp}{e:Sl}{es:Sk Sl}{t:TA}{p pos:Pos}(F:FnOk X.prog X.w X.K X.mg X.base CX0 k f fd ps sp)(hr:Room n X.A)(B:Fg X.K X.mg x q st ps f fd)(ha:PA X (e::es) t)(hk:k<=n:=by decide)(hg:Gl X x:=by rfl)(PH:(x==("__debug__":Str))=false:=by decide)(he:starEach (e::es) X.env=(false,eval e X.env)::starEach es X.env:=by rfl)(Po:(backTo pos (starEach es X.env)).any (·.1)=false:=by rfl):PE X (.Call (.Name x p) (e::es) [] pos) (mZ sp [] E0 t):=ee F (hr.mono hk) hg B.m B.F.kp B.B .nil dM ha PH he Po
theorem pSA{x:Str}{e:Sl}{te:TE}{pos Nq:Pos}(hN:X.N.Nodup)(he:PE X e te)(hi:X.N[i]? =some x:=by rfl)(hx:Loc X.env.scope x:=by trivial)(hs:swapsWith e (some (.Name x Nq)) pos.line X.env=pure false:=by rfl)(hf:X.fn x=true\/X.env.scope.names.lookup x=some .local:=by trivial):PS X (.Assign [.Name x Nq] e pos) (ja te (cw i)):=Ei hN hi hx he hs hf
theorem pGA{x:Str}{pos:Pos}(hN:X.N.Nodup)(hi:X.N[i]? =some x:=by rfl)(hx:Loc X.env.scope x:=by trivial)(hf:X.fn x=true\/X.env.scope.names.lookup x=some .local:=by trivial):PG X (.Name x pos) (cw i):=bZ hN hi hx hf
def zB(h:Nat.ble n sizeLine=true):n<=sizeLine:=Nat.le_of_ble_eq_true h
theorem FbO{w:Si}{base:Sm}{x q:Str}{N ps:Sk Str}{sp:Sp}(B:Fg K mg x q st ps f fd)(S:FnScope N ps (al st))(OJ:∀(Nu:PP) (A:Sj) (outer:Sk Env) (s:Sc) (H:Hp) (vs:Sk V) (Q:VK) (E:XK),Room k (A.deeper (envOfC q (al st) s.heap.objs.size f Nu))->sp vs H Q E->∃t,PSs (gr CX0 P w K mg base N q (al st) f Nu A outer s H E).nox (dy st) t/\t {nx:=λ_ H'=>Q .non H',rt:=Q} (start N vs) H)(len:∀vs H Q E,sp vs H Q E->vs.length=ps.length:=by ac_rfl):FnOk P w K mg base CX0 (k+1) f fd ps sp:=B.F.ok S len OJ
abbrev OKQ{K:PySem.W.Frag}{mg:Str->Sn PP}{n q:Str}{st:So}{ps:Sk Str}{f:Se}{d:Sg}(_:Fg K mg n q st ps f d)(P:Sf)(w:Si)(base:Sm)(k:Nat)(sp:Sp):Prop:=FnOk P w K mg base CX0 k f d ps sp
def bC{α:Type}{f:α->D}{L:Sk α}(h:Iss H (L.map f) vs)(hi:vs[i]? =some v):∃x,L[i]? =some x/\Is H (f x) v:=by
 have⟨d,hd,h⟩:=h.of_get hi;rw[AC] at hd;have{x,hx,0}:=A'.mp hd;show{x,hx,h}
abbrev Lf:=Int×Int×Int
def dh(e:Sk Int)(p:Lf):Sk Int:=(e.set (p.1-1).toNat (e.getD (p.1-1).toNat 0-p.2.2)).set (p.2.1-1).toNat ((e.set (p.1-1).toNat (e.getD (p.1-1).toNat 0-p.2.2)).getD (p.2.1-1).toNat 0+p.2.2)
def bG(n:Nat)(ps:Sk Lf):Sk Int:=ps.foldl dh (List.replicate n 1)
def gN(ps:Sk Lf)(f:Int):Int:=((ps.filter λp=>decide (p.2.1=f)).map (·.2.2)).sum
def gO(ps:Sk Lf)(f:Int):Int:=((ps.filter λp=>decide (p.1=f)).map (·.2.2)).sum
def Okl(n:Nat)(p:Lf):Prop:=1<=p.1/\p.1<=n/\1<=p.2.1/\p.2.1<=n
def p6{l:Sk Int}{v:Int}(h:i<l.length):(l.set i v).getD j 0=if i=j then v else l.getD j 0:=by
 rw[List.getD,List.getElem?_set];by_cases e:i=j
 .subst e;rw[A8 rfl,A8 rfl,A8 h];rfl
 .rw[A6 e,A6 e];rfl
def Jt{p:Lf}:(dh e p).length=e.length:=by unfold dh;rw[C1,C1]
def Ju{p:Lf}(he:e.length=n)(hp:Okl n p)(i:Nat):(dh e p).getD i 0=e.getD i 0+(if p.2.1=1+(i:Int) then p.2.2 else 0)-(if p.1=1+(i:Int) then p.2.2 else 0):=by
 have{h1,h2,h3,h4}:=hp;unfold dh;have a1:(p.1-1).toNat<e.length:=by lia
 rw[p6 (by rw[C1];lia),p6 a1];by_cases c1:(p.2.1-1).toNat=i
 .have d1:p.2.1=1+(i:Int):=by lia
  rw[A8 c1,A8 d1,c1];by_cases c2:(p.1-1).toNat=i
  .have d2:p.1=1+(i:Int):=by lia
   rw[A8 c2,A8 d2,c2];lia
  .have d2:¬p.1=1+(i:Int):=by lia
   rw[A6 c2,A6 d2];lia
 .have d1:¬p.2.1=1+(i:Int):=by lia
  rw[A6 c1,A6 d1,p6 a1];by_cases c2:(p.1-1).toNat=i
  .have d2:p.1=1+(i:Int):=by lia
   rw[A8 c2,A8 d2,c2];lia
  .have d2:¬p.1=1+(i:Int):=by lia
   rw[A6 c2,A6 d2];lia
def Jv(p:Lf)(ps:Sk Lf)(f:Int):gN (p::ps) f=(if p.2.1=f then p.2.2 else 0)+gN ps f:=by
 unfold gN;rw[List.filter_cons];by_cases h:p.2.1=f<;>simp[h]
def Jw(p:Lf)(ps:Sk Lf)(f:Int):gO (p::ps) f=(if p.1=f then p.2.2 else 0)+gO ps f:=by
 unfold gO;rw[List.filter_cons];by_cases h:p.1=f<;>simp[h]
theorem lO{n:Nat}:∀(ps:Sk Lf) (e:Sk Int),e.length=n->(∀p∈ps,Okl n p)->(ps.foldl dh e).length=n/\∀i:Nat,(ps.foldl dh e).getD i 0=e.getD i 0+gN ps (1+(i:Int))-gO ps (1+(i:Int))
 |[],e,he,_=>{he,λi=>by simp[gN,gO]}
 |p::ps,e,he,h=>by
  rw[BY];have{h1,h2}:=lO ps (dh e p) (by rw[Jt];show he) λq hq=>h q (by simp[hq]);show{h1,λi=>?_};rw[h2 i,Ju he (h p (by simp)) i,Jv,Jw];lia
theorem lP(n:Nat)(ps:Sk Lf)(h:∀p∈ps,Okl n p):(bG n ps).length=n:=(lO ps _ (by simp) h).1
def back(xs:Sk Int):Lf:=(xs.getD 0 0,xs.getD 1 0,xs.getD 2 0)
def bT(p:Lf):Sk Int:=[p.1,p.2.1,p.2.2]
def wz(p:Lf):back (bT p)=p:=rfl
def p7(h:i<ks.length):(ks.map V.int)[i]? =some (.int (ks.getD i 0)):=by rw[AC,A2 h];simp[List.getD,h]
def map_set{l:Sk Int}{i:Nat}{v:Int}:(l.set i v).map V.int=(l.map V.int).set i (.int v):=by rw[List.map_set]
def lf(p:Lf):D:=tI (bT p)
def lfs(ps:Sk Lf):D:= .l (ps.map lf)
def fQ{p:Lf}(h:Is H (lf p) v):∃a,v=.ref a/\H a=some (.tup [.int p.1,.int p.2.1,.int p.2.2]):=bK h
def jU{p:Lf}(h:H a=some (.tup [.int p.1,.int p.2.1,.int p.2.2])):Is H (lf p) (.ref a):=eD (xs:=bT p) h
def wA(ps:Sk Lf):lfs ps=.l ((ps.map bT).map tI):=by unfold lfs;rw[BN];rfl
def aE(H H':Hp):Prop:=∀a xs,H a=some (.tup xs)->H' a=some (.tup xs)
def aE.of_same(s:ae H H'):aE H H':=λa xs e=>s _ _ e
def aE.trans(s:aE H H')(t:aE H' H''):aE H H'':=λa xs e=>t _ _ (s _ _ e)
theorem aE.upd{H:Hp}{b:Se}{zs ys:Sk V}(hb:H b=some (.lst zs)):aE H (L2.upd H b (.lst ys)):=λa xs e=>by
 rw[av (by rintro rfl;rw[hb] at e;cases e)];show e
theorem lQ{H H':Hp}(t:aE H H'):∀{ps:Sk Lf}{vs:Sk V},Iss H (ps.map lf) vs->Iss H' (ps.map lf) vs
 |[],_,h=>by rw[bm h];show ax
 |p::ps,_,h=>by
  have{u,us,0,h1,h2}:=aM h;have{a,0,ha}:=fQ h1;show ap (jU (t _ _ ha)) (lQ t h2)
def bD(p q:Lf):Bool:=if p.1=q.1 then(if p.2.1=q.2.1 then decide (p.2.2<q.2.2) else decide (p.2.1<q.2.1)) else decide (p.1<q.1)
def gP:Sk Lf->Sk Lf->Bool
 |_,[]=>false
 |[],_::_=>true
 |x::xs,y::ys=>if x=y then gP xs ys else bD x y
def wB{p q:Lf}{w:V}(h:Is H (lf p) v)(k:Is H (lf q) w):EqR K H 1 v w (decide (p=q)):=by
 have e:=h.eqr (K:=K) (n:=1) (by simp[lf,tI,bT,dep,cK]) (by simp[lf,tI,bT,Kin,cm]) k;have:eqD (lf p) (lf q)=decide (p=q):=by
  have{a,b,c}:=p;have{d,e,f}:=q;simp[lf,tI,bT,eqD,cV,Bool.and_assoc]
 rwa [this] at e
def Jx{p q:Lf}{w:V}(h:Is H (lf p) v)(k:Is H (lf q) w):LtR K H 1 v w (bD p q):=by
 have{a,0,ha}:=fQ h;have{b,0,hb}:=fQ k;have e:=LtR.tuples (K:=K) (H:=H) (d:=0) (a:=a) (b:=b) (λj=>if j=0 then decide (p.1=q.1) else if j=1 then decide (p.2.1=q.2.1) else decide (p.2.2=q.2.2)) (λj=>if j=0 then decide (p.1<q.1) else if j=1 then decide (p.2.1<q.2.1) else decide (p.2.2<q.2.2)) (SqT.of ha) (SqT.of hb) (λj x y hx hy=>?_) (λj x y hx hy _=>?_)
 .have e2:SeqAt.lex (λj=>if j=0 then decide (p.1=q.1) else if j=1 then decide (p.2.1=q.2.1) else decide (p.2.2=q.2.2)) (λj=>if j=0 then decide (p.1<q.1) else if j=1 then decide (p.2.1<q.2.1) else decide (p.2.2<q.2.2)) 3 3 3 0=bD p q:=by
   unfold bD;by_cases e0:p.1=q.1
   .by_cases e1:p.2.1=q.2.1
    .by_cases e2:p.2.2=q.2.2
     .simp[SeqAt.lex,e0,e1,e2]
     .simp[SeqAt.lex,e0,e1,e2]
    .simp[SeqAt.lex,e0,e1]
   .simp[SeqAt.lex,e0]
  show e2▸e
 .match j,hx,hy with
  |0,hx,hy=>cases hx;cases hy;show EqR.int 0 _ _
  |1,hx,hy=>cases hx;cases hy;show EqR.int 0 _ _
  |2,hx,hy=>cases hx;cases hy;show EqR.int 0 _ _
  |j+3,hx,_=>simp at hx
 .match j,hx,hy with
  |0,hx,hy=>cases hx;cases hy;show LtR.int 0 _ _
  |1,hx,hy=>cases hx;cases hy;show LtR.int 0 _ _
  |2,hx,hy=>cases hx;cases hy;show LtR.int 0 _ _
  |j+3,hx,_=>simp at hx
theorem wC(p q:Sk Lf):∀(k i:Nat),min p.length q.length-i=k->i<=min p.length q.length->SeqAt.lex (λj=>decide (p.getD j (0,0,0)=q.getD j (0,0,0))) (λj=>bD (p.getD j (0,0,0)) (q.getD j (0,0,0))) p.length q.length k i=gP (p.drop i) (q.drop i)
 |0,i,hk,hi=>by
  rw[SeqAt.lex];rcases(by lia:q.length=i\/(p.length=i/\i<q.length)) with e|⟨e,e2⟩
  .rw[CN (l:=q) (by lia)];have:¬p.length<q.length:=by lia
   cases p.drop i<;>simp[gP,this]
  .rw[CN (l:=p) (by lia),As e2];have:p.length<q.length:=by lia
   simp[gP,this]
 |k+1,i,hk,hi=>by
  have h1:i<p.length:=by lia
  have h2:i<q.length:=by lia
  have g1:p.getD i (0,0,0)=p[i]:=by simp[List.getD,h1]
  have g2:q.getD i (0,0,0)=q[i]:=by simp[List.getD,h2]
  rw[SeqAt.lex,As h1,As h2,gP,g1,g2];by_cases e:p[i]=q[i]
  .rw[A8 (Ay e),A8 e];show wC p q k (i+1) (by lia) (by lia)
  .rw[A6 (by simpa using e),A6 e]
def Jy{p q:Sk Lf}(h:Iss H (p.map lf) vs)(k:Iss H (q.map lf) ws):
  (∀(j:Nat) x y,vs[j]? =some x->ws[j]? =some y->EqR K H 1 x y (decide (p.getD j (0,0,0)=q.getD j (0,0,0))))/\(∀(j:Nat) x y,vs[j]? =some x->ws[j]? =some y->decide (p.getD j (0,0,0)=q.getD j (0,0,0))=false->LtR K H 1 x y (bD (p.getD j (0,0,0)) (q.getD j (0,0,0)))):=by
 have go:∀(j:Nat) x y,vs[j]? =some x->ws[j]? =some y->Is H (lf (p.getD j (0,0,0))) x/\Is H (lf (q.getD j (0,0,0))) y:=λj x y hx hy=>by
  have{d,hd,h1}:=h.of_get hx;have{e,he,h2}:=k.of_get hy;rw[AC] at hd he;have{d',Pf,0}:=A'.mp hd;have{e',Qu,0}:=A'.mp he;rw[List.getD,Pf,List.getD,Qu];show{h1,h2}
 show{λj x y hx hy=>wB (go j x y hx hy).1 (go j x y hx hy).2,λj x y hx hy _=>Jx (go j x y hx hy).1 (go j x y hx hy).2}
def Jz{p q:Sk Lf}{w:V}(h:Is H (lfs p) v)(k:Is H (lfs q) w):Ask K H v w (gP p q):=by
 have{a,vs,0,ha,h}:=aD h;have{b,ws,0,hb,k}:=aD k;have{e1,e2}:=Jy (K:=K) h k;show{a,b,vs,ws,(1),2,SqL.of ha,SqL.of hb,5,e1,e2,?_};rw[h.length,k.length,A1,A1,wC p q _ 0 (Nat.sub_zero _) (AW _),Dg,Dg]
def nw(H0 H:Hp):Hp:=λb=>match H0 b with|some (.lst _)=>none|_=>H b
theorem bM{H0:Hp}:ae (nw H0 H) H:=λb o e=>by
 unfold nw at e;split at e
 .cases e
 .show e
theorem fR{H0:Hp}(s:ae H H'):ae (nw H0 H) (nw H0 H'):=λb o e=>by
 unfold nw at e⊢;split at e
 .cases e
 .show s _ _ e
theorem p8{H0 H1:Hp}(s:ae H0 H1):ae (nw H1 H) (nw H0 H):=λb o e=>by
 unfold nw at e⊢;split at e
 .cases e
 .rename_i h;split
  .rename_i xs h0;show absurd (s _ _ h0) (h xs)
  .show e
theorem lR{H0 H1:Hp}{xs:Sk V}(s:ae H0 H1)(ha:H1 a=some (.lst xs)):ae (nw H1 H) (hid (nw H0 H) a):=λb o e=>by
 have hb:b≠a:=by
  rintro rfl;unfold nw at e;rw[ha] at e;cases e
 rw[eC hb];show p8 s b o e
def cN{H0:Hp}(h:H0 a=none):nw H0 H a=H a:=by unfold nw;rw[h]
def lS{H0:Hp}{xs:Sk V}(s:ae H0 H)(h:H a=some (.tup xs)):nw H0 H a=some (.tup xs):=by
 unfold nw;split
 .rename_i ys e;rw[s _ _ e] at h;cases h
 .show h
def JA{H0:Hp}{ps:Sk Lf}(s:ae H0 H)(h:Iss H (ps.map lf) vs):Iss (nw H0 H) (ps.map lf) vs:=lQ (λa xs e=>lS s e) h
def wD{H0:Hp}{ps:Sk Lf}(s:ae H0 H)(n:H0 a=none)(h:Is H (lfs ps) (.ref a)):Is (nw H0 H) (lfs ps) (.ref a):=by
 have{_,vs,e,ha,hi}:=aD h;cases e;show aA (by rw[cN n];show ha) (JA s hi)
def Acc(H0 H:Hp)(a:Se)(xs:Sk D):Prop:=∃vs,H a=some (.lst vs)/\Iss (hid (nw H0 H) a) xs vs
def Acc.start{H0:Hp}(h:H a=some (.lst [])):Acc H0 H a []:={[],h,ax}
def Acc.mono{H0 H H':Hp}{a:Se}{xs:Sk D}(s:ae H H')(g:Acc H0 H a xs):Acc H0 H' a xs:=by have{vs,e,h}:=g;show{vs,s _ _ e,h.mono (dQ (fR s))}
def wE{H0:Hp}:hid (nw H0 (upd H a o)) a=hid (nw H0 H) a:=by
 funext b
 unfold hid;split
 .rfl
 .rename_i h;unfold nw;rw[av h]
theorem Acc.add{H0 H1:Hp}{xs:Sk D}{x:D}(s01:ae H0 H1)(Qj:ae H1 H2)(ha:H1 a=some (.lst vs))(h:Iss (hid (nw H0 H1) a) xs vs)(k:Is (nw H1 H2) x v):Acc H0 (upd H2 a (.lst (vs++[v]))) a (xs++[x]):=
 {vs++[v],ak,by rw[wE];show(h.mono (dQ (fR Qj))).append (ap (k.mono (lR s01 ha)) ax)}
theorem Acc.adds{H0 H1:Hp}{xs ys:Sk D}{us:Sk V}(s01:ae H0 H1)(Qj:ae H1 H2)(ha:H1 a=some (.lst vs))(h:Iss (hid (nw H0 H1) a) xs vs)(k:Iss (nw H1 H2) ys us):Acc H0 (upd H2 a (.lst (vs++us))) a (xs++ys):=
 {vs++us,ak,by rw[wE];show(h.mono (dQ (fR Qj))).append (k.mono (lR s01 ha))}
def Acc.is{H0:Hp}{xs:Sk D}(n:H0 a=none)(g:Acc H0 H a xs):Is (nw H0 H) (.l xs) (.ref a):=by have{_,e,h}:=g;show aA (by rw[cN n];show e) (h.mono tX)
def cb(p:Lf):Int:=(p.2.1-p.1)*p.2.2-1
def eO(f j:Int)(n:Nat)(sp:Int):Sk Lf:=((List.range n).map λw:Nat=>((f,j,1+(w:Int)):Lf)).filter λp=>decide (cb p<=sp)
def di(f:Int)(m n:Nat)(sp:Int):Sk Lf:=(List.range m).flatMap λi:Nat=>eO f (f+1+(i:Int)) n sp
def cB:Nat->Sk Lf->Int->Int->Sk (Sk Lf)
 |0,_,_,_=>[[]]
 |n+1,ls,wt,sp=>[[]]++(List.range ls.length).flatMap λi=>match ls[i]? with
  |none=>[]
  |some p=>if p.2.2<=wt/\cb p<=sp then(cB n (ls.drop i) (wt-p.2.2) (sp-cb p)).map (p:: ·) else []
def dj(n:Nat)(ls:Sk Lf)(wt sp:Int)(i:Nat):Sk (Sk Lf):=match ls[i]? with
  |none=>[]
  |some p=>if p.2.2<=wt/\cb p<=sp then(cB n (ls.drop i) (wt-p.2.2) (sp-cb p)).map (p:: ·) else []
def p9(n:Nat)(ls:Sk Lf)(wt sp:Int):cB (n+1) ls wt sp=[[]]++(List.range ls.length).flatMap (dj n ls wt sp):=rfl
def thF(d f:Nat)(ps:Sk Lf):Int:=(bG d ps).getD (f-1) 0
def fw(d f:Nat)(th sp:Int)(ls:Sk Lf):Int:=sp-(ls.map cb).sum-(th-(ls.map (·.2.2)).sum)*((d:Int)-(f:Int))
def gQ(d f:Nat)(th sp:Int):Sk (Sk Lf):=cB 8 (di f (d-f) th.toNat sp) th sp
def dS(d f:Nat)(ps:Sk Lf)(sp:Int):Sk (Sk Lf×Int):=((gQ d f (thF d f ps) sp).filter λls=>decide (0<=fw d f (thF d f ps) sp ls)).map λls=>(ps++ls,fw d f (thF d f ps) sp ls)
def bO(d:Nat)(k:Int):Nat->Sk (Sk Lf×Int)
 |0=>[([],k)]
 |f+1=>(bO d k f).flatMap λx=>dS d (f+1) x.1 x.2
def cc(d k:Nat):Sk (Sk Lf):=((bO d k d).filter λx=>decide (x.2=0)).map (·.1)
def jV(d:Nat)(p:Lf):Bool:=decide (1<=p.1)&&decide (p.1<p.2.1)&&decide (p.2.1<=d)&&decide (1<=p.2.2)&&decide (p.2.2<=8)
def stB(d f:Nat)(x:Sk Lf×Int):Bool:=x.1.all (jV d)&&decide (x.1.length<=20)&&decide (0<=thF d (f+1) x.1)&&decide (thF d (f+1) x.1<8)&&decide (0<=x.2)&&decide (x.2<=6)&&decide ((gQ d (f+1) (thF d (f+1) x.1) x.2).length<=200)
def okB(d k:Nat):Bool:=(List.range d).all (λf=>(bO d k f).all (stB d f)&&decide ((bO d k (f+1)).length<=900))&&(bO d k d).all λx=>decide (x.1.length<=20)
def Wide(d k:Nat):Prop:=1<=d/\((d<=4/\k<=6)\/(d=5/\k<=3))
def wG(f j:Int)(n:Nat)(sp:Int):eO f j (n+1) sp=eO f j n sp++(if cb (f,j,1+(n:Int))<=sp then [(f,j,1+(n:Int))] else []):=by
 unfold eO;rw[Aw,A7,Cr];by_cases h:cb (f,j,1+(n:Int))<=sp<;>simp[h]
def wH(f:Int)(m n:Nat)(sp:Int):di f (m+1) n sp=di f m n sp++eO f (f+1+(m:Int)) n sp:=by
 unfold di;rw[Aw,BH];simp
def wI(f j:Int)(n:Nat)(sp:Int):(eO f j n sp).length<=n:=by
 unfold eO;show BG (List.length_filter_le _ _) (by simp)
theorem qc(f:Int)(n:Nat)(sp:Int):∀m,(di f m n sp).length<=m*n
 |0=>by simp[di]
 |m+1=>by
  rw[wH,AD,Cf];have:=qc f n sp m;have:=wI f (f+1+(m:Int)) n sp;lia
def qe{f:Int}{m:Nat}{p:Lf}(h:p∈di f m n sp):p.1=f/\f<p.2.1/\p.2.1<=f+m/\1<=p.2.2/\p.2.2<=n:=by
 unfold di eO at h;simp only[B9,AY,DU,Ae] at h;have{i,hi,{w,hw,0},_}:=h;show{0,?_,?_,?_,?_}
 .change f<f+1+(i:Int);lia
 .change f+1+(i:Int)<=f+m;lia
 .change 1<=1+(w:Int);lia
 .change 1+(w:Int)<=n;lia
def iF{α:Type}(g:Nat->Sk α)(i:Nat):(List.range (i+1)).flatMap g=(List.range i).flatMap g++g i:=by
 rw[Aw,BH];simp
theorem lT{α:Type}(g:Nat->Sk α):∀{m i:Nat},i<m->((List.range i).flatMap g).length+(g i).length<=((List.range m).flatMap g).length
 |0,i,h=>absurd h (by lia)
 |m+1,i,h=>by
  rw[iF,AD];by_cases e:i=m
  .rw[e];show AB _
  .have:=lT g (m:=m) (i:=i) (by lia);lia
def JB{ls:Sk Lf}{wt:Int}{x:Sk Lf}(h:x∈cB (n+1) ls wt sp):x=[]\/∃(i:Nat) (p:Lf) (r:Sk Lf),ls[i]? =some p/\p.2.2<=wt/\cb p<=sp/\r∈cB n (ls.drop i) (wt-p.2.2) (sp-cb p)/\x=p::r:=by
 rw[p9] at h;rcases B'.mp h with h|h
 .show .inl (AT.mp h)
 .have{i,hi,h}:=B9.mp h;unfold dj at h;split at h
  .cases h
  .rename_i p hp;split at h
   .rename_i c;have{r,hr,0}:=Ae.mp h;show .inr {i,p,r,hp,c.1,c.2,hr,0}
   .cases h
theorem qf:∀{n:Nat}{ls:Sk Lf}{wt sp:Int}{x:Sk Lf},(∀p∈ls,1<=p.2.2)->0<=wt->x∈cB n ls wt sp->x.length<=n/\0<=(x.map (·.2.2)).sum/\(x.map (·.2.2)).sum<=wt/\∀p∈x,p∈ls
 |0,ls,wt,sp,x,_,h0,h=>by
  rw[cB] at h;rw[AT.mp h];show{7,7,by simpa using h0,λp hp=>nomatch hp}
 |n+1,ls,wt,sp,x,hw,h0,h=>by
  rcases JB h with rfl|⟨i,p,r,hp,c1,c2,hr,rfl⟩
  .show{7,7,by simpa using h0,λp hp=>nomatch hp}
  .have pm:=AR hp;have p1:=hw p pm;have{a,b,c,d}:=qf (λq hq=>hw q (DL hq)) (by lia) hr;show{by rw[Af];lia,?_,?_,λq hq=>?_}
   .rw[AK,Ab];lia
   .rw[AK,Ab];lia
   .rcases AI.mp hq with rfl|hq
    .show pm
    .show DL (d q hq)
def qg{p:Lf}:jV d p=true↔1<=p.1/\p.1<p.2.1/\p.2.1<=d/\1<=p.2.2/\p.2.2<=8:=by
 unfold jV;simp only[A9,AQ];constructor
 .rintro⟨⟨⟨⟨a,b⟩,c⟩,d⟩,e⟩;show{a,b,c,d,e}
 .rintro⟨a,b,c,d,e⟩;show{{{{a,b},c},d},e}
def JC{f:Nat}{x:Sk Lf×Int}(h:stB d f x=true):(∀p∈x.1,jV d p=true)/\x.1.length<=20/\0<=thF d (f+1) x.1/\thF d (f+1) x.1<8/\0<=x.2/\x.2<=6/\(gQ d (f+1) (thF d (f+1) x.1) x.2).length<=200:=by
 unfold stB at h;simp only[A9,AQ,AV] at h;have{{{{{{a,b},c},d},e},f},g}:=h;show{a,b,c,d,e,f,g}
def JD(h:okB d k=true):(∀f<d,(∀x∈bO d k f,stB d f x=true)/\(bO d k (f+1)).length<=900)/\∀x∈bO d k d,x.1.length<=20:=by
 unfold okB at h;simp only[A9,AQ,AV,AY] at h;show h
def JE(p q:Lf):ltI (bT p) (bT q)=bD p q:=by
 unfold bD ltI bT;simp only[cz,Af,CO];split
 .split
  .split
   .rename_i h;simp[h]
   .rfl
  .rfl
 .rfl
def Srt(ps:Sk Lf):Prop:=ps.Pairwise λa b=>bD b a=false
structure Snd(d:Nat)(ps:Sk Lf):Prop where
 ok:∀p∈ps,1<=p.1/\p.1<p.2.1/\p.2.1<=d/\1<=p.2.2
 nn:∀i:Nat,i<d->0<=1+gN ps (1+(i:Int))-gO ps (1+(i:Int))
 so:Srt ps
def eF(ps:Sk Lf)(i:Nat):Int:=1+gN ps (1+(i:Int))-gO ps (1+(i:Int))
def JF{ps:Sk Lf}(h:∀p∈ps,Okl d p)(hi:i<d):(bG d ps).getD i 0=eF ps i:=by
 have:=(lO ps (List.replicate d 1) (by simp) h).2 i;unfold bG;rw[this];unfold eF;have:(List.replicate d (1:Int)).getD i 0=1:=by simp[List.getD,hi]
 rw[this]
def ir(d:Nat)(ps:Sk Lf):Prop:=(∀p∈ps,1<=p.1/\p.1<p.2.1/\p.2.1<=d/\1<=p.2.2)/\∀i:Nat,i<d->0<=eF ps i
theorem ir.okl{ps:Sk Lf}(h:ir d ps):∀p∈ps,Okl d p:=λp hp=>by
 have{a,b,c,_}:=h.1 p hp;show{a,4,4,c}
def fS(x:Lf):Sk Lf->Sk Lf
 |[]=>[x]
 |y::ys=>if bD x y then x::y::ys else if x=y then y::ys else y::fS x ys
def dk(xs:Sk Lf):Sk Lf:=xs.foldr fS []
def fT(d:Nat)(es:Sk Int)(i:Nat):Sk Lf:=List.replicate (es.getD i 0).toNat (1+(i:Int),(d:Int)+1,1)
def fx(d:Nat)(es:Sk Int):Sk Lf:=(List.range d).flatMap (fT d es)
def qh{p q:Lf}:bD p q=true↔p.1<q.1\/(p.1=q.1/\(p.2.1<q.2.1\/(p.2.1=q.2.1/\p.2.2<q.2.2))):=by
 unfold bD;by_cases e0:p.1=q.1
 .by_cases e1:p.2.1=q.2.1
  .simp[e0,e1]
  .simp[e0,e1]
 .simp[e0]
def lU{p:Lf}:¬bD p p=true:=by rw[qh];lia
def wJ{p q r:Lf}(h:bD p q=true)(k:bD q r=true):bD p r=true:=by rw[qh] at*;lia
def wK{p q:Lf}(h:¬bD p q=true)(k:p≠q):bD q p=true:=by
 rw[qh] at*
 have{a,b,c}:=p;have{d,e,f}:=q;simp only[ne_eq,Prod.mk.injEq,not_and] at*
 lia
theorem qi{x z:Lf}:∀{ys:Sk Lf},z∈fS x ys↔z=x\/z∈ys
 |[]=>by simp[fS]
 |y::ys=>by
  unfold fS;split
  .simp
  .split
   .rename_i e;subst e;simp
   .simp[qi (ys:=ys)];constructor
    .rintro(h|h|h)
     .show .inr (.inl h)
     .show .inl h
     .show .inr (.inr h)
    .rintro(h|h|h)
     .show .inr (.inl h)
     .show .inl h
     .show .inr (.inr h)
theorem wL{x:Lf}:∀{ys:Sk Lf},(ys.Pairwise λa b=>bD a b=true)->(fS x ys).Pairwise λa b=>bD a b=true
 |[],_=>by simp[fS]
 |y::ys,h=>by
  unfold fS;split
  .rename_i e;show List.Pairwise.cons (λz hz=>?_) h;rcases AI.mp hz with rfl|hz
   .show e
   .show wJ e ((Ar.mp h).1 z hz)
  .split
   .show h
   .rename_i e1 e2;show List.Pairwise.cons (λz hz=>?_) (wL (Ar.mp h).2);rcases qi.mp hz with rfl|hz
    .show wK e1 e2
    .show(Ar.mp h).1 z hz
theorem qj{z:Lf}:∀{xs:Sk Lf},z∈dk xs↔z∈xs
 |[]=>by simp[dk]
 |x::xs=>by
  have:=qj (z:=z) (xs:=xs);unfold dk at this⊢;rw[List.foldr_cons,qi,this,AI]
theorem qk:∀(xs:Sk Lf),(dk xs).Pairwise λa b=>bD a b=true
 |[]=>by simp[dk]
 |x::xs=>by
  have:=qk xs;unfold dk at this⊢;rw[List.foldr_cons];show wL this
theorem wM:∀{xs ys:Sk Lf},(xs.Pairwise λa b=>bD a b=true)->(ys.Pairwise λa b=>bD a b=true)->(∀z,z∈xs↔z∈ys)->xs=ys
 |[],[],_,_,_=>rfl
 |[],y::ys,_,_,h=>absurd ((h y).mpr (by simp)) (by simp)
 |x::xs,[],_,_,h=>absurd ((h x).mp (by simp)) (by simp)
 |x::xs,y::ys,h1,h2,h=>by
  have a1:=Ar.mp h1;have a2:=Ar.mp h2;have e:x=y:=by
   show Classical.byContradiction λne=>?_;have m1:x∈ys:=by rcases AI.mp ((h x).mp (by simp)) with e|e;show absurd e ne;show e
   have m2:y∈xs:=by rcases AI.mp ((h y).mpr (by simp)) with e|e;show absurd e.symm ne;show e
   show lU (wJ (a1.1 y m2) (a2.1 x m1))
  subst e;have:xs=ys:=wM a1.2 a2.2 λz=>by
   have hz:=h z;rw[AI,AI] at hz;constructor
   .intro m;rcases hz.mp (.inr m) with e|e
    .subst e;show absurd (a1.1 z m) lU
    .show e
   .intro m;rcases hz.mpr (.inr m) with e|e
    .subst e;show absurd (a2.1 z m) lU
    .show e
  rw[this]
def JG{p q:Lf}(h:bT p=bT q):p=q:=by rw[<-wz p,<-wz q,h]
def JH{ps:Sk Lf}{N':Sk (Sk Int)}(nd:N'.Nodup)(mem:∀z,z∈N'↔z∈ps.map bT)(so:∀i j,i<j->j<N'.length->ltI (N'.getD j []) (N'.getD i [])=false):N'=(dk ps).map bT:=by
 have{qs,e,hq}:=nW (f:=bT) (P:=λp=>p∈ps) N' λv hv=>by
  have{p,hp,0}:=Ae.mp ((mem v).mp hv);show{p,hp,0}
 subst e;have:qs=dk ps:=by
  show wM ?_ (qk ps) λz=>?_
  .rw[List.pairwise_iff_getElem];intro i j hi hj OH;have h1:=so i j OH (by rw[A1];show hj);rw[A5,A5,AC,AC,A2 hi,A2 hj] at h1;simp only[C0,Option.getD_some] at h1;rw[JE] at h1;show wK (by rw[h1];simp) λe=>?_;unfold List.Nodup at nd;rw[List.pairwise_map,List.pairwise_iff_getElem] at nd;show nd i j hi hj OH (by rw[e])
  .rw[qj];constructor
   .show hq z
   .intro hz;have{q,QV,e}:=Ae.mp ((mem (bT z)).mpr (List.mem_map_of_mem hz));rw[<-JG e];show QV
 rw[this]
def chF(n:Int):Nat->Int
 |0=>1
 |k+1=>chF n k*(n-(k:Int))/((k:Int)+1)
def chB:Bool:=(List.range 16).all λn=>(List.range (n+1)).all λk=>decide (0<=chF (n:Int) k)&&decide (chF (n:Int) k<=6435)
def JI:chB=true:=by ac_nf
def wN{n:Int}(h1:(k:Int)<=n)(h2:n<=15):0<=chF n k/\chF n k<=6435:=by
 have{m,0}:=B4 (show 0<=n by lia);have h:=JI;unfold chB at h;rw[AV] at h;have h:=h m (AY.mpr (by lia));rw[AV] at h;have h:=h k (AY.mpr (by lia));simpa using h
def wmF(t:Sk Int)(p:Nat)(m:Int):Sk Int:=t.set p (t.getD p 0+m)
def dB(t:Sk Int)(p:Nat)(m:Int):(wmF t p m).length=t.length:=by unfold wmF;rw[C1]
def lV{t:Sk Int}(h:p<t.length):(wmF t p m).getD i 0=t.getD i 0+if p=i then m else 0:=by
 unfold wmF;rw[A5,List.getElem?_set];by_cases e:p=i
 .subst e;simp[h]
 .simp[e]
def JJ{t:Sk Int}{x:Int}(h:p<t.length):t.take p++[x]++t.drop (p+1)=t.set p x:=by
 rw[List.set_eq_take_append_cons_drop,A8 h];simp
def spR:Nat->Nat->Sk (Sk Nat)
 |0,a=>[[a]]
 |g+1,a=>(List.range (a+1)).flatMap λh=>(spR g (a-h)).map (h:: ·)
def ce(t:Sk Int):Nat->Sk Nat->Int
 |_,[]=>1
 |p,s::r=>chF (t.getD p 0+(s:Int)) s*ce t (p+1) r
def cq(t:Sk Int):Nat->Sk Nat->Sk Int
 |_,[]=>t
 |p,s::r=>cq (wmF t p (s:Int)) (p+1) r
theorem wO{t:Sk Int}{m:Int}{q:Nat}(hq:q<t.length):∀{r:Sk Nat}{p:Nat},q<p->ce (wmF t q m) p r=ce t p r
 |[],p,_=>rfl
 |s::r,p,h=>by
  unfold ce;rw[lV hq,A6 (by lia),wO hq (r:=r) (by lia)];simp
def pbF:Nat->Sk Int->Nat->Nat->Sk (Sk Int×Int)
 |0,t,p,a=>[(wmF t p (a:Int),chF (t.getD p 0+(a:Int)) a)]
 |g+1,t,p,a=>(List.range (a+1)).flatMap λh:Nat=>(pbF g (wmF t p (h:Int)) (p+1) (a-h)).map λx=>(x.1,chF (t.getD p 0+(h:Int)) h*x.2)
theorem wP{α β:Type}{f g:α->Sk β}:∀{xs:Sk α},(∀x∈xs,f x=g x)->xs.flatMap f=xs.flatMap g
 |[],_=>rfl
 |x::xs,h=>by rw[Bm,Bm,h x (by simp),wP λy hy=>h y (by simp[hy])]
theorem wQ:∀{g:Nat}{t:Sk Int}{p a:Nat},p+g<t.length->pbF g t p a=(spR g a).map λr=>(cq t p r,ce t p r)
 |0,t,p,a,_=>by simp[pbF,spR,cq,ce]
 |g+1,t,p,a,h=>by
  unfold pbF spR;rw[List.map_flatMap];show wP λx _=>?_;rw[wQ (by rw[dB];lia),BN,BN];show BA λr _=>?_;simp only[Function.comp,cq,ce];rw[wO (by lia) (BZ p)]
theorem ql:∀{g a:Nat}{r:Sk Nat},r∈spR g a->r.length=g+1/\r.sum=a
 |0,a,r,h=>by simp[spR] at h;subst h;simp
 |g+1,a,r,h=>by
  unfold spR at h;have{x,hx,h}:=B9.mp h;have{r',h',0}:=Ae.mp h;have hx:=AY.mp hx;have{e1,e2}:=ql h';simp[e1,e2];lia
theorem lW:∀{t:Sk Int}{p:Nat}{m:Int},p<t.length->(wmF t p m).sum=t.sum+m
 |[],p,m,h=>absurd h (by simp)
 |x::t,0,m,_=>by simp[wmF];lia
 |x::t,p+1,m,h=>by
  have:=lW (t:=t) (p:=p) (m:=m) (by simpa using h);unfold wmF at this⊢;simp only[List.set_cons_succ,Ab,Da] at this⊢;lia
theorem wR:∀{r:Sk Nat}{t:Sk Int}{p:Nat},p+r.length<=t.length->(∀i:Nat,0<=t.getD i 0)->(cq t p r).length=t.length/\(cq t p r).sum=t.sum+(r.sum:Nat)/\∀i:Nat,0<=(cq t p r).getD i 0
 |[],t,p,_,h=>by simpa[cq] using h
 |s::r,t,p,hl,h=>by
  have hp:p<t.length:=by simp at hl;lia
  have{e1,e2,e3}:=wR (r:=r) (t:=wmF t p (s:Int)) (p:=p+1) (by rw[dB];simp at hl;lia) (λi=>by rw[lV hp];have:=h i;split<;>lia)
  unfold cq;show{by rw[e1,dB],?_,e3};rw[e2,lW hp,Ab];lia
theorem iG:∀{t:Sk Int},(∀i:Nat,0<=t.getD i 0)->0<=t.sum/\∀i:Nat,t.getD i 0<=t.sum
 |[],_=>by simp
 |x::t,h=>by
  have hx:=h 0;have{e1,e2}:=iG (t:=t) λi=>by have:=h (i+1);simpa using this
  simp only[List.getD_cons_zero] at hx;rw[Ab];show{4,λi=>?_};cases i with
  |zero=>simp;lia
  |succ i=>have:=e2 i;rw[Da];lia
theorem wT:∀{r:Sk Nat}{t:Sk Int}{p:Nat},(∀i:Nat,0<=t.getD i 0)->t.sum+(r.sum:Nat)<=15->0<=ce t p r/\ce t p r<=6435^r.length
 |[],t,p,_,_=>by simp[ce]
 |s::r,t,p,h,hs=>by
  rw[Ab] at hs;have{e1,e2}:=iG h;have a1:=e2 p;have a2:=h p;have{c1,c2}:=wN (n:=t.getD p 0+(s:Int)) (k:=s) (by lia) (by lia);have{q1,q2}:=wT (r:=r) (t:=t) (p:=p+1) h (by lia);unfold ce;show{Bn c1 q1,?_};rw[Af,Int.pow_succ,BO];show Cc q2 c2 c1 (Int.pow_nonneg (by decide))
abbrev Tab:=Sk (Sk Int×Int)
def bE(D:Tab)(g:Sk Int->Int):Int:=(D.map λx=>x.2*g x.1).sum
def cO(D:Tab)(k:Sk Int):Int:=((D.find? λx=>decide (x.1=k)).map (·.2)).getD 0
def eP(D:Tab)(k:Sk Int)(v:Int):Tab:=if(D.any λx=>decide (x.1=k))=true then D.map (λx=>if x.1=k then(x.1,v) else x) else D++[(k,v)]
def iH(D:Tab)(k:Sk Int)(v:Int):Tab:=eP D k (cO D k+v)
def wU(D:Tab)(k:Sk Int)(v:Int):(eP D k v).map (·.1)=if k∈D.map (·.1) then D.map (·.1) else D.map (·.1)++[k]:=by
 unfold eP;have:(D.any λx=>decide (x.1=k))=true↔k∈D.map (·.1):=by
  rw[List.any_eq_true,Ae];simp
 by_cases h:k∈D.map (·.1)
 .rw[A8 h,A8 (this.mpr h),BN];show BA λx _=>?_;simp only[Function.comp];split<;>rfl
 .rw[A6 h,A6 (λz=>h (this.mp z)),A7];rfl
def JK{D:Tab}{k:Sk Int}{v:Int}{g:Sk Int->Int}(h:k∉D.map (·.1)):bE (eP D k v) g=bE D g+v*g k/\cO D k=0:=by
 have hn:∀x∈D,x.1≠k:=λx hx e=>h (Ae.mpr {x,hx,e});have e1:(D.any λx=>decide (x.1=k))=false:=by
  rw[List.any_eq_false];intro x hx;simpa using hn x hx
 have e2:D.find? (λx=>decide (x.1=k))=none:=by
  rw[List.find?_eq_none];intro x hx;simpa using hn x hx
 unfold eP cO bE;rw[e1,e2];simp
theorem wV:∀{D:Tab}{k:Sk Int}{v:Int}{g:Sk Int->Int},(D.map (·.1)).Nodup->k∈D.map (·.1)->bE (D.map λx=>if x.1=k then(x.1,v) else x) g=bE D g+(v-cO D k)*g k
 |[],_,_,_,_,h=>by simp at h
 |x::D,k,v,g,nd,h=>by
  rw[AK,Bf] at nd;by_cases e:x.1=k
  .subst e;have hn:∀y∈D,y.1≠x.1:=λy hy e=>nd.1 (Ae.mpr {y,hy,e});have e1:(D.map λy=>if y.1=x.1 then(y.1,v) else y)=D:=by
    conv=>rhs;rw[<-List.map_id D]
    show BA λy hy=>?_;rw[A6 (hn y hy)];rfl
   have e2:cO (x::D) x.1=x.2:=by simp[cO]
   rw[AK,e1,e2];simp only[bE,CF,AK,Ab];rw[Int.sub_mul];lia
  .have hk:k∈D.map (·.1):=by
    rw[AK,AI] at h;rcases h with h|h
    .show absurd h.symm e
    .show h
   have ih:=wV (g:=g) (v:=v) nd.2 hk;have e2:cO (x::D) k=cO D k:=by simp[cO,Bg,e]
   rw[e2,AK];simp only[bE,AK,Ab,A6 e] at ih⊢;lia
def JL{D:Tab}(nd:(D.map (·.1)).Nodup)(k:Sk Int)(v:Int)(g:Sk Int->Int):bE (iH D k v) g=bE D g+v*g k:=by
 unfold iH;by_cases h:k∈D.map (·.1)
 .have e:(D.any λx=>decide (x.1=k))=true:=by
   rw[List.any_eq_true];have{x,hx,e}:=Ae.mp h;show{x,hx,Ay e}
  unfold eP;rw[A8 e,wV nd h];rw[show cO D k+v-cO D k=v by lia]
 .have{e1,e2}:=JK (v:=cO D k+v) (g:=g) h;rw[e1,e2];simp
def JM{D:Tab}(nd:(D.map (·.1)).Nodup)(k:Sk Int)(v:Int):((eP D k v).map (·.1)).Nodup:=by
 rw[wU];split
 .show nd
 .rename_i h;rw[List.nodup_append];show{nd,7,λa ha b hb=>by simp at hb;subst hb;show λe=>h (e▸ha)}
structure TabOk(d n:Nat)(D:Tab):Prop where
 nd:(D.map (·.1)).Nodup
 key:∀x∈D,x.1.length=d/\x.1.sum=(n:Int)/\∀i:Nat,0<=x.1.getD i 0
def TabOk.add{D:Tab}(h:TabOk d n D){k:Sk Int}{v:Int}(hk:k.length=d/\k.sum=(n:Int)/\∀i:Nat,0<=k.getD i 0):TabOk d n (iH D k v):=by
 show{JM h.nd _ _,λx hx=>?_};have:x.1∈(eP D k (cO D k+v)).map (·.1):=List.mem_map_of_mem hx;rw[wU] at this;have:x.1∈D.map (·.1)\/x.1=k:=by
  split at this
  .show .inl this
  .rcases B'.mp this with h|h
   .show .inl h
   .show .inr (by simpa using h)
 rcases this with h'|h'
 .have{y,hy,e}:=Ae.mp h';rw[<-e];show h.key y hy
 .rw[h'];show hk
def inP(t:Sk Int)(v:Int)(p:Nat)(rs:Sk (Sk Nat))(acc:Tab):Tab:=rs.foldl (λacc r=>iH acc (cq t p r) (v*ce t p r)) acc
def stP(p:Nat)(rs:Sk (Sk Nat))(xs acc:Tab):Tab:=xs.foldl (λacc x=>inP x.1 x.2 p rs acc) acc
def iI(g:Sk Int->Int)(p:Nat)(rs:Sk (Sk Nat))(t:Sk Int):Int:=(rs.map λr=>ce t p r*g (cq t p r)).sum
def qm(p d n n':Nat)(rs:Sk (Sk Nat)):Prop:=∀r∈rs,p+r.length<=d/\n+r.sum=n'
def JN{n':Nat}{r:Sk Nat}{t:Sk Int}(h:t.length=d/\t.sum=(n:Int)/\∀i:Nat,0<=t.getD i 0)(hr:p+r.length<=d/\n+r.sum=n'):(cq t p r).length=d/\(cq t p r).sum=(n':Int)/\∀i:Nat,0<=(cq t p r).getD i 0:=by
 have{e1,e2,e3}:=wR (r:=r) (t:=t) (p:=p) (by rw[h.1];show hr.1) h.2.2;show{by rw[e1,h.1],by rw[e2,h.2.1,<-hr.2];lia,e3}
theorem qo{d n n' p:Nat}{t:Sk Int}{v:Int}(h:t.length=d/\t.sum=(n:Int)/\∀i:Nat,0<=t.getD i 0)(g:Sk Int->Int):∀{rs:Sk (Sk Nat)}{acc:Tab},qm p d n n' rs->TabOk d n' acc->TabOk d n' (inP t v p rs acc)/\bE (inP t v p rs acc) g=bE acc g+v*iI g p rs t
 |[],acc,_,ha=>by simp[inP,iI,ha]
 |r::rs,acc,hr,ha=>by
  have a1:=ha.add (v:=v*ce t p r) (JN h (hr r (by simp)));have{b1,b2}:=qo (v:=v) h g (rs:=rs) (λr' h'=>hr r' (by simp[h'])) a1;show{b1,?_};change bE (inP t v p rs (iH acc (cq t p r) (v*ce t p r))) g=_;rw[b2,JL ha.nd];simp only[iI,AK,Ab];rw[Cw,Int.mul_assoc];lia
theorem qp{d n n' p:Nat}{rs:Sk (Sk Nat)}(hr:qm p d n n' rs)(g:Sk Int->Int):∀{xs acc:Tab},(∀x∈xs,x.1.length=d/\x.1.sum=(n:Int)/\∀i:Nat,0<=x.1.getD i 0)->TabOk d n' acc->TabOk d n' (stP p rs xs acc)/\bE (stP p rs xs acc) g=bE acc g+bE xs (iI g p rs)
 |[],acc,_,ha=>by simp[stP,bE,ha]
 |x::xs,acc,hx,ha=>by
  have{a1,a2}:=qo (v:=x.2) (hx x (by simp)) g hr ha;have{b1,b2}:=qp hr g (xs:=xs) (λy hy=>hx y (by simp[hy])) a1;show{b1,?_};change bE (stP p rs xs (inP x.1 x.2 p rs acc)) g=_;rw[b2,a2];simp only[bE,AK,Ab];lia
def TF(cnt:Lf->Nat):Sk Lf->Sk Int->Int
 |[],_=>1
 |m::ms,t=>iI (TF cnt ms) (m.1-1).toNat (spR (m.2.1-m.1-1).toNat (cnt m)) t
def hmF(d:Nat)(mk:Sk Lf):Int:=TF (λm=>mk.count m) (dk mk) (List.replicate d 0)
def JO(D:Tab):bE D (λ_=>1)=(D.map (·.2)).sum:=by
 unfold bE;congr 1
 show BA λx _=>?_;change x.2*1=x.2;lia
def enc:Sk Int->Nat
 |[]=>0
 |x::t=>x.toNat+16*enc t
theorem wX:∀{t:Sk Int},(∀i:Nat,0<=t.getD i 0/\t.getD i 0<=15)->enc t<16^t.length
 |[],_=>by simp[enc]
 |x::t,h=>by
  have h0:=h 0;have ih:=wX (t:=t) λi=>by have:=h (i+1);simpa using this
  simp only[List.getD_cons_zero] at h0;unfold enc;rw[Af,D1];lia
theorem wY:∀{t u:Sk Int},t.length=u.length->(∀i:Nat,0<=t.getD i 0/\t.getD i 0<=15)->(∀i:Nat,0<=u.getD i 0/\u.getD i 0<=15)->enc t=enc u->t=u
 |[],[],_,_,_,_=>rfl
 |[],_::_,h,_,_,_=>absurd h (by simp)
 |_::_,[],h,_,_,_=>absurd h (by simp)
 |x::t,y::u,hl,ht,hu,e=>by
  have h0:=ht 0;have h1:=hu 0;simp only[List.getD_cons_zero] at h0 h1;unfold enc at e;have ih:=wY (t:=t) (u:=u) (by simpa using hl) (λi=>by have:=ht (i+1);simpa using this) (λi=>by have:=hu (i+1);simpa using this) (by lia);rw[ih,show x=y by lia]
theorem wZ:∀(N:Nat) (xs:Sk Nat),xs.Nodup->(∀x∈xs,x<N)->xs.length<=N
 |0,[],_,_=>AB _
 |0,x::xs,_,h=>absurd (h x (by simp)) (by lia)
 |N+1,xs,nd,h=>by
  have h1:=wZ N (xs.filter λx=>decide (x≠N)) (nd.filter _) λx hx=>by
   have{a,b}:=DU.mp hx;have:=h x a;have:x≠N:=by simpa using b
   lia
  have h2:xs.length<=(xs.filter λx=>decide (x≠N)).length+1:=by
   clear h1 h;induction xs with
   |nil=>simp
   |cons y ys ih=>
    rw[Bf] at nd;by_cases e:y=N
    .subst e;have:(ys.filter λx=>decide (x≠y))=ys:=by
      rw[List.filter_eq_self];intro z hz;simp;rintro rfl;show nd.1 hz
     rw[List.filter_cons,A6 (by simp),this,Af];show AB _
    .have:=ih nd.2;rw[List.filter_cons,A8 (by simpa using e),Af,Af];lia
  lia
def TabOk.size{D:Tab}(h:TabOk d n D)(hd:d<=5)(hn:n<=15):D.length<=1048576:=by
 have hb:∀x∈D,∀i:Nat,0<=x.1.getD i 0/\x.1.getD i 0<=15:=λx hx i=>by
  have{_,e2,e3}:=h.key x hx;have:=(iG e3).2 i;show{e3 i,4}
 have:=wZ (16^d) (D.map λx=>enc x.1) ?_ ?_
 .rw[A1] at this;have:16^d<=16^5:=Bu (by decide) hd;lia
 .have nd:=h.nd;unfold List.Nodup at nd⊢;rw[List.pairwise_map] at nd⊢;show List.Pairwise.imp_of_mem (fun{a b} ha PN NC e=>NC ?_) nd;show wY (by rw[(h.key a ha).1,(h.key b PN).1]) (hb a ha) (hb b PN) e
 .intro x hx;have{y,hy,0}:=Ae.mp hx;have:=wX (hb y hy);rw[(h.key y hy).1] at this;show this
def bH(t:Sk Int):Sk Key:=t.map Sum.inl
def lX(t:Sk Int):(bH t).map kV=t.map V.int:=by unfold bH;rw[BN];rfl
theorem w4:∀{t u:Sk Int},bH t=bH u->t=u
 |[],[],_=>rfl
 |[],_::_,h=>by simp[bH] at h
 |_::_,[],h=>by simp[bH] at h
 |x::t,y::u,h=>by
  simp only[bH,AK,CP,Sum.inl.injEq] at h;rw[h.1,w4 (t:=t) (u:=u) h.2]
theorem qq{t u:Sk Int}:bH t=bH u↔t=u:={w4,λe=>by rw[e]}
def bn(D:Tab):Sk (Sk Key×V):=D.map λx=>(bH x.1,V.int x.2)
def w6(D:Tab):(bn D).length=D.length:=by unfold bn;rw[A1]
def w8(D:Tab)(k:Sk Int)(v:Int):aZ (bn D) (bH k) (.int v)=bn (eP D k v):=by
 have e:((bn D).any λkv=>decide (kv.1=bH k))=(D.any λx=>decide (x.1=k)):=by
  unfold bn;rw[List.any_map];congr 1
  funext x
  simp only[Function.comp,qq]
 unfold aZ eP;rw[e];split
 .unfold bn;rw[BN,BN];show BA λx _=>?_;simp only[Function.comp,qq];split<;>rfl
 .unfold bn;rw[A7];rfl
def w9(D:Tab)(k:Sk Int):aU (bn D) (bH k)=(D.find? λx=>decide (x.1=k)).map λx=>V.int x.2:=by
 unfold aU bn;rw[List.find?_map,Option.map_map];have:((λkv:Sk Key×V=>decide (kv.1=bH k))∘λx:Sk Int×Int=>(bH x.1,V.int x.2))=λx=>decide (x.1=k):=by
  funext x
  simp only[Function.comp,qq]
 rw[this];rfl
def JP(D:Tab)(k:Sk Int):(aU (bn D) (bH k)).getD (.int 0)=.int (cO D k):=by
 rw[w9];unfold cO;cases D.find? λx=>decide (x.1=k)<;>rfl
def JQ{D:Tab}(nd:(D.map (·.1)).Nodup)(h:x∈D):aU (bn D) (bH x.1)=some (.int x.2):=by
 rw[w9];have:D.find? (λy=>decide (y.1=x.1))=some x:=by
  induction D with
  |nil=>simp at h
  |cons y D ih=>
   rw[AK,Bf] at nd;rcases AI.mp h with rfl|h
   .simp
   .have:y.1≠x.1:=λe=>nd.1 (Ae.mpr {x,h,e.symm});rw[Bg,An this];show ih nd.2 h
 rw[this];rfl
def JR(D:Tab):(bn D).map (·.2)=(D.map (·.2)).map V.int:=by unfold bn;rw[BN,BN];rfl
def prD(x:Sk Int×Int):D:= .t [tI x.1,.i x.2]
def JS(l:Sk Lf)(x:Lf):(List.range l.length).countP (λj=>decide (l.getD j (0,0,0)=x))=l.count x:=by
 have e:(List.range l.length).map (λj=>l.getD j (0,0,0))=l:=by
  apply List.ext_getElem?;intro i;rw[AC];rcases Be i l.length with c|c
  .rw[List.getElem?_range c];simp[List.getD,c]
  .rw[CQ (by simpa using c),CQ c];rfl
 conv=>rhs;rw[<-e]
 rw[List.count,List.countP_map];congr 1
 funext j
 simp only[Function.comp];show(Bool.beq_eq_decide_eq _ _).symm
theorem xa:∀(l S:Sk Lf),S.Nodup->(S.map λm=>l.count m).sum<=l.length
 |[],S,_=>by
  have:(S.map λm=>List.count m ([]:Sk Lf))=S.map λ_=>0:=by simp
  rw[this];induction S with
  |nil=>simp
  |cons a S ih=>rename_i nd;simpa using ih (Bf.mp nd).2
 |x::l,S,nd=>by
  have ih:=xa l S nd;have:(S.map λm=>(x::l).count m).sum<=(S.map λm=>l.count m).sum+1/\(x∉S->(S.map λm=>(x::l).count m).sum=(S.map λm=>l.count m).sum):=by
   clear ih;induction S with
   |nil=>simp
   |cons a S ih=>
    have{n1,n2}:=Bf.mp nd;have{i1,i2}:=ih n2;simp only[AK,Ab];by_cases e:x=a
    .subst e;have:=i2 n1;rw[List.count_cons_self];show{4,λh=>absurd (by simp) h}
    .have e':List.count a (x::l)=List.count a l:=List.count_cons_of_ne e;rw[e'];show{4,λh=>by rw[i2 (λz=>h (by simp[z]))]}
  rw[Af];lia
def fU(ps:Sk Lf):Int:=ps.foldl (λa p=>a*p.2.2^2) 1
def Okw(d:Nat)(p:Lf):Prop:=Okl d p/\1<=p.2.2/\p.2.2<=2^20
def lY:Sk Lf->Bool
 |[]=>true
 |x::r=>r.all (λy=> !(bD y x))&&lY r
theorem xb:∀{ps:Sk Lf},lY ps=true->Srt ps
 |[],_=>List.Pairwise.nil
 |x::r,h=>by
  unfold lY at h;rw[A9,AV] at h;show Ar.mpr {λy hy=>by simpa using h.1 y hy,xb h.2}
def lZ(d:Nat)(ps:Sk Lf):Bool:=ps.all (jV d)&&(List.range d).all (λi=>decide (0<=eF ps i))&&lY ps
def JT{ps:Sk Lf}(h:lZ d ps=true):Snd d ps:=by
 unfold lZ at h;simp only[A9,AV,AY,AQ] at h;show{λp hp=>by have:=qg.mp (h.1.1 p hp);lia,λi hi=>h.1.2 i hi,xb h.2}
def hmD(d:Nat)(x:Sk Lf):Int:=hmF d (x++fx d (bG d x))
def gR(d:Nat)(x:Sk Lf):Bool:=lZ d x&&decide (x.length<=20)&&decide (0<=fU x)&&decide (fU x<2^40)
def xc{x:Sk Lf}(h:gR d x=true):Snd d x/\(∀p∈x,Okw d p)/\x.length<=20/\0<=fU x/\fU x<2^40:=by
 unfold gR at h;simp only[A9,AQ] at h;have{{{h1,h2},h3},h4}:=h;show{JT h1,λp hp=>?_,h2,h3,h4};unfold lZ at h1;simp only[A9,AV] at h1;have:=qg.mp (h1.1.1 p hp);show{{4,4,4,4},4,4}
def l6(d:Nat)(x:Sk Lf):Int:=fU x*hmD d x
def wtG:Int->Sk Int->Int
 |_,[]=>0
 |i,x::r=>i*x+wtG (i+1) r
def wtF(r:Sk Int):Int:=wtG 1 r
def rwS(found:Sk (Sk Int))(n:Int):Sk (Sk Int):=found.flatMap λb=>(List.range (n+1).toNat).map λh:Nat=>b++[(h:Int)]
def rwF(row:Sk Int):Sk (Sk Int):=row.foldl rwS [[]]
def rbF:Nat->Sk Int->Int->Nat->Sk (Sk Int)
 |0,_,_,_=>[]
 |n+1,row,wt,first=>if wt-wtF row=0 then [row] else(List.range (min row.length (wt-wtF row).toNat-first)).flatMap λj=>rbF n (wmF row (first+j) 1) wt (first+j)
def cC:Sk Int->Sk Int->Int
 |x::a,y::b=>chF x y.toNat*cC a b
 |_,_=>1
def wgG:Int->Sk Int->Sk Int->Sk Int
 |i,x::a,y::b=>List.replicate (y-x).toNat i++wgG (i+1) a b
 |_,_,_=>[]
def wgF(r f:Sk Int):Sk Int:=wgG 1 r f
structure Ask4 where
 d:Int
 k:Int
 h:List Int
 f:List Int
variable{q:Ask4}
abbrev Sm4:=Int×Sk Int×Ask4
def dC(q:Ask4)(p:Nat):Sk Sm4:=if q.f.getD p 0>0 then [(1,[(p:Int)+1],{q.d,q.k,wmF q.h p 1,wmF q.f p (-1)})] else []
def gS(q:Ask4):Sk Sm4:=(List.range q.f.length).flatMap (dC q)
def iJ(q:Ask4)(kp fr:Sk Int):Sm4:=(cC q.h kp*cC fr q.f,wgF q.f fr,{q.d-1,q.k+fr.sum-q.f.sum-q.d+1,kp,fr})
def dU(q:Ask4)(kp:Sk Int):Sk Sm4:=(rbF 8 q.f (q.d-1-wtF kp) 0).map (iJ q kp)
def iK(q:Ask4):Sk Sm4:=(rwF q.h).flatMap (dU q)
def cf(q:Ask4):Sk Sm4:=gS q++iK q
def cg(ws:Sk Int):Int:=ws.foldl (· * ·) 1
def fV:Nat->Ask4->Int
 |0,_=>0
 |n+1,q=>if q.k<0 then 0 else if q.d=1 then(if q.k=0 then 1 else 0) else((cf q).map λx=>x.1*cg x.2.1*fV n x.2.2).sum
def Nn(t:Sk Int):Prop:=∀i:Nat,0<=t.getD i 0
def Nn.cons{x:Int}{t:Sk Int}:Nn (x::t)↔0<=x/\Nn t:=by
 constructor
 .intro h;show{h 0,λi=>h (i+1)}
 .rintro⟨a,b⟩ i;cases i with
  |zero=>show a
  |succ i=>show b i
theorem cQ:∀{t:Sk Int}{i:Int},0<=i->Nn t->0<=wtG i t
 |[],_,_,_=>Bk 0
 |x::t,i,hi,h=>by
  have{a,b}:=Nn.cons.mp h;have:=cQ (i:=i+1) (by lia) b;have:=Bn hi a;unfold wtG;lia
theorem dD:∀{t:Sk Int}{i:Int},1<=i->Nn t->0<=t.sum/\t.sum<=wtG i t
 |[],_,_,_=>{Bk 0,Bk 0}
 |x::t,i,hi,h=>by
  have{a,b}:=Nn.cons.mp h;have{s1,s2}:=dD (i:=i+1) (by lia) b;have:1*x<=i*x:=Int.mul_le_mul_of_nonneg_right hi a;rw[Ab];unfold wtG;lia
theorem jW{m:Int}:∀{t:Sk Int}{p:Nat}{i:Int},p<t.length->wtG i (wmF t p m)=wtG i t+(i+p)*m
 |[],p,_,h=>absurd h (by simp)
 |x::t,0,i,_=>by
  change wtG i ((x+m)::t)=wtG i (x::t)+_;unfold wtG;rw[Cw];simp;lia
 |x::t,p+1,i,h=>by
  have ih:=jW (m:=m) (t:=t) (p:=p) (i:=i+1) (by simpa using h);change wtG i (x::wmF t p m)=wtG i (x::t)+_;unfold wtG;rw[ih,show i+1+(p:Int)=i+((p+1:Nat):Int) by lia];lia
theorem iL{t:Sk Int}(hp:p<t.length)(h:Nn t)(hm:0<=t.getD p 0+m):Nn (wmF t p m):=λi=>by
 rw[lV hp];split
 .next e=>rw[<-e];show hm
 .have:=h i;lia
def JU{t:Sk Int}{x:Int}(h:Nn t)(hx:0<=x):Nn (t++[x]):=by
 induction t with
 |nil=>show Nn.cons.mpr {hx,λi=>by simp}
 |cons y t ih=>
  have{a,b}:=Nn.cons.mp h;show Nn.cons.mpr {a,ih b}
def Le:Sk Int->Sk Int->Prop
 |x::a,y::b=>0<=x/\x<=y/\Le a b
 |[],[]=>True
 |_,_=>False
theorem Le.len:∀{a b:Sk Int},Le a b->a.length=b.length
 |[],[],_=>rfl
 |x::a,y::b,h=>BB (· +1) (Le.len h.2.2)
theorem Le.nn:∀{a b:Sk Int},Le a b->Nn a/\Nn b
 |[],[],_=>{λi=>by simp,λi=>by simp}
 |x::a,y::b,h=>by
  have{p,q}:=Le.nn h.2.2;show{Nn.cons.mpr {h.1,p},Nn.cons.mpr {by have:=h.1;have:=h.2.1;lia,q}}
theorem Le.snoc:∀{a b:Sk Int}{x y:Int},Le a b->0<=x->x<=y->Le (a++[x]) (b++[y])
 |[],[],_,_,_,h1,h2=>{h1,h2,trivial}
 |_::a,_::b,_,_,h,h1,h2=>{h.1,h.2.1,Le.snoc h.2.2 h1 h2}
theorem Le.self:∀{a:Sk Int},Nn a->Le a a
 |[],_=>trivial
 |x::a,h=>by
  have{p,q}:=Nn.cons.mp h;show{p,Bk x,Le.self q}
theorem Le.wt:∀{a b:Sk Int}{i:Int},0<=i->Le a b->wtG i a<=wtG i b
 |[],[],_,_,_=>Bk 0
 |x::a,y::b,i,hi,h=>by
  have:=Le.wt (i:=i+1) (by lia) h.2.2;have:=CL h.2.1 hi;unfold wtG;lia
theorem Le.gain:∀{a b:Sk Int}{i:Int},1<=i->Le a b->a.sum<=b.sum/\b.sum-a.sum<=wtG i b-wtG i a
 |[],[],_,_,_=>by simp[wtG]
 |x::a,y::b,i,hi,h=>by
  have{g1,g2}:=Le.gain (i:=i+1) (by lia) h.2.2;have h1:=h.2.1;have:1*(y-x)<=i*(y-x):=Int.mul_le_mul_of_nonneg_right hi (by lia);have e:i*(y-x)=i*y-i*x:=Int.mul_sub i y x;rw[Ab,Ab];unfold wtG;lia
def Le.wm{a:Sk Int}(h:Le a b)(hp:p<b.length):Le a (wmF b p 1):=by
 induction a generalizing b p with
 |nil=>
  cases b with
  |nil=>show trivial
  |cons y b=>show h.elim
 |cons x a ih=>
  cases b with
  |nil=>show h.elim
  |cons y b=>
   cases p with
   |zero=>show{h.1,by change x<=y+1;have:=h.2.1;lia,h.2.2}
   |succ p=>show{h.1,h.2.1,ih h.2.2 (by simpa using hp)}
def qr{t:Sk Int}(hn:Nn row)(h:t∈rwF row):Le t row:=by
 have go:∀(r2 r1:Sk Int) (F:Sk (Sk Int)),(∀t∈F,Le t r1)->Nn r2->∀t∈r2.foldl rwS F,Le t (r1++r2):=by
  intro r2;induction r2 with
  |nil=>intro r1 F hF _ t ht;rw[BR];show hF t ht
  |cons n r2 ih=>
   intro r1 F hF hn t ht;have{n0,n2}:=Nn.cons.mp hn;rw[show r1++n::r2=(r1++[n])++r2 by simp];show ih (r1++[n]) (rwS F n) (λu hu=>?_) n2 t ht;have{b,hb,hu}:=B9.mp hu;have{k,hk,0}:=Ae.mp hu;have hk:=AY.mp hk;show(hF b hb).snoc (by lia) (by lia)
 show go row [] [[]] (λt ht=>by rw[AT.mp ht];show trivial) hn t h
def xf{F:Sk (Sk Int)}{n:Int}:(rwS F n).length=F.length*(n+1).toNat:=by
 unfold rwS;induction F with
 |nil=>simp
 |cons b F ih=>
  rw[Bm,AD,ih,A1,Bl,Af,Cf,Nat.add_comm]
def JV(n:Nat):n+1<=2^n:=by
 induction n with
 |zero=>decide
 |succ n ih=>rw[D1];lia
theorem xg:∀(row:Sk Int) (F:Sk (Sk Int)),Nn row->(row.foldl rwS F).length<=F.length*2^row.sum.toNat
 |[],F,_=>by simp
 |n::row,F,h=>by
  have{a,b}:=Nn.cons.mp h;have ih:=xg row (rwS F n) b;rw[xf] at ih;have s0:=(dD (i:=1) (by decide) b).1;rw[Ab,show(n+row.sum).toNat=n.toNat+row.sum.toNat by lia,Nat.pow_add,<-Nat.mul_assoc];show BG ih (Nat.mul_le_mul_right _ (Nat.mul_le_mul_left _ ?_));rw[show(n+1).toNat=n.toNat+1 by lia];show JV _
theorem JW{t:Sk Int}(h:Nn t)(i:Nat):Nn (t.take i):=λj=>by
 rw[A5,List.getElem?_take];split
 .have:=h j;rwa [A5] at this
 .simp
def qt(hn:Nn row)(hs:row.sum<=5)(i:Nat):(rwF (row.take i)).length<=32:=by
 have nt:Nn (row.take i):=λj=>by
  rw[A5,List.getElem?_take];split
  .have:=hn j;rwa [A5] at this
  .simp
 have st:(row.take i).sum<=5:=by
  have e:(row.take i).sum+(row.drop i).sum=row.sum:=by rw[<-BQ,Br]
  have nd:Nn (row.drop i):=λj=>by
   rw[A5,List.getElem?_drop];have:=hn (i+j);rwa [A5] at this
  have:=(dD (i:=1) (by decide) nd).1;lia
 have h:=xg (row.take i) [[]] nt;have s0:=(dD (i:=1) (by decide) nt).1;have:2^(row.take i).sum.toNat<=2^5:=Bu (by decide) (by lia);unfold rwF;simp only[Af,CO] at h;lia
theorem xh{wt:Int}:∀{n:Nat}{row t:Sk Int}{first:Nat},t∈rbF n row wt first->Nn row->∀{a:Sk Int},Le a row->Le a t/\wtF t=wt
 |0,_,_,_,h,_,_,_=>nomatch h
 |n+1,row,t,first,h,hn,a,ha=>by
  unfold rbF at h;split at h
  .next e=>rw[AT.mp h];show{ha,4}
  .have{j,hj,h}:=B9.mp h;have hj:=AY.mp hj;have hp:first+j<row.length:=by lia
   show xh h (iL hp hn (by have:=hn (first+j);lia)) (ha.wm hp)
theorem qu{wt:Int}:∀{n:Nat}{row:Sk Int}{first:Nat},row.length<=5->(rbF n row wt first).length<=5^n
 |0,_,_,_=>AW _
 |n+1,row,first,h=>by
  unfold rbF;split
  .show Nat.one_le_pow _ _ (by decide)
  .have go:∀m,m<=5->((List.range m).flatMap λj=>rbF n (wmF row (first+j) 1) wt (first+j)).length<=m*5^n:=by
    intro m;induction m with
    |zero=>intro _;show AW _
    |succ m ih=>
     intro hm;rw[Aw,BH,AD,Cf,Bm,List.flatMap_nil,BR];have:=ih (by lia);have:=qu (n:=n) (wt:=wt) (row:=wmF row (first+m) 1) (first:=first+m) (by rw[dB];show h);lia
   have:=go (min row.length (wt-wtF row).toNat-first) (by lia);have h5:(min row.length (wt-wtF row).toNat-first)*5^n<=5*5^n:=Nat.mul_le_mul_right _ (by lia);rw[D1,Nat.mul_comm];lia
def ch2:Bool:=(List.range 16).all λn=>(List.range (n+1)).all λk=>decide (0<=chF (n:Int) k)&&decide (chF (n:Int) k<=2^n)
def JX:ch2=true:=by ac_nf
def xk{n k:Int}(h0:0<=k)(h1:k<=n)(h2:n<=15):0<=chF n k.toNat/\chF n k.toNat<=2^n.toNat:=by
 have{m,0}:=B4 (show 0<=n by lia);have h:=JX;unfold ch2 at h;rw[AV] at h;have h:=h m (AY.mpr (by lia));rw[AV] at h;have h:=h k.toNat (AY.mpr (by lia));simpa using h
theorem xm:∀{a b:Sk Int},Le a b->b.sum<=15->0<=cC b a/\cC b a<=2^b.sum.toNat
 |[],[],_,_=>by simp[cC]
 |x::a,y::b,h,hs=>by
  have{h1,h2,h3}:=h;have s0:=(dD (i:=1) (by decide) (Le.nn h3).2).1;rw[Ab] at hs;have{c1,c2}:=xm h3 (by lia);have{d1,d2}:=xk h1 h2 (by lia);rw[Ab,show(y+b.sum).toNat=y.toNat+b.sum.toNat by lia,Int.pow_add];unfold cC;show{Bn d1 c1,Cc d2 c2 c1 (Int.pow_nonneg (by decide))}
def ma{a:Sk Int}(h:Le a b)(hs:b.sum<=5):0<=cC b a/\cC b a<=32:=by
 have{c1,c2}:=xm h (by lia);have s0:=(dD (i:=1) (by decide) (Le.nn h).2).1;have:(2:Int)^b.sum.toNat<=2^5:=by
  have:b.sum.toNat=0\/b.sum.toNat=1\/b.sum.toNat=2\/b.sum.toNat=3\/b.sum.toNat=4\/b.sum.toNat=5:=by lia
  rcases this with e|e|e|e|e|e<;>rw[e]<;>decide
 show{c1,4}
structure AskOk(L:Nat)(q:Ask4):Prop where
 hl:q.h.length=L
 fl:q.f.length=L
 hn:Nn q.h
 fn:Nn q.f
 wt:wtF q.h+wtF q.f=q.d
 d1:1<=q.d
 dL:q.d<=L
 L5:L<=5
 k6:q.k<=6
def muF(q:Ask4):Int:=6*q.d+q.f.sum
section
variable{L:Nat}{q:Ask4}
def AskOk.sums(a:AskOk L q):0<=q.h.sum/\q.h.sum<=5/\0<=q.f.sum/\q.f.sum<=5:=by
 have{h1,h2}:=dD (i:=1) (by decide) a.hn;have{f1,f2}:=dD (i:=1) (by decide) a.fn;have w1:=cQ (i:=1) (by decide) a.hn;have w2:=cQ (i:=1) (by decide) a.fn;have:=a.wt;have:=a.dL;have:=a.L5;unfold wtF at*
 lia
def AskOk.held(a:AskOk L q){x:Sm4}(hx:x∈gS q):AskOk L x.2.2/\muF x.2.2+1<=muF q/\x.1=1/\∃w:Int,x.2.1=[w]/\1<=w/\w<=5:=by
 unfold gS at hx;have{p,hp,hx}:=B9.mp hx;have hp:=AY.mp hp;unfold dC at hx;split at hx
 .next hf=>
  rw[AT.mp hx];have NR:p<q.h.length:=by rw[a.hl,<-a.fl];show hp
  have h5:=a.L5;have fl:=a.fl;show{{by rw[dB];show a.hl,by rw[dB];show fl,iL NR a.hn (by have:=a.hn p;lia),iL hp a.fn (by lia),?_,a.d1,a.dL,h5,a.k6},?_,0,1,4,4}
  .have:=a.wt;change wtF (wmF q.h p 1)+wtF (wmF q.f p (-1))=q.d;unfold wtF at*
   rw[jW NR,jW hp];lia
  .change 6*q.d+(wmF q.f p (-1)).sum+1<=6*q.d+q.f.sum;rw[lW hp];lia
 .cases hx
def AskOk.few(a:AskOk L q)(d2:2<=q.d){kp fr:Sk Int}(hk:kp∈rwF q.h)(hf:fr∈rbF 8 q.f (q.d-1-wtF kp) 0):AskOk L {q.d-1,q.k+fr.sum-q.f.sum-q.d+1,kp,fr}/\6*(q.d-1)+fr.sum+1<=muF q/\Le kp q.h/\Le q.f fr/\fr.sum<=5:=by
 have l1:=qr a.hn hk;have{l2,e}:=xh hf a.fn (Le.self a.fn);have n1:=(Le.nn l1).1;have n2:=(Le.nn l2).2;have w1:=cQ (i:=1) (by decide) n1;have w2:=cQ (i:=1) (by decide) a.fn;have{g1,g2}:=l2.gain (i:=1) (by decide);have{s1,s2}:=dD (i:=1) (by decide) n2;have h5:=a.L5;have dL:=a.dL;have k6:=a.k6;have sf:=a.sums;unfold wtF at e w1 w2;show{{l1.len.trans a.hl,l2.len.symm.trans a.fl,n1,n2,?_,?_,?_,h5,?_},?_,l1,l2,?_}
 .change wtF kp+wtF fr=q.d-1;unfold wtF;lia
 .change 1<=q.d-1;lia
 .change q.d-1<=L;lia
 .change q.k+fr.sum-q.f.sum-q.d+1<=6;lia
 .unfold muF;lia
 .lia
def qv{x:Sm4}(hx:x∈iK q):∃kp∈rwF q.h,∃fr∈rbF 8 q.f (q.d-1-wtF kp) 0,x=iJ q kp fr:=by
 unfold iK at hx;have{kp,hk,hx}:=B9.mp hx;unfold dU at hx;have{fr,hf,0}:=Ae.mp hx;show{kp,hk,fr,hf,0}
def AskOk.less(a:AskOk L q)(d2:2<=q.d){x:Sm4}(hx:x∈cf q):AskOk L x.2.2/\muF x.2.2+1<=muF q:=by
 unfold cf at hx;rcases B'.mp hx with hx|hx
 .show{(a.held hx).1,(a.held hx).2.1}
 .have{kp,hk,fr,hf,0}:=qv hx;have{h1,h2,_}:=a.few d2 hk hf;show{h1,h2}
end
def AskOk.mu(a:AskOk L q):6<=muF q/\muF q<=35:=by
 have:=a.sums;have:=a.d1;have:=a.dL;have:=a.L5;unfold muF;lia
theorem xn{L:Nat}:∀{n m:Nat}{q:Ask4},AskOk L q->muF q<=n->muF q<=m->fV n q=fV m q
 |0,_,q,a,h,_=>by have:=a.mu;lia
 |_+1,0,q,a,_,h=>by have:=a.mu;lia
 |n+1,m+1,q,a,h1,h2=>by
  unfold fV;split
  .rfl
  .split
   .rfl
   .next hd=>
    show BB List.sum (BA λx hx=>?_);have{b,c}:=a.less (by have:=a.d1;lia) hx;rw[xn b (n:=n) (m:=m) (by lia) (by lia)]
def cF(q:Ask4):Int:=fV 36 q
def xo(h:q.k<0):cF q=0:=A8 h
def xp(h:¬q.k<0)(hd:q.d=1):cF q=if q.k=0 then 1 else 0:=by
 unfold cF fV;rw[A6 h,A8 hd]
def xq(a:AskOk L q)(h:¬q.k<0)(hd:¬q.d=1):cF q=((cf q).map λx=>x.1*cg x.2.1*cF x.2.2).sum:=by
 have e:cF q=fV 37 q:=xn a (by have:=a.mu;lia) (by have:=a.mu;lia);rw[e];unfold fV;rw[A6 h,A6 hd];rfl
theorem xr:∀{t:Sk Int}{i:Int},wtG i (t++[0])=wtG i t
 |[],i=>by simp[wtG]
 |x::t,i=>by
  change i*x+wtG (i+1) (t++[0])=i*x+wtG (i+1) t;rw[xr]
def trG:Sk Int->Sk Int
 |[]=>[]
 |x::r=>if x=0 then trG r else x::r
def trF(t:Sk Int):Sk Int:=(trG t.reverse).reverse
def bU(n:Nat)(t:Sk Int):Sk Int:=t++List.replicate (n-t.length) 0
def xt(t:Sk Int):trF (t++[0])=trF t:=by
 unfold trF;rw[Ci];rfl
def xu{t:Sk Int}{x:Int}(h:x≠0):trF (t++[x])=t++[x]:=by
 unfold trF;rw[Ci];change(trG (x::t.reverse)).reverse=_;unfold trG;rw[A6 h];simp
def qw{α:Type}{t:Sk α}(h:t≠[]):∃s x,t=s++[x]:={t.dropLast,t.getLast h,(List.dropLast_concat_getLast h).symm}
theorem xv:∀{n:Nat}{t:Sk Int},t.length=n->(trF t).length<=n/\bU n (trF t)=t/\(trF t=[]\/∃s x,trF t=s++[x]/\x≠0)
 |0,t,h=>by
  rw[BV.mp h];show{AB _,0,.inl rfl}
 |n+1,t,h=>by
  have{s,x,0}:=qw (t:=t) (by rintro rfl;cases h);have hs:s.length=n:=by simpa using h
  by_cases e:x=0
  .subst e;have{h1,h2,h3}:=xv hs;rw[xt];show{4,?_,h3};unfold bU at h2⊢;rw[show n+1-(trF s).length=(n-(trF s).length)+1 by lia,DK,<-B8,h2]
  .rw[xu e];show{4,by unfold bU;rw[h,Nat.sub_self];simp,.inr {s,x,0,e}}
def JY{s:Sk Int}{x:Int}(h:Nn (s++[x])):Nn s/\0<=x:=by
 induction s with
 |nil=>show{λi=>by simp,(Nn.cons.mp h).1}
 |cons y s ih=>
  have{a,b}:=Nn.cons.mp h;show{Nn.cons.mpr {a,(ih b).1},(ih b).2}
def qx :∀{t:Sk Int}{i:Int},wtG i (t++List.replicate n 0)=wtG i t:=by
 induction n with
 |zero=>intro t i;simp
 |succ n ih=>
  intro t i;rw[DK,<-B8,xr,ih]
def cY:Nat->Nat->Nat->Sk (Sk Int)
 |_,0,_=>[[]]
 |i,n+1,b=>(List.range (b/i+1)).flatMap λx=>(cY (i+1) n (b-i*x)).map ((x:Int):: ·)
theorem jX:∀{n i b:Nat}{t:Sk Int},1<=i->t.length=n->Nn t->wtG (i:Int) t<=b->t∈cY i n b
 |0,i,b,t,_,hl,_,_=>by rw[BV.mp hl];show AE
 |n+1,i,b,[],_,hl,_,_=>nomatch hl
 |n+1,i,b,x::t,hi,hl,hn,hw=>by
  have{x0,tn}:=Nn.cons.mp hn;have{m,0}:=B4 x0;have w:=cQ (i:=(i:Int)+1) (by lia) tn;unfold wtG at hw;have hm:i*m<=b:=by
   have:((i*m:Nat):Int)=(i:Int)*(m:Int):=Int.natCast_mul i m;lia
  unfold cY;show B9.mpr {m,AY.mpr (Nat.lt_succ_of_le ((Nat.le_div_iff_mul_le (by lia)).mpr (by rw[Nat.mul_comm];show hm))),Ae.mpr {t,jX (by lia) (by simpa using hl) tn ?_,0}};have:((i*m:Nat):Int)=(i:Int)*(m:Int):=Int.natCast_mul i m;change wtG ((i:Int)+1) t<=_;lia
def xw:Bool:=(List.range 6).all λL=>decide ((cY 1 L 5).length<=19)
def JZ:xw=true:=by ac_nf
def J0(a b:Sk Int):cg (a++b)=cg a*cg b:=by
 have go:∀(b:Sk Int) (x:Int),b.foldl (· * ·) x=x*b.foldl (· * ·) 1:=λb=>by
  induction b with
  |nil=>intro x;simp
  |cons y b ih=>
   intro x;rw[BY,BY,ih,ih (1*y),Int.one_mul,Int.mul_assoc]
 unfold cg;rw[Bz,go]
def cL:Sk (Sk Int):=[[],[1],[1,3],[1,12,21,15],[1,27,225,675,666,378,105],[1,48,882,7915]]
def cT(d k:Nat):Int:=(cL.getD d []).getD k 0
def jY(d k:Nat):Int:=((cc d k).map (l6 d)).sum
def fy(d x n:Nat):Sk Pt:=(List.range n).map λj:Nat=>((x:Int),(d:Int)-(x:Int)-(j:Int))
def fz(d n:Nat):Sk Pt:=(List.range n).flatMap λx=>fy d x (d+1-x)
def bw(d:Nat):Sk Pt:=fz d (d+1)
def xx(d n:Nat):fz d (n+1)=fz d n++fy d n (d+1-n):=by unfold fz;rw[Aw,BH,List.flatMap_singleton]
def J1(d x n:Nat):fy d x (n+1)=fy d x n++[((x:Int),(d:Int)-(x:Int)-(n:Int))]:=by unfold fy;rw[Aw,A7];rfl
def xz(d x n:Nat):(fy d x n).length=n:=by simp[fy]
def J2(d n:Nat)(hn:n<=d+1)(hd:d<=5):(fz d n).length<=36:=by
 have:∀m,m<=6->(fz d m).length<=6*m:=λm hm=>by
  induction m with
  |zero=>simp[fz]
  |succ m ih=>
   have:=ih (by lia);rw[xx,AD,xz];lia
 have:=this n (by lia);lia
def lvA{α:Type}:Sk α->Nat->Sk (Sk α)
 |row,0=>[row]
 |[],_+1=>[]
 |x::row,k+1=>(lvA row (k+1)).map (x:: ·)++lvA row k
theorem qy{α:Type}:∀(row:Sk α) (k:Nat),row.length<k->lvA row k=[]
 |_,0,h=>by lia
 |[],_+1,_=>rfl
 |x::row,k+1,h=>by
  simp only[Af] at h;rw[lvA,qy row (k+1) (by lia),qy row k (by lia)];rfl
theorem jZ{α:Type}:∀(row:Sk α) (k:Nat),(lvA row k).length<=2^row.length
 |[],0=>by simp[lvA]
 |[],_+1=>by simp[lvA]
 |x::row,0=>by
  rw[lvA];show Nat.one_le_two_pow
 |x::row,k+1=>by
  rw[lvA,AD,A1,Af,D1];have h1:=jZ row (k+1);have h2:=jZ row k;lia
theorem md{α:Type}:∀(row:Sk α) (k:Nat) (ws:Sk α),ws∈lvA row k->ws.length<=row.length
 |row,0,ws,h=>by
  have:ws=row:=by cases row<;>simpa[lvA] using h
  rw[this];show AB _
 |[],_+1,ws,h=>by simp[lvA] at h
 |x::row,k+1,ws,h=>by
  rw[lvA] at h;rcases B'.mp h with q|q
  .have{us,hu,0}:=Ae.mp q;have:=md row (k+1) us hu;simp;lia
  .have:=md row k ws q;simp;lia
def dm(d:Nat):Sk Pt:=((bw d).drop 1).dropLast
def p0(d:Nat):Pt:=(0,(d:Int))
def pl(d:Nat):Pt:=((d:Int),0)
def bp(d k:Nat):Sk (Sk Pt):=(lvA (dm d) k).map λw=>[p0 d]++w++[pl d]
def dE(d k:Nat):Prop:=1<=d/\((d<=3/\k<=6)\/(d=4/\k<=2))
def bX(H0 H:Hp)(Wq:Sk (Sk V))(vs:Sk V):Prop:=vs.length=Wq.length/\∀(i:Nat) ws,Wq[i]? =some ws->∃a,vs[i]? =some (.ref a)/\H0 a=none/\H a=some (.lst ws)
theorem bX.nil{H0:Hp}:bX H0 H [] []:={0,λi ws h=>by simp at h}
theorem bX.mono{H0 H0':Hp}{Wq:Sk (Sk V)}(h:bX H0 H Wq vs)(s0:ae H0' H0)(s:ae H H'):bX H0' H' Wq vs:={h.1,λi ws e=>by
 have{a,e1,e2,e3}:=h.2 i ws e;show{a,e1,s0.free e2,s _ _ e3}}
def bX.append{H0:Hp}{Wq W':Sk (Sk V)}{vs':Sk V}(h:bX H0 H Wq vs)(h':bX H0 H W' vs'):bX H0 H (Wq++W') (vs++vs'):=by
 show{by rw[AD,AD,h.1,h'.1],λi ws e=>?_};rcases Be i Wq.length with q|q
 .rw[Ba q] at e;rw[Ba (by rw[h.1];show q)];show h.2 i ws e
 .rw[BF q] at e;rw[BF (by rw[h.1];show q),h.1];show h'.2 _ ws e
theorem bX.one{H0:Hp}(h0:H0 a=none)(h:H a=some (.lst ws)):bX H0 H [ws] [.ref a]:={0,λi us e=>by
 match i,e with
 |0,e=>cases e;show{a,0,h0,h}
 |i+1,e=>simp at e}
def upE(d:Nat):Sk Pt:=(List.range (d+1)).map λi:Nat=>((i:Int),(d:Int)-(i:Int))
def loE(d:Nat):Sk Pt:=((List.range (d+1)).map λi:Nat=>((0:Int),(d:Int)-(i:Int)))++(List.range d).map λi:Nat=>((1:Int)+(i:Int),(0:Int))
abbrev Pc:=Sk Pt
def zP:Pt:=(0,0)
def crn(a b c:Pt):Int:=(b.1-a.1)*(c.2-b.2)-(b.2-a.2)*(c.1-b.1)
def bz(ps:Sk Pt)(RD:Int):Sn Nat:=((List.range (ps.length-2)).find? λi=>decide (crn (ps.getD i zP) (ps.getD (i+1) zP) (ps.getD (i+2) zP)*RD>0)).map (· +1)
def aJ(a b c:Pt):Pt:=(a.1+c.1-b.1,a.2+c.2-b.2)
def bq(d:Nat)(p:Pt):Bool:=decide (p.1>=0)&&(decide (p.2>=0)&&decide (p.1+p.2<=(d:Int)))
def aY(d:Nat)(ps:Sk Pt)(RD:Int):Sk (Pc×Sk Pt):=match bz ps RD with
 |none=>[]
 |some p=>[([ps.getD (p-1) zP,ps.getD p zP,ps.getD (p+1) zP],ps.take p++ps.drop (p+1))]++
  if bq d (aJ (ps.getD (p-1) zP) (ps.getD p zP) (ps.getD (p+1) zP))=true then [([ps.getD (p-1) zP,ps.getD p zP,ps.getD (p+1) zP,aJ (ps.getD (p-1) zP) (ps.getD p zP) (ps.getD (p+1) zP)],ps.take p++[aJ (ps.getD (p-1) zP) (ps.getD p zP) (ps.getD (p+1) zP)]++ps.drop (p+1))] else []
def inB(p:Pt):Bool:=decide (-20<=p.1)&&decide (p.1<=20)&&decide (-20<=p.2)&&decide (p.2<=20)
def psB(ps:Sk Pt):Bool:=ps.all inB&&decide (ps.length<=30)
def pcD(c:Pc):D:= .t (c.map pt)
theorem qz{α:Type}{f:α->D}(z:α){H:Hp}{Wq:Sk α}{vs:Sk V}(h:Iss H (Wq.map f) vs):∀(l:Sk Nat),(∀i∈l,i<Wq.length)->Iss H ((l.map λi=>Wq.getD i z).map f) (l.map λi=>vs.getD i .non)
 |[],_=>ax
 |i::l,hl=>by
  have hi:i<Wq.length:=hl i (by simp);have hr:i<vs.length:=by rw[h.length,A1];show hi
  show ap ?_ (qz z h l λj hj=>hl j (by simp[hj]));have{d,hd,h1}:=h.of_get (A2 hr);rw[AC,A2 hi] at hd;cases hd;change Is H (f (Wq.getD i z)) (vs.getD i .non);rw[A5,A5,A2 hi,A2 hr];show h1
def J'(t:aE H H'){p:Pt}(h:Is H (pt p) v):Is H' (pt p) v:=by
 have{a,0,ha}:=kW h;show gC (t _ _ ha)
theorem qA{H H':Hp}(t:aE H H'):∀{ps:Sk Pt}{vs:Sk V},Iss H (ps.map pt) vs->Iss H' (ps.map pt) vs
 |[],_,h=>by rw[bm h];show ax
 |p::ps,_,h=>by
  have{u,us,0,h1,h2}:=aM h;show ap (J' t h1) (qA t h2)
def xA(t:aE H H'){c:Pc}(h:Is H (pcD c) v):Is H' (pcD c) v:=by
 have{a,vs,0,ha,hi}:=bu h;show bt (t _ _ ha) (qA t hi)
def j0{H0:Hp}(s:ae H0 H):aE H (nw H0 H):=λa xs e=>lS s e
def xB{H0:Hp}(s:ae H0 H)(n:H0 a=none)(h:Is H (pts ps) (.ref a)):Is (nw H0 H) (pts ps) (.ref a):=by
 have{_,vs,e,ha,hi}:=aD h;cases e;show aA (by rw[cN n];show ha) (qA (j0 s) hi)
theorem Ka{H0 H1:Hp}(n:H1 a=none)(s:ae H1 H2):ae (nw H0 H1) (hid (nw H0 H2) a):=λb o e=>by
 have hb:b≠a:=by rintro rfl;rw[bM _ _ e] at n;cases n
 rw[eC hb];show fR s b o e
def fA(h:j<ps.length):atI (ps.map pt) (j:Int)=some (pt (ps.getD j zP)):=by
 show gF (j:=j) rfl ?_;rw[AC,A2 h,A5,A2 h];rfl
def dW(h:j<ps.length):ps.getD j zP∈ps:=by
 rw[A5,A2 h];show DC h
def xC(h:psB ps=true):(∀p∈ps,-20<=p.1/\p.1<=20/\-20<=p.2/\p.2<=20)/\ps.length<=30:=by
 unfold psB inB at h;simp only[A9,AQ,AV] at h;show{λp hp=>by have:=h.1 p hp;lia,h.2}
theorem xD{p:Nat->Bool}:∀{n i:Nat},i<n->(∀j<i,p j=false)->p i=true->(List.range n).find? p=some i
 |0,i,h,_,_=>absurd h (by lia)
 |n+1,i,h,hb,hp=>by
  rw[Aw,List.find?_append];by_cases e:i=n
  .subst e;have:(List.range i).find? p=none:=by
    rw[List.find?_eq_none];intro j hj;rw[hb j (AY.mp hj)];decide
   rw[this];simp[hp]
  .rw[xD (n:=n) (by lia) hb hp];rfl
def Kb{p:Nat->Bool}(h:∀j<n,p j=false):(List.range n).find? p=none:=by
 rw[List.find?_eq_none];intro j hj;rw[h j (AY.mp hj)];decide
def j4{s:Int}(h:bz ps s=some p):1<=p/\p+1<ps.length:=by
 unfold bz at h;have{i,hi,0}:=A'.mp h;have:=AY.mp (List.mem_of_find?_eq_some hi);lia
def wkP(p:Pt):Sk Int:=[p.1,p.2]
def wk(ps:Sk Pt):Sk (Sk Int):=ps.map wkP
def qB{a b:Sk Pt}(h:wk a=wk b):a=b:=by
 induction a generalizing b with
 |nil=>cases b with
  |nil=>rfl
  |cons=>cases h
 |cons p a ih=>cases b with
  |nil=>cases h
  |cons q b=>
   unfold wk at h;rw[AK,AK] at h;injection h with h1 h2;unfold wkP at h1;simp only[CP,and_true] at h1;rw[ih h2,Prod.ext h1.1 h1.2]
def lam(p:Pt):Int:=10*p.1-p.2
def az(d:Nat)(ps:Sk Pt):Prop:=(∀p∈ps,bq d p=true)/\(ps.map lam).Pairwise (· < ·)
def ci{p:Pt}:bq d p=true↔0<=p.1/\0<=p.2/\p.1+p.2<=d:=by
 unfold bq;simp only[A9,AQ,ge_iff_le]
def arF:Sk Pt->Int
 |p::q::r=>(q.1-p.1)*(p.2+q.2)+arF (q::r)
 |_=>0
theorem qC{p:Pt}(h:az d (p::r)):az d r:={λq hq=>h.1 q (AG _ hq),(Ar.mp (by simpa using h.2)).2}
def qE{p q:Pt}(hd:d<=4)(h:az d (p::q::r)):p.1<=q.1:=by
 have h1:=ci.mp (h.1 p AE);have h2:=ci.mp (h.1 q (AG _ AE));have h3:lam p<lam q:=by
  have:=h.2;rw[AK,AK] at this;show(Ar.mp this).1 _ AE
 unfold lam at h3;lia
theorem xE{d:Nat}(hd:d<=4):∀{r:Sk Pt}{p:Pt},az d (p::r)->arF (p::r)<=2*(d:Int)*((d:Int)-p.1)
 |[],p,h=>by
  have h1:=ci.mp (h.1 p AE);change(0:Int)<=_;show Bn (by lia) (by lia)
 |q::r,p,h=>by
  have h1:=ci.mp (h.1 p AE);have h2:=ci.mp (h.1 q (AG _ AE));have h3:=qE hd h;have ih:=xE hd (qC h);have e:(q.1-p.1)*(p.2+q.2)<=(q.1-p.1)*(2*(d:Int)):=CL (by lia) (by lia);have e2:2*(d:Int)*((d:Int)-p.1)=(q.1-p.1)*(2*(d:Int))+2*(d:Int)*((d:Int)-q.1):=by
   rw[BO (q.1-p.1),<-Cw];congr 1
   lia
  change(q.1-p.1)*(p.2+q.2)+arF (q::r)<=_;lia
theorem fW{d:Nat}(hd:d<=4):∀{ps:Sk Pt},az d ps->0<=arF ps
 |[],_=>Bk 0
 |[_],_=>Bk 0
 |p::q::r,h=>by
  have h1:=ci.mp (h.1 p AE);have h2:=ci.mp (h.1 q (AG _ AE));have h3:=qE hd h;have ih:=fW hd (qC h);have:=Bn (a:=q.1-p.1) (b:=p.2+q.2) (by lia) (by lia);change 0<=(q.1-p.1)*(p.2+q.2)+arF (q::r);lia
def iM(hd:d<=4)(h:az d ps):arF ps<=32:=by
 cases ps with
 |nil=>change(0:Int)<=32;lia
 |cons p r=>
  have h1:=ci.mp (h.1 p AE);have h2:=xE hd h;have h3:2*(d:Int)*((d:Int)-p.1)<=2*(d:Int)*4:=CL (by lia) (by lia);lia
theorem qF(a:Pt)(r:Sk Pt):∀l:Sk Pt,arF (l++a::r)=arF (l++[a])+arF (a::r)
 |[]=>by change arF (a::r)=0+arF (a::r);lia
 |[p]=>by
  change(a.1-p.1)*(p.2+a.2)+arF (a::r)=(a.1-p.1)*(p.2+a.2)+0+arF (a::r);lia
 |p::q::l=>by
  have ih:=qF a r (q::l);change(q.1-p.1)*(p.2+q.2)+arF (q::l++a::r)=(q.1-p.1)*(p.2+q.2)+arF (q::l++[a])+arF (a::r);lia
def iN(l:Sk Pt)(a b c:Pt)(r:Sk Pt):arF (l++a::c::r)=arF (l++a::b::c::r)+crn a b c:=by
 rw[qF a (c::r) l,qF a (b::c::r) l];change _+((c.1-a.1)*(a.2+c.2)+arF (c::r))=_+((b.1-a.1)*(a.2+b.2)+((c.1-b.1)*(b.2+c.2)+arF (c::r)))+crn a b c;unfold crn;simp only[Int.sub_mul,Cw,Int.mul_sub];have:=BO;rw[BO b.2 c.1,BO b.2 b.1,BO a.2 c.1,BO a.2 b.1];lia
def me(l:Sk Pt)(a b c:Pt)(r:Sk Pt):arF (l++a::aJ a b c::c::r)=arF (l++a::b::c::r)+2*crn a b c:=by
 have h1:=iN l a b c r;have h2:=iN l a (aJ a b c) c r;have h3:crn a (aJ a b c) c= -crn a b c:=by
  unfold crn aJ;simp only[Int.sub_mul,Cw,Int.mul_sub,Int.add_mul];rw[BO b.2 c.1,BO b.2 b.1,BO a.2 c.1,BO a.2 b.1,BO a.2 a.1,BO c.2 c.1,BO c.2 b.1,BO b.2 a.1,BO c.2 a.1];lia
 lia
def Kc{L R:Sk Int}{A B C F:Int}(h:(L++A::B::C::R).Pairwise (· < ·))(h1:A<F)(h2:F<C):(L++A::F::C::R).Pairwise (· < ·):=by
 rw[List.pairwise_append] at h⊢;have{hl,hr,hx}:=h;have{r1,hr}:=Ar.mp hr;have{r2,hr}:=Ar.mp hr;have{r3,hr}:=Ar.mp hr;show{hl,Ar.mpr {λy hy=>?_,Ar.mpr {λy hy=>?_,Ar.mpr {r3,hr}}},λx Nl y hy=>?_}
 .rcases AI.mp hy with rfl|hy
  .show h1
  .show r1 y (AG _ hy)
 .rcases AI.mp hy with rfl|hy
  .show h2
  .have:=r3 y hy;lia
 .rcases AI.mp hy with rfl|hy
  .show hx x Nl _ AE
  rcases AI.mp hy with rfl|hy
  .have:=hx x Nl A AE;lia
  .show hx x Nl y (AG _ (AG _ hy))
def mf(h1:1<=p)(h2:p+1<ps.length):∃l a b c r,ps=l++a::b::c::r/\p=l.length+1/\ps.getD (p-1) zP=a/\ps.getD p zP=b/\ps.getD (p+1) zP=c/\ps.take p=l++[a]/\ps.drop (p+1)=c::r:=by
 obtain⟨i,rfl⟩:∃i,p=i+1:={p-1,4};have e0:ps.drop i=ps[i]::ps[i+1]::ps[i+2]::ps.drop (i+3):=by
  rw[As (by lia),As (by lia),As (by lia)]
 have e1:ps=ps.take i++ps[i]::ps[i+1]::ps[i+2]::ps.drop (i+3):=by rw[<-e0,Br]
 show{ps.take i,ps[i],ps[i+1],ps[i+2],ps.drop (i+3),e1,by rw[Ai];lia,?_,?_,?_,?_,?_}
 .simp[List.getD,show i<ps.length by lia]
 .simp[List.getD,show i+1<ps.length by lia]
 .simp[List.getD,show i+1+1<ps.length by lia]
 .rw[AX,A2 (by lia)];rfl
 .rw[As (by lia)]
def xF(h:bz ps 1=some p):(1<=p/\p+1<ps.length)/\0<crn (ps.getD (p-1) zP) (ps.getD p zP) (ps.getD (p+1) zP):=by
 show{j4 h,?_};unfold bz at h;have{i,hi,0}:=A'.mp h;have:=List.find?_some hi;rw[AQ] at this;change 0<crn (ps.getD i zP) (ps.getD (i+1) zP) (ps.getD (i+2) zP);lia
def xG{l:Sk Pt}{a b c:Pt}(h:az d (l++a::b::c::r)):az d (l++a::c::r):=by
 have s:(l++a::c::r).Sublist (l++a::b::c::r):=List.Sublist.append_left (List.Sublist.cons₂ a (List.sublist_cons_self b _)) l;show{λp hp=>h.1 p (s.subset hp),h.2.sublist (s.map lam)}
def xH{l:Sk Pt}{a b c:Pt}(h:az d (l++a::b::c::r))(hf:bq d (aJ a b c)=true):az d (l++a::aJ a b c::c::r):=by
 show{λp hp=>?_,?_}
 .have:p∈l++a::b::c::r\/p=aJ a b c:=by
   rcases B'.mp hp with hp|hp
   .show .inl (Bv _ hp)
   rcases AI.mp hp with hp|hp
   .show .inl (Ak _ (by rw[hp];show AE))
   rcases AI.mp hp with hp|hp
   .show .inr hp
   .show .inl (Ak _ (AG _ (AG _ hp)))
  rcases this with hp|hp
  .show h.1 p hp
  .rw[hp];show hf
 .have h2:=h.2;rw[A7,AK,AK,AK] at h2⊢;have{_,hr,_}:=List.pairwise_append.mp h2;have{r1,hr}:=Ar.mp hr;have{r2,hr}:=Ar.mp hr;have e1:=r1 (lam b) AE;have e2:=r2 (lam c) AE;show Kc h2 ?_ ?_
  .unfold lam aJ at*;dsimp only at*;lia
  .unfold lam aJ at*;dsimp only at*;lia
def j5(h:az d ps){x:Pc×Sk Pt}(hx:x∈aY d ps 1):az d x.2/\arF ps+1<=arF x.2/\x.2.length<=ps.length:=by
 unfold aY at hx;cases hT:bz ps 1 with
 |none=>rw[hT] at hx;show nomatch hx
 |some p=>
  rw[hT] at hx;dsimp only at hx;have{{p1,p2},hc}:=xF hT;have{l,a,b,c,r,e,ep,ga,gb,gc,et,ed}:=mf p1 p2;rw[ga,gb,gc,et,ed] at hx;rw[ga,gb,gc] at hc;have hl:=BB List.length e;rw[e] at h;rcases B'.mp hx with hx|hx
  .rw[AT.mp hx];have ea:l++[a]++c::r=l++a::c::r:=by simp
   dsimp only;rw[ea];show{xG h,?_,?_}
   .have:=iN l a b c r;rw[e];lia
   .simp at hl⊢;lia
  .cases hP:bq d (aJ a b c) with
   |false=>rw[hP] at hx;simp at hx
   |true=>
    rw[hP,A8 rfl] at hx;rw[AT.mp hx];have ea:l++[a]++[aJ a b c]++c::r=l++a::aJ a b c::c::r:=by simp
    dsimp only;rw[ea];show{xH h hP,?_,?_}
    .have:=me l a b c r;rw[e];lia
    .simp at hl⊢;lia
def abI(i:Int):Int:=if i<0 then -i else i
def pwF(c:Pc):Int:=if c.length=3 then abI (crn (c.getD 0 zP) (c.getD 1 zP) (c.getD 2 zP)) else 1
def wF(d:Nat):Nat->Sk Pt->Int
 |0,_=>0
 |n+1,ps=>if ps=upE d then 1 else((aY d ps 1).map λx=>pwF x.1*wF d n x.2).sum
theorem xI{d:Nat}(hd:d<=4):∀{n m:Nat}{ps:Sk Pt},az d ps->33-arF ps<=n->33-arF ps<=m->wF d n ps=wF d m ps
 |0,m,ps,h,h1,h2=>by have:=iM hd h;lia
 |n+1,0,ps,h,h1,h2=>by have:=iM hd h;lia
 |n+1,m+1,ps,h,h1,h2=>by
  unfold wF;by_cases e:ps=upE d
  .rw[A8 e,A8 e]
  .rw[A6 e,A6 e];congr 1
   show BA λx hx=>?_;have{a,b,_}:=j5 h hx;rw[xI hd a (by lia) (by lia) (m:=m)]
def Kd(d n:Nat)(ps:Sk Pt):wF d (n+1) ps=if ps=upE d then 1 else((aY d ps 1).map λx=>pwF x.1*wF d n x.2).sum:=by rw[wF]
def Ke{m:Nat}(hd:d<=4)(hn:33<=n)(hm:33<=m)(h:az d ps):wF d (n+1) ps=if ps=upE d then 1 else((aY d ps 1).map λx=>pwF x.1*wF d m x.2).sum:=by
 rw[Kd];by_cases e:ps=upE d
 .rw[A8 e,A8 e]
 .rw[A6 e,A6 e];congr 1
  show BA λx hx=>?_;have{a,b,_}:=j5 h hx;have:=fW hd h;rw[xI hd a (n:=n) (m:=m) (by lia) (by lia)]
def iO:Nat:=40
def wW(d:Nat)(ps:Sk Pt):Int:=wF d iO ps
def xJ(hd:d<=4)(h:az d ps):wW d ps=if ps=upE d then 1 else((aY d ps 1).map λx=>pwF x.1*wW d x.2).sum:=by
 obtain⟨n,hn⟩:∃n,iO=n+1:={(39),0};have h33:33<=n:=by have:iO=40:=rfl;lia
 unfold wW;rw[hn];show Ke hd h33 (by lia) h
section
variable{κ:Type}[DecidableEq κ]
def tK(R:Sk (κ×Int)):Sk (κ×V):=R.map λx=>(x.1,V.int x.2)
def dF:Sk (κ×Int)->κ->Int
 |[],_=>0
 |(a,b)::r,k=>if a=k then b else dF r k
def cr:Sk (κ×Int)->κ->Int->Sk (κ×Int)
 |[],k,v=>[(k,v)]
 |(a,b)::r,k,v=>if a=k then(a,v)::r else(a,b)::cr r k v
def xK(R:Sk (κ×Int)):(tK R).length=R.length:=by unfold tK;rw[A1]
theorem gT(k:κ):∀R:Sk (κ×Int),aU (tK R) k=if k∈R.map (·.1) then some (.int (dF R k)) else none
 |[]=>rfl
 |(a,b)::r=>by
  have ih:=gT k r;change aU ((a,V.int b)::tK r) k=_;by_cases e:a=k
  .subst e;rw[cH rfl];simp[dF]
  .rw[cU e,ih];have:¬k=a:=λz=>e z.symm;change _=if k∈a::r.map (·.1) then some (V.int (if a=k then b else dF r k)) else none
   rw[A6 e];by_cases h:k∈r.map (·.1)
   .rw[A8 h,A8 (AG _ h)]
   .rw[A6 h,A6 λz=>(AI.mp z).elim this h]
theorem qG(k:κ)(v:Int):∀R:Sk (κ×Int),(cr R k v).map (·.1)=if k∈R.map (·.1) then R.map (·.1) else R.map (·.1)++[k]
 |[]=>by simp[cr]
 |(a,b)::r=>by
  have ih:=qG k v r;unfold cr;by_cases e:a=k
  .subst e;simp
  .rw[A6 e,AK,ih];have:¬k=a:=λz=>e z.symm;change _=if k∈a::r.map (·.1) then a::r.map (·.1) else a::r.map (·.1)++[k]
   by_cases h:k∈r.map (·.1)
   .rw[A8 h,A8 (AG _ h)]
   .rw[A6 h,A6 λz=>(AI.mp z).elim this h];rfl
def xL{k:κ}{v:Int}{R:Sk (κ×Int)}(h:(R.map (·.1)).Nodup):((cr R k v).map (·.1)).Nodup:=by
 rw[qG];by_cases e:k∈R.map (·.1)
 .rw[A8 e];show h
 .rw[A6 e];show List.nodup_append.mpr {h,7,λa ha b hb z=>?_};rw[AT.mp hb] at z;show e (z▸ha)
theorem qH{k:κ}{v:Int}:∀{R:Sk (κ×Int)}{x:κ×Int},x∈cr R k v->x∈R\/x=(k,v)
 |[],x,h=>.inr (AT.mp h)
 |(a,b)::r,x,h=>by
  unfold cr at h;by_cases e:a=k
  .rw[A8 e] at h;rcases AI.mp h with h|h
   .show .inr (by rw[h,e])
   .show .inl (AG _ h)
  .rw[A6 e] at h;rcases AI.mp h with h|h
   .show .inl (by rw[h];show AE)
   .show(qH h).imp (AG _) id
theorem qI{k:κ}{v:Int}:∀{R:Sk (κ×Int)},(R.map (·.1)).Nodup->aZ (tK R) k (.int v)=tK (cr R k v)
 |[],_=>rfl
 |(a,b)::r,nd=>by
  rw[AK,Bf] at nd;have ih:=qI (k:=k) (v:=v) nd.2;unfold aZ at ih⊢;change(if(((a,V.int b)::tK r).any λkv=>decide (kv.1=k))=true then _ else _)=_;rw[List.any_cons];by_cases e:a=k
  .subst e;rw[Ay rfl,Bool.true_or,A8 rfl];unfold cr;rw[A8 rfl];change((a,V.int b)::tK r).map _=(a,V.int v)::tK r;rw[AK,A8 rfl];congr 1
   conv=>rhs;rw[<-List.map_id (tK r)]
   show BA λx hx=>?_;have{y,hy,0}:=Ae.mp hx;rw[A6 λz=>nd.1 (Ae.mpr {y,hy,z})];rfl
  .rw[An e,Bool.false_or];unfold cr;rw[A6 e];change _=(a,V.int b)::tK (cr r k v);rw[<-ih];by_cases c:((tK r).any λkv=>decide (kv.1=k))=true
   .rw[A8 c,A8 c];change((a,V.int b)::tK r).map _=_;rw[AK,A6 e]
   .rw[A6 c,A6 c];rfl
end
theorem mh{α:Type}[DecidableEq α]:∀{l L:Sk α},l.Nodup->(∀x∈l,x∈L)->l.length<=L.length
 |[],L,_,_=>AW _
 |x::r,L,nd,h=>by
  rw[Bf] at nd;have hx:x∈L:=h x AE;have:=mh (L:=L.erase x) nd.2 λy hy=>(List.mem_erase_of_ne λe:y=x=>nd.1 (e▸hy)).mpr (h y (AG _ hy));rw[List.length_erase_of_mem hx] at this;have:=List.length_pos_of_mem hx;rw[Af];lia
def gU:Sk Pt->Sk (Sk Pt)
 |[]=>[[]]
 |x::r=>gU r++(gU r).map (x:: ·)
theorem xM:∀r:Sk Pt,(gU r).length=2^r.length
 |[]=>rfl
 |x::r=>by
  unfold gU;rw[AD,A1,xM r,Af,D1];lia
theorem mi:∀{row ps:Sk Pt},(row.map lam).Pairwise (· < ·)->(ps.map lam).Pairwise (· < ·)->(∀p∈ps,p∈row)->ps∈gU row
 |[],[],_,_,_=>AT.mpr rfl
 |[],p::r,_,_,h=>absurd (h p AE) (by simp)
 |x::row,ps,h1,h2,h3=>by
  rw[AK] at h1;have{hx,h1}:=Ar.mp h1;unfold gU;cases ps with
  |nil=>show Bv _ (mi h1 h2 λp hp=>nomatch hp)
  |cons p r=>
   rw[AK] at h2;have{hp,h2}:=Ar.mp h2;have far:∀q∈r,q∈row:=λq hq=>by
    rcases AI.mp (h3 q (AG _ hq)) with e|e
    .exfalso;have a1:=hp (lam q) (Ae.mpr {q,hq,0});rcases AI.mp (h3 p AE) with e2|e2
     .rw[e,e2] at a1;lia
     .have:=hx (lam p) (Ae.mpr {p,e2,0});rw[e] at a1;lia
    .show e
   rcases AI.mp (h3 p AE) with e|e
   .rw[e];show Ak _ (Ae.mpr {r,mi h1 h2 far,0})
   .show Bv _ (mi h1 (by rw[AK];show Ar.mpr {hp,h2}) λq hq=>?_);rcases AI.mp hq with rfl|hq
    .show e
    .show far q hq
def ptB:Bool:=(List.range 5).all λd=>((bw d).map lam).Pairwise (· < ·)&&decide ((bw d).length<=15)&&(bw d).all (bq d)&&(List.range 5).all λx=>(List.range 5).all λy=> !decide (x+y<=d)||(bw d).contains ((x:Int),(y:Int))
def Kf:ptB=true:=by ac_nf
def xN(hd:d<=4):az d (bw d)/\(bw d).length<=15/\∀p,bq d p=true->p∈bw d:=by
 have h:=Kf;unfold ptB at h;rw[AV] at h;have h:=h d (AY.mpr (by lia));simp only[A9,AQ,AV] at h;have{{{h1,h2},h3},h4}:=h;show{{h3,h1},h2,λp hp=>?_};have{p1,p2,p3}:=ci.mp hp;have h4:=h4 p.1.toNat (AY.mpr (by lia)) p.2.toNat (AY.mpr (by lia));rw[CA,Bool.not_eq_true',decide_eq_false_iff_not] at h4;have h4:=h4.resolve_left (by lia);rw[List.contains_iff_mem] at h4;have e:((p.1.toNat:Int),(p.2.toNat:Int))=p:=Prod.ext (show((p.1.toNat:Int))=p.1 by lia) (show((p.2.toNat:Int))=p.2 by lia)
 rwa [e] at h4
def xO(hd:d<=4)(nd:(R.map (·.1)).Nodup)(h:∀x∈R,∃ps,az d ps/\x.1=wk ps):R.length<=32768:=by
 have{h1,h2,h3}:=xN hd;have e:(R.map (·.1)).length<=((gU (bw d)).map wk).length:=mh nd λk hk=>by
  have{x,hx,0}:=Ae.mp hk;have{ps,ok,e}:=h x hx;rw[e];show Ae.mpr {ps,mi h1.2 ok.2 λp hp=>h3 p (ok.1 p hp),0}
 rw[A1,A1,xM] at e;have:2^(bw d).length<=2^15:=Bu (by decide) h2;lia
def Kg(hd:d<=4)(h:az d ps):ps.length<=15:=by
 have{h1,h2,h3}:=xN hd;have nd:ps.Nodup:=List.Pairwise.of_map lam (λa b OO e=>by rw[e] at OO;lia) h.2;have:=mh nd λp hp=>h3 p (h.1 p hp);lia
def xP(hd:d<=4)(h:az d ps):psB ps=true:=by
 unfold psB inB;simp only[A9,AQ,AV];show{λp hp=>?_,by have:=Kg hd h;lia};have:=ci.mp (h.1 p hp);lia
def upB:Bool:=(List.range 5).all λd=>decide (((upE d).map lam).Pairwise (· < ·))&&(upE d).all (bq d)&&decide (bz (upE d) 1=none)
def Kh:upB=true:=by ac_nf
def j6(hd:d<=4):az d (upE d)/\bz (upE d) 1=none:=by
 have h:=Kh;unfold upB at h;rw[AV] at h;have h:=h d (AY.mpr (by lia));simp only[A9,AQ,AV] at h;show{{h.1.2,h.1.1},h.2}
theorem xQ{d:Nat}(hd:d<=4):∀{r:Sk Pt}{p:Pt},az d (p::r)->arF (p::r)<=((d:Int)-p.1)*((d:Int)-p.1)
 |[],p,h=>by
  change(0:Int)<=_;have h1:=ci.mp (h.1 p AE);show Bn (by lia) (by lia)
 |q::r,p,h=>by
  have h1:=ci.mp (h.1 p AE);have h2:=ci.mp (h.1 q (AG _ AE));have h3:=qE hd h;have ih:=xQ hd (qC h);have e:(q.1-p.1)*(p.2+q.2)<=(q.1-p.1)*(((d:Int)-p.1)+((d:Int)-q.1)):=CL (by lia) (by lia);have sq:∀u v:Int,u*u=(u-v)*(u+v)+v*v:=λu v=>by
   rw[Int.sub_mul,Cw,Cw,BO v u];lia
  have e2:=sq ((d:Int)-p.1) ((d:Int)-q.1);rw[show(d:Int)-p.1-((d:Int)-q.1)=q.1-p.1 by lia] at e2;change(q.1-p.1)*(p.2+q.2)+arF (q::r)<=_;lia
def Ki(hd:d<=4)(h:az d ps):arF ps<=16:=by
 cases ps with
 |nil=>change(0:Int)<=16;lia
 |cons p r=>
  have h1:=ci.mp (h.1 p AE);have h2:=xQ hd h;have h3:((d:Int)-p.1)*((d:Int)-p.1)<=4*4:=Cc (by lia) (by lia) (by lia) (by lia);lia
def xR(h:bz ps (-1)=some p):(1<=p/\p+1<ps.length)/\crn (ps.getD (p-1) zP) (ps.getD p zP) (ps.getD (p+1) zP)<0:=by
 show{j4 h,?_};unfold bz at h;have{i,hi,0}:=A'.mp h;have:=List.find?_some hi;rw[AQ] at this;change crn (ps.getD i zP) (ps.getD (i+1) zP) (ps.getD (i+2) zP)<0;lia
def j7(h:az d ps){x:Pc×Sk Pt}(hx:x∈aY d ps (-1)):az d x.2/\arF x.2+1<=arF ps/\x.2.length<=ps.length:=by
 unfold aY at hx;cases hT:bz ps (-1) with
 |none=>rw[hT] at hx;show nomatch hx
 |some p=>
  rw[hT] at hx;dsimp only at hx;have{{p1,p2},hc}:=xR hT;have{l,a,b,c,r,e,ep,ga,gb,gc,et,ed}:=mf p1 p2;rw[ga,gb,gc,et,ed] at hx;rw[ga,gb,gc] at hc;have hl:=BB List.length e;rw[e] at h;rcases B'.mp hx with hx|hx
  .rw[AT.mp hx];have ea:l++[a]++c::r=l++a::c::r:=by simp
   dsimp only;rw[ea];show{xG h,?_,?_}
   .have:=iN l a b c r;rw[e];lia
   .simp at hl⊢;lia
  .cases hP:bq d (aJ a b c) with
   |false=>rw[hP] at hx;simp at hx
   |true=>
    rw[hP,A8 rfl] at hx;rw[AT.mp hx];have ea:l++[a]++[aJ a b c]++c::r=l++a::aJ a b c::c::r:=by simp
    dsimp only;rw[ea];show{xH h hP,?_,?_}
    .have:=me l a b c r;rw[e];lia
    .simp at hl⊢;lia
def vF(d:Nat):Nat->Sk Pt->Int
 |0,_=>0
 |n+1,ps=>if ps=loE d then 1 else((aY d ps (-1)).map λx=>pwF x.1*vF d n x.2).sum
theorem xS{d:Nat}(hd:d<=4):∀{n m:Nat}{ps:Sk Pt},az d ps->arF ps+1<=n->arF ps+1<=m->vF d n ps=vF d m ps
 |0,m,ps,h,h1,h2=>by have:=fW hd h;lia
 |n+1,0,ps,h,h1,h2=>by have:=fW hd h;lia
 |n+1,m+1,ps,h,h1,h2=>by
  unfold vF;by_cases e:ps=loE d
  .rw[A8 e,A8 e]
  .rw[A6 e,A6 e];congr 1
   show BA λx hx=>?_;have{a,b,_}:=j7 h hx;rw[xS hd a (by lia) (by lia) (m:=m)]
def Kj(d n:Nat)(ps:Sk Pt):vF d (n+1) ps=if ps=loE d then 1 else((aY d ps (-1)).map λx=>pwF x.1*vF d n x.2).sum:=by rw[vF]
def Kk{m:Nat}(hd:d<=4)(hn:33<=n)(hm:33<=m)(h:az d ps):vF d (n+1) ps=if ps=loE d then 1 else((aY d ps (-1)).map λx=>pwF x.1*vF d m x.2).sum:=by
 rw[Kj];by_cases e:ps=loE d
 .rw[A8 e,A8 e]
 .rw[A6 e,A6 e];congr 1
  show BA λx hx=>?_;have{a,b,_}:=j7 h hx;have:=Ki hd h;rw[xS hd a (n:=n) (m:=m) (by lia) (by lia)]
def vW(d:Nat)(ps:Sk Pt):Int:=vF d iO ps
def xT(hd:d<=4)(h:az d ps):vW d ps=if ps=loE d then 1 else((aY d ps (-1)).map λx=>pwF x.1*vW d x.2).sum:=by
 obtain⟨n,hn⟩:∃n,iO=n+1:={(39),0};have h33:33<=n:=by have:iO=40:=rfl;lia
 unfold vW;rw[hn];show Kk hd h33 (by lia) h
def loB:Bool:=(List.range 5).all λd=>decide (((loE d).map lam).Pairwise (· < ·))&&(loE d).all (bq d)&&decide (bz (loE d) (-1)=none)
def Kl:loB=true:=by ac_nf
def j8(hd:d<=4):az d (loE d)/\bz (loE d) (-1)=none:=by
 have h:=Kl;unfold loB at h;rw[AV] at h;have h:=h d (AY.mpr (by lia));simp only[A9,AQ,AV] at h;show{{h.1.2,h.1.1},h.2}
structure Side(d:Nat)(sg:Int)(e0:Sk Pt)(Wq mu:Sk Pt->Int):Prop where
 sd:sg=1\/sg= -1
 eq:∀ps,az d ps->Wq ps=if ps=e0 then 1 else((aY d ps sg).map λx=>pwF x.1*Wq x.2).sum
 st:∀ps x,az d ps->x∈aY d ps sg->az d x.2/\mu x.2+1<=mu ps
 lo:∀ps,az d ps->0<=mu ps/\mu ps<=32
 eok:az d e0
 en:bz e0 sg=none
theorem qJ(hd:d<=4):Side d 1 (upE d) (wW d) (λps=>32-arF ps) where
 sd:= .inl rfl
 eq:=λps h=>xJ hd h
 st:=λps x h hx=>{(j5 h hx).1,by have:=(j5 h hx).2.1;lia}
 lo:=λps h=>by have:=iM hd h;have:=fW hd h;lia
 eok:=(j6 hd).1
 en:=(j6 hd).2
theorem qK(hd:d<=4):Side d (-1) (loE d) (vW d) arF where
 sd:= .inr rfl
 eq:=λps h=>xT hd h
 st:=λps x h hx=>{(j7 h hx).1,(j7 h hx).2.1}
 lo:=λps h=>by have:=iM hd h;have:=fW hd h;lia
 eok:=(j8 hd).1
 en:=(j8 hd).2
def Side.way{mu:Sk Pt->Int}(S:Side d sg e0 Wq mu)(ok:az d qs)(hT:bz qs sg=some p):Wq qs=abI (crn (qs.getD (p-1) zP) (qs.getD p zP) (qs.getD (p+1) zP))*Wq (qs.take p++qs.drop (p+1))+if bq d (aJ (qs.getD (p-1) zP) (qs.getD p zP) (qs.getD (p+1) zP))=true then Wq (qs.take p++[aJ (qs.getD (p-1) zP) (qs.getD p zP) (qs.getD (p+1) zP)]++qs.drop (p+1)) else 0:=by
 have NC:qs≠e0:=λe=>by rw[e,S.en] at hT;cases hT
 rw[S.eq _ ok,A6 NC];unfold aY;rw[hT];dsimp only;by_cases c:bq d (aJ (qs.getD (p-1) zP) (qs.getD p zP) (qs.getD (p+1) zP))=true
 .rw[A8 c,A8 c];simp[pwF]
 .rw[A6 c,A6 c];simp[pwF]
def Side.none{d:Nat}{sg:Int}{e0:Sk Pt}{Wq mu:Sk Pt->Int}(S:Side d sg e0 Wq mu){qs:Sk Pt}(ok:az d qs)(hT:bz qs sg=none):Wq qs=if qs=e0 then 1 else 0:=by
 rw[S.eq _ ok];unfold aY;rw[hT];rfl
def Side.step{mu:Sk Pt->Int}(S:Side d sg e0 Wq mu)(ok:az d qs)(hT:bz qs sg=some p):(az d (qs.take p++qs.drop (p+1))/\mu (qs.take p++qs.drop (p+1))+1<=mu qs)/\(bq d (aJ (qs.getD (p-1) zP) (qs.getD p zP) (qs.getD (p+1) zP))=true->az d (qs.take p++[aJ (qs.getD (p-1) zP) (qs.getD p zP) (qs.getD (p+1) zP)]++qs.drop (p+1))/\mu (qs.take p++[aJ (qs.getD (p-1) zP) (qs.getD p zP) (qs.getD (p+1) zP)]++qs.drop (p+1))+1<=mu qs):=by
 have e:aY d qs sg=[([qs.getD (p-1) zP,qs.getD p zP,qs.getD (p+1) zP],qs.take p++qs.drop (p+1))]++if bq d (aJ (qs.getD (p-1) zP) (qs.getD p zP) (qs.getD (p+1) zP))=true then [([qs.getD (p-1) zP,qs.getD p zP,qs.getD (p+1) zP,aJ (qs.getD (p-1) zP) (qs.getD p zP) (qs.getD (p+1) zP)],qs.take p++[aJ (qs.getD (p-1) zP) (qs.getD p zP) (qs.getD (p+1) zP)]++qs.drop (p+1))] else []:=by
  unfold aY;rw[hT]
 show{?_,λc=>?_}
 .show S.st qs ([qs.getD (p-1) zP,qs.getD p zP,qs.getD (p+1) zP],qs.take p++qs.drop (p+1)) ok (by rw[e];show Bv _ AE)
 .show S.st qs ([qs.getD (p-1) zP,qs.getD p zP,qs.getD (p+1) zP,aJ (qs.getD (p-1) zP) (qs.getD p zP) (qs.getD (p+1) zP)],qs.take p++[aJ (qs.getD (p-1) zP) (qs.getD p zP) (qs.getD (p+1) zP)]++qs.drop (p+1)) ok (by rw[e,A8 c];show Ak _ AE)
def Km(hd:d<=4){a b c:Pt}(ha:bq d a=true)(hb:bq d b=true)(hc:bq d c=true):(crn a b c).natAbs<=32:=by
 have h1:=ci.mp ha;have h2:=ci.mp hb;have h3:=ci.mp hc;have m:∀x y:Int,-4<=x->x<=4->-4<=y->y<=4->(x*y).natAbs<=16:=λx y a1 a2 b1 b2=>by
  rw[Int.natAbs_mul];show D2 (show x.natAbs<=4 by lia) (show y.natAbs<=4 by lia)
 have m1:=m (b.1-a.1) (c.2-b.2) (by lia) (by lia) (by lia) (by lia);have m2:=m (b.2-a.2) (c.1-b.1) (by lia) (by lia) (by lia) (by lia);unfold crn;clear h1 h2 h3 m ha hb hc hd;lia
theorem Side.big{d:Nat}(hd:d<=4){sg:Int}{e0:Sk Pt}{Wq mu:Sk Pt->Int}(S:Side d sg e0 Wq mu):∀(n:Nat) {ps:Sk Pt},az d ps->mu ps<n->(Wq ps).natAbs<=64^n
 |0,ps,h,hn=>by have:=(S.lo ps h).1;lia
 |n+1,ps,h,hn=>by
  have one:0<64^n:=Nat.pow_pos (by decide);rw[D1];cases hT:bz ps sg with
  |none=>
   rw[S.none h hT];split<;>(show _<=_)<;>simp<;>lia
  |some p=>
   have{{l1,l2},mm}:=S.step h hT;have{p1,p2}:=j4 hT;have ih1:=S.big hd n l1 (by lia);have c32:=Km hd (h.1 _ (dW (ps:=ps) (j:=p-1) (by lia))) (h.1 _ (dW (ps:=ps) (j:=p) (by lia))) (h.1 _ (dW (ps:=ps) (j:=p+1) (by lia)));rw[S.way h hT];have a32:(abI (crn (ps.getD (p-1) zP) (ps.getD p zP) (ps.getD (p+1) zP))).natAbs<=32:=by unfold abI;split<;>lia
   have e1:(abI (crn (ps.getD (p-1) zP) (ps.getD p zP) (ps.getD (p+1) zP))*Wq (ps.take p++ps.drop (p+1))).natAbs<=32*64^n:=by
    rw[Int.natAbs_mul];show D2 a32 ih1
   by_cases c:bq d (aJ (ps.getD (p-1) zP) (ps.getD p zP) (ps.getD (p+1) zP))=true
   .rw[A8 c];have ih2:=S.big hd n (mm c).1 (by have:=(mm c).2;lia);have:=Int.natAbs_add_le (abI (crn (ps.getD (p-1) zP) (ps.getD p zP) (ps.getD (p+1) zP))*Wq (ps.take p++ps.drop (p+1))) (Wq (ps.take p++[aJ (ps.getD (p-1) zP) (ps.getD p zP) (ps.getD (p+1) zP)]++ps.drop (p+1)));lia
   .rw[A6 c,Int.add_zero];lia
def Side.bits(hd:d<=4){mu:Sk Pt->Int}(S:Side d sg e0 Wq mu)(h:az d ps):(Wq ps).natAbs<2^512:=by
 have h1:=S.big hd 33 h (by have:=(S.lo ps h).2;lia);have h2:(64:Nat)^33<2^512:=by
  have e:(64:Nat)^33=2^198:=by decide
  rw[e];show Nat.pow_lt_pow_right (by decide) (by decide)
 lia
def qL(d:Nat)(w:Sk Pt):Bool:=w.all (bq d)&&decide ((w.map lam).Pairwise (· < ·))
def Kn{w:Sk Pt}(h:qL d w=true):az d w:=by
 unfold qL at h;simp only[A9,AQ,AV] at h;show h
def eQ(d:Nat)(L:Sk (Sk Pt)):Int:=(L.map λw=>wW d w*vW d w).sum
def Tr(Nc:Int)(ns:Sk Int)(lo:Int)(zs:Sk Int):Prop:=
 (zs=[]/\lo=0/\∀z∈ns,z=0)\/∃a b:Nat,ns=List.replicate a 0++zs++List.replicate b 0/\lo=Nc+a/\zs.head? ≠some 0/\zs.getLast? ≠some 0/\zs≠[]
def xU{a a':Nat}(h:List.replicate a (0:Int)++xs=List.replicate a' 0++ys)(hx:xs.head? ≠some 0)(hxn:xs≠[])(hy:ys.head? ≠some 0)(hyn:ys≠[]):a=a'/\xs=ys:=by
 induction a generalizing a' with
 |zero=>
  cases a' with
  |zero=>show{0,by simpa using h}
  |succ n=>
   rw[Aj] at h;simp only[List.replicate_zero,DT,Cg] at h;subst h;simp at hx
 |succ m ih=>
  cases a' with
  |zero=>
   rw[Aj] at h;simp only[List.replicate_zero,DT,Cg] at h;subst h;simp at hy
  |succ n=>
   rw[Aj,Aj] at h;simp only[Cg,CP,true_and] at h;have{e,f}:=ih h;show{4,f}
def Ko{b b':Nat}(h:xs++List.replicate b (0:Int)=ys++List.replicate b' 0)(hx:xs.getLast? ≠some 0)(hxn:xs≠[])(hy:ys.getLast? ≠some 0)(hyn:ys≠[]):xs=ys:=by
 have h':=BB List.reverse h;simp only[Ci,List.reverse_replicate] at h';have:=(xU h' (by simpa using hx) (by simpa using hxn) (by simpa using hy) (by simpa using hyn)).2;show List.reverse_inj.mp this
def Tr.unique(h:Tr Nc ns lo zs)(h':Tr Nc ns Op OY):lo=Op/\zs=OY:=by
 have key:∀{lo:Int}{zs:Sk Int},(∃a b:Nat,ns=List.replicate a 0++zs++List.replicate b 0/\lo=Nc+a/\zs.head? ≠some 0/\zs.getLast? ≠some 0/\zs≠[])->¬∀z∈ns,z=0:=by
  rintro lo zs ⟨a,b,e,-,h1,-,h2⟩ hz;cases zs with
  |nil=>show h2 rfl
  |cons z r=>
   have:z=0:=hz z (by rw[e];simp);subst this;simp at h1
 rcases h with⟨e1,e2,e3⟩|h
 .rcases h' with⟨f1,f2,f3⟩|h'
  .show{4,by rw[e1,f1]}
  .show absurd e3 (key h')
 .rcases h' with⟨f1,f2,f3⟩|h'
  .show absurd f3 (key h)
  .have{a,b,e,e2,e3,e4,e5}:=h;have{a',b',f,f2,f3,f4,f5}:=h';rw[e,B8,B8] at f;have hh:∀{zs:Sk Int}{b:Nat},zs.head? ≠some 0->zs≠[]->(zs++List.replicate b (0:Int)).head? ≠some 0:=fun{zs b} h1 h2=>by
    cases zs with
    |nil=>show absurd rfl h2
    |cons z r=>simpa using h1
   have{ea,eb}:=xU f (hh e3 e5) (by simp[e5]) (hh f3 f5) (by simp[f5]);show{by rw[e2,f2,ea],Ko eb e4 e5 f4 f5}
def Tr.sum{Nc lo:Int}{ns zs:Sk Int}(h:Tr Nc ns lo zs):zs.sum=ns.sum:=by
 have rz:∀n:Nat,(List.replicate n (0:Int)).sum=0:=λn=>by induction n with
  |zero=>rfl
  |succ n ih=>rw[Aj,Ab,ih];rfl
 rcases h with⟨e1,e2,e3⟩|⟨a,b,e,-⟩
 .subst e1;have:∀l:Sk Int,(∀z∈l,z=0)->l.sum=0:=λl hl=>by
   induction l with
   |nil=>rfl
   |cons x r ih=>rw[Ab,hl x (by simp),ih λz hz=>hl z (by simp[hz])];rfl
  rw[this ns e3];rfl
 .rw[e,BQ,BQ,rz,rz];lia
theorem Tr.self(h1:zs.head? ≠some 0)(h2:zs.getLast? ≠some 0)(h3:zs≠[]):Tr Nc zs Nc zs:= .inr {(0),(0),7,7,h1,h2,h3}
def Tr.ends(h:Tr Nc ns lo zs):(zs=[]/\lo=0)\/(zs.head? ≠some 0/\zs.getLast? ≠some 0/\zs≠[]):=by
 rcases h with⟨e1,e2,e3⟩|⟨a,b,e,-,h1,h2,h3⟩
 .show .inl {e1,e2}
 .show .inr {h1,h2,h3}
def M5(ns:Sk Int)(n:Nat):Sk Nat:=(List.range n).filter λk=>decide (ns.getD k 0≠0)
def xV{b:Nat}(h:ns=ks++List.replicate b 0)(hl:ks.getLast? ≠some 0)(hi:i<ks.length)(ht:ks.take i=List.replicate i 0)(hx:ks.getD i 0≠0):Tr Nc ns (Nc+i) (ks.drop i):=by
 show .inr {i,b,?_,0,?_,?_,?_}
 .rw[h,<-ht,Br]
 .rw[List.head?_drop];intro z;show hx (by rw[List.getD,z];rfl)
 .rw[List.getLast?_drop,A6 (by lia)];show hl
 .intro z;have:=BB List.length z;simp at this;lia
def Kp(hi:i<ks.length)(ht:ks.take i=List.replicate i 0)(hx:ks.getD i 0=0):ks.take (i+1)=List.replicate (i+1) 0:=by
 have e:ks[i]=0:=by simpa[List.getD,hi] using hx
 rw[AX,ht,A2 hi,e,DK];rfl
def Kq(hi:i<ks.length)(hl:ks.getLast? ≠some 0)(hx:ks.getD i 0=0):i+1<ks.length:=by
 by_cases h:i+1<ks.length
 .show h
 .exfalso;show hl ?_;rw[List.getLast?_eq_getElem?,show ks.length-1=i by lia,A2 hi];simpa[List.getD,hi] using hx
def Kr{cs:Sk Int}{b:Nat}(h:ns=cs++[z]++List.replicate b 0)(hz:z=0):ns=cs++List.replicate (b+1) 0:=by
 rw[h,hz,Aj];simp
def aV:Sk Int->Nat->Sk Int->Sk Int
 |[],_,_=>[]
 |t::ts,p+1,zs=>t::aV ts p zs
 |t::ts,0,[]=>t::ts
 |t::ts,0,z::zs=>(t+z)::aV ts 0 zs
theorem dX:∀(ts:Sk Int) (p:Nat) (zs:Sk Int),(aV ts p zs).length=ts.length
 |[],_,_=>rfl
 |t::ts,p+1,zs=>by simp[aV,dX ts p zs]
 |t::ts,0,[]=>rfl
 |t::ts,0,z::zs=>by simp[aV,dX ts 0 zs]
theorem qM:∀(ts:Sk Int) (p:Nat),aV ts p []=ts
 |[],_=>rfl
 |t::ts,p+1=>by simp[aV,qM ts p]
 |t::ts,0=>rfl
theorem mj:∀(ts:Sk Int) (p:Nat) (ws:Sk Int) (z:Int),p+ws.length<ts.length->(aV ts p ws).set (p+ws.length) ((aV ts p ws).getD (p+ws.length) 0+z)=aV ts p (ws++[z])
 |[],_,_,_,h=>by simp at h
 |t::ts,p+1,ws,z,h=>by
  have:=mj ts p ws z (by simp at h;lia);rw[show p+1+ws.length=p+ws.length+1 by lia];simp only[aV,List.set_cons_succ,Da];rw[this]
 |t::ts,0,[],z,h=>by
  cases ts<;>simp[aV]
 |t::ts,0,w::ws,z,h=>by
  have:=mj ts 0 ws z (by simp at h⊢;lia);rw[C4] at this;simp only[aV,Af,C4,List.set_cons_succ,Da,Cg];rw[this]
def cv(xs ys:Sk Int):Nat->Sk Int
 |0=>List.replicate (xs.length+ys.length) 0
 |i+1=>aV (cv xs ys i) i (ys.map (xs.getD i 0* ·))
theorem j9(xs ys:Sk Int):∀i,(cv xs ys i).length=xs.length+ys.length
 |0=>by simp[cv]
 |i+1=>by rw[cv,dX,j9 xs ys i]
def dn(xs ys:Sk Int):Sk Int:=aV (aV (List.replicate (max xs.length ys.length) 0) 0 xs) 0 ys
def dq(Nc:Int)(ns:Sk Int):Int×Sk Int:=
 let ks:=(ns.reverse.dropWhile (· ==0)).reverse
 let a:=(ks.takeWhile (· ==0)).length
 if ks.isEmpty then(0,[]) else(Nc+a,ks.drop a)
def aK(x y:Int×Sk Int):Int×Sk Int:=
 if x.2.isEmpty then dq y.1 y.2 else if y.2.isEmpty then dq x.1 x.2 else
  let Nc:=if y.1<x.1 then y.1 else x.1
  dq Nc (dn (List.replicate (x.1-Nc).toNat 0++x.2) (List.replicate (y.1-Nc).toNat 0++y.2))
def br(x y:Int×Sk Int):Int×Sk Int:=dq (x.1+y.1) (cv x.2 y.2 x.2.length)
theorem qN{p:Int->Bool}:∀{l:Sk Int}{x:Int},(l.dropWhile p).head? =some x->p x=false
 |[],_,h=>by simp at h
 |y::l,x,h=>by
  rw[List.dropWhile_cons] at h;by_cases hp:p y=true
  .rw[A8 hp] at h;show qN h
  .rw[A6 hp] at h;simp at h;subst h;simpa using hp
theorem xW:∀(l:Sk Int),l.takeWhile (· ==0)=List.replicate (l.takeWhile (· ==0)).length 0:=λl=>by
 show List.eq_replicate_iff.mpr {0,λb hb=>?_};induction l with
 |nil=>simp at hb
 |cons y l ih=>
  rw[List.takeWhile_cons] at hb;by_cases hp:(y==0)=true
  .rw[A8 hp] at hb;rcases AI.mp hb with e|e
   .rw[e];show D'.mp hp
   .show ih e
  .rw[A6 hp] at hb;simp at hb
def Kt(l:Sk Int):l.drop (l.takeWhile (· ==0)).length=l.dropWhile (· ==0):=by
 induction l with
 |nil=>rfl
 |cons y l ih=>
  rw[List.takeWhile_cons,List.dropWhile_cons];by_cases hp:(y==0)=true
  .rw[A8 hp,A8 hp];show ih
  .rw[A6 hp,A6 hp];rfl
def Ku(l:Sk Int):l.take (l.takeWhile (· ==0)).length=l.takeWhile (· ==0):=by
 induction l with
 |nil=>rfl
 |cons y l ih=>
  rw[List.takeWhile_cons];by_cases hp:(y==0)=true
  .rw[A8 hp];simp[ih]
  .rw[A6 hp];rfl
def iP(Nc:Int)(ns:Sk Int):Tr Nc ns (dq Nc ns).1 (dq Nc ns).2:=by
 have hb:ns=(ns.reverse.dropWhile (· ==0)).reverse++List.replicate (ns.reverse.takeWhile (· ==0)).length 0:=by
  have e:=BB List.reverse (List.takeWhile_append_dropWhile (p:=(· ==(0:Int))) (l:=ns.reverse));rw[Ci,List.reverse_reverse,xW ns.reverse,List.reverse_replicate] at e;show e.symm
 have hd:∀x,(ns.reverse.dropWhile (· ==0)).head? =some x->(x==0)=false:=λx h=>qN (p:=λx=>x==0) h;unfold dq;dsimp only;generalize (ns.reverse.dropWhile (· ==0))=ds at hb hd⊢;generalize (ns.reverse.takeWhile (· ==0)).length=b at hb;by_cases hk:ds.reverse.isEmpty=true
 .rw[A8 hk];rw[DB.mp hk] at hb;show .inl {0,0,λz hz=>?_};rw[hb] at hz;show List.eq_of_mem_replicate (by simpa using hz)
 .rw[A6 hk];have hl:ds.reverse.getLast? ≠some 0:=λz=>by
   rw[List.getLast?_reverse] at z;have:=hd 0 z;simp at this
  have hn:ds.reverse≠[]:=λz=>hk (by rw[z];rfl);generalize ds.reverse=ks at hb hl hn⊢;have hle:(ks.takeWhile (· ==0)).length<=ks.length:=(List.takeWhile_prefix (· ==0)).length_le;have ht:ks.take (ks.takeWhile (· ==0)).length=List.replicate (ks.takeWhile (· ==0)).length 0:=by rw[Ku];show xW ks
  have hi:(ks.takeWhile (· ==0)).length<ks.length:=by
   rcases Be (ks.takeWhile (· ==0)).length ks.length with h|h
   .show h
   .exfalso;rw[C5 h] at ht;show hl ?_;rw[ht,List.getLast?_replicate,A6];intro z;rw[z] at ht;show hn ht
  show xV hb hl hi ht ?_;intro z;have e:(ks.dropWhile (· ==0)).head? =some 0:=by
   rw[<-Kt,List.head?_drop,A2 hi];simpa[List.getD,hi] using z
  have:=qN (p:=λx=>x==0) e;simp at this
def Tr.toC(h:Tr Nc ns lo zs):(lo,zs)=dq Nc ns:=by
 have{e1,e2}:=h.unique (iP Nc ns);show Prod.ext e1 e2
def cu(w:Nat):Sk Int:=(List.range (2*w-1)).map λp=>1-((p:Nat):Int)%2
def cj(w:Nat):Int×Sk Int:=(1-(w:Int),cu w)
def qO(w:Nat):(cu w).length=2*w-1:=by simp[cu]
def xX(h:i<2*w-1):(cu w).getD i 0=1-(i:Int)%2:=by
 simp[cu,List.getD,h]
def Kv(h:1<=w) :Tr Nc (cu w) Nc (cu w):=by
 have l:=qO w;show Tr.self ?_ ?_ ?_
 .rw[List.head?_eq_getElem?];intro z;have g:=xX (w:=w) (i:=0) (by lia);rw[List.getD,z] at g;simp at g
 .rw[List.getLast?_eq_getElem?];intro z;have g:=xX (w:=w) (i:=(cu w).length-1) (by lia);rw[List.getD,z] at g;simp only[Option.getD_some] at g;lia
 .intro z;rw[z] at l;simp at l;lia
theorem xY:∀w:Nat,(cu (w+1)).sum=(w:Int)+1
 |0=>by decide
 |w+1=>by
  have e:cu (w+1+1)=cu (w+1)++[1-((2*w+1:Nat):Int)%2,1-((2*w+2:Nat):Int)%2]:=by
   unfold cu;rw[show 2*(w+1+1)-1=2*(w+1)-1+1+1 by lia,Aw,Aw,A7,A7,B8];rw[show 2*(w+1)-1=2*w+1 by lia];rfl
  rw[e,BQ,xY w];simp only[Ab,List.sum_nil];lia
def Kw(h:1<=w):(cu w).sum=(w:Int):=by
 have:=xY (w-1);rw[show w-1+1=w by lia] at this;rw[this];lia
theorem Kx :∀x∈cu w,-100<=x/\x<=100:=λx hx=>by
 have{p,_,e}:=Ae.mp hx;lia
def gz(zs:Sk Int)(k:Int):Int:=if 0<=k then zs.getD k.toNat 0 else 0
def fX(zs:Sk Int)(i:Nat):gz zs (i:Int)=zs.getD i 0:=by
 unfold gz;rw[A8 (by lia),Ag]
def iQ{k:Int}(h:k<0):gz zs k=0:=by
 unfold gz;rw[A6 (by lia)]
def xZ{k:Int}(h:(zs.length:Int)<=k):gz zs k=0:=by
 unfold gz;split
 .rw[List.getD,CQ (by lia)];rfl
 .rfl
def eR(k:Int):gz [] k=0:=by
 unfold gz;split<;>simp
def fY(x:Int)(xs:Sk Int)(k:Int):gz (x::xs) k=(if k=0 then x else 0)+gz xs (k-1):=by
 by_cases h:k<0
 .rw[iQ h,iQ (by lia),A6 (by lia)];rfl
 .obtain⟨n,rfl⟩:∃n:Nat,k=n:={k.toNat,4};cases n with
  |zero=>rw[fX,A8 (by lia),iQ (by lia)];simp
  |succ n=>
   rw[fX,A6 (by lia),show((n+1:Nat):Int)-1=(n:Int) by lia,fX];simp
def qP(xs ys:Sk Int)(k:Int):gz (xs++ys) k=gz xs k+gz ys (k-xs.length):=by
 induction xs generalizing k with
 |nil=>rw[eR,DT];simp
 |cons x xs ih=>
  rw[Cg,fY,fY,ih];rw[show k-1-(xs.length:Int)=k-((x::xs).length:Int) by simp;lia];lia
def ml(n:Nat)(k:Int):gz (List.replicate n 0) k=0:=by
 induction n generalizing k with
 |zero=>show eR k
 |succ n ih=>rw[Aj,fY,ih];split<;>rfl
theorem mn:∀(ts:Sk Int) (p:Nat) (zs:Sk Int) (k:Int),p+zs.length<=ts.length->gz (aV ts p zs) k=gz ts k+gz zs (k-p)
 |[],p,zs,k,h=>by
  have:zs=[]:=BV.mp (by rw[CO] at h;lia);rw[this,eR];simp[aV,eR]
 |t::ts,p+1,zs,k,h=>by
  rw[aV,fY,fY,mn ts p zs (k-1) (by simp at h;lia),show k-1-(p:Int)=k-((p+1:Nat):Int) by lia];lia
 |t::ts,0,[],k,h=>by
  rw[aV,eR];simp
 |t::ts,0,z::zs,k,h=>by
  rw[aV,fY,fY,mn ts 0 zs (k-1) (by simp at h⊢;lia),show k-((0:Nat):Int)=k by lia,fY z,show k-1-((0:Nat):Int)=k-1 by lia];split<;>lia
def Tr.coef(h:Tr Nc ns lo zs)(p:Int):gz zs (p-lo)=gz ns (p-Nc):=by
 rcases h with⟨e1,e2,e3⟩|⟨a,b,e,e2,_⟩
 .subst e1;rw[eR];by_cases h1:p-Nc<0
  .rw[iQ h1]
  .obtain⟨n,hn⟩:∃n:Nat,p-Nc=n:={(p-Nc).toNat,4};rw[hn,fX,List.getD];cases q:ns[n]? with
   |none=>rfl
   |some z=>show(e3 z (AR q)).symm
 .rw[e,qP,qP,ml,ml,Ah,e2];rw[show p-Nc-(a:Int)=p-(Nc+(a:Int)) by lia];lia
def mo(h1:zs.head? ≠some 0)(h2:zs.getLast? ≠some 0)(h3:zs≠[]):gz zs 0≠0/\gz zs ((zs.length:Int)-1)≠0:=by
 have hp:0<zs.length:=Cj.mpr h3;constructor
 .rw[show(0:Int)=((0:Nat):Int) from rfl,fX,List.getD,<-List.head?_eq_getElem?];cases q:zs.head? with
  |none=>show absurd (List.head?_eq_none_iff.mp q) h3
  |some z=>show λe=>h1 (by rw[q];show BB some e)
 .rw[show(zs.length:Int)-1=((zs.length-1:Nat):Int) by lia,fX,List.getD,<-List.getLast?_eq_getElem?];cases q:zs.getLast? with
  |none=>show absurd (List.getLast?_eq_none_iff.mp q) h3
  |some z=>show λe=>h2 (by rw[q];show BB some e)
def Ky{low':Int}{ns':Sk Int}(h:Tr Nc ns lo zs)(h':Tr low' ns' Op OY)(e:∀p,gz zs (p-lo)=gz OY (p-Op)):lo=Op/\zs=OY:=by
 rcases h.ends with⟨a1,a2⟩|⟨a1,a2,a3⟩<;>rcases h'.ends with⟨b1,b2⟩|⟨b1,b2,b3⟩
 .show{4,by rw[a1,b1]}
 .exfalso;have:=e Op;rw[a1,eR,Int.sub_self] at this;show(mo b1 b2 b3).1 this.symm
 .exfalso;have:=e lo;rw[b1,eR,Int.sub_self] at this;show(mo a1 a2 a3).1 this
 .have{c1,c2}:=mo a1 a2 a3;have{d1,d2}:=mo b1 b2 b3;have pa:0<zs.length:=Cj.mpr a3;have pb:0<OY.length:=Cj.mpr b3;have l1:Op<=lo:=by
   rcases(by lia:lo<Op\/Op<=lo) with q|q
   .have:=e lo;rw[Int.sub_self,iQ (by lia:lo-Op<0)] at this;show absurd this c1
   .show q
  have l2:lo<=Op:=by
   rcases(by lia:Op<lo\/lo<=Op) with q|q
   .have:=e Op;rw[Int.sub_self,iQ (by lia:Op-lo<0)] at this;show absurd this.symm d1
   .show q
  obtain rfl:lo=Op:=by lia
  have n1:zs.length<=OY.length:=by
   rcases Be OY.length zs.length with q|q
   .have:=e (lo+((zs.length:Int)-1));rw[show lo+((zs.length:Int)-1)-lo=(zs.length:Int)-1 by lia,xZ (zs:=OY) (by lia)] at this;show absurd this c2
   .show q
  have n2:OY.length<=zs.length:=by
   rcases Be zs.length OY.length with q|q
   .have:=e (lo+((OY.length:Int)-1));rw[show lo+((OY.length:Int)-1)-lo=(OY.length:Int)-1 by lia,xZ (zs:=zs) (by lia)] at this;show absurd this.symm d2
   .show q
  show{0,DD (by lia) λi p q=>?_};have:=e (lo+(i:Int));rw[show lo+(i:Int)-lo=(i:Int) by lia,fX,fX] at this;simpa[List.getD,p,q] using this
def x6(n:Nat)(zs:Sk Int)(k:Int):gz (List.replicate n 0++zs) k=gz zs (k-n):=by
 rw[qP,ml,Ah];lia
def Kz(xs ys:Sk Int)(k:Int):gz (dn xs ys) k=gz xs k+gz ys k:=by
 unfold dn;rw[mn _ _ _ _ (by rw[dX,Ah];lia),mn _ _ _ _ (by rw[Ah];lia),ml];simp
def mq(x y:Int×Sk Int):∃Nc ns,Tr Nc ns (aK x y).1 (aK x y).2/\∀p,gz ns (p-Nc)=gz x.2 (p-x.1)+gz y.2 (p-y.1):=by
 unfold aK;by_cases h1:x.2.isEmpty=true
 .rw[A8 h1];show{y.1,y.2,iP _ _,λp=>by rw[DB.mp h1,eR];lia}
 .rw[A6 h1];by_cases h2:y.2.isEmpty=true
  .rw[A8 h2];show{x.1,x.2,iP _ _,λp=>by rw[DB.mp h2,eR];lia}
  .rw[A6 h2];have hl:(if y.1<x.1 then y.1 else x.1)<=x.1/\(if y.1<x.1 then y.1 else x.1)<=y.1:=by split<;>lia
   dsimp only;generalize (if y.1<x.1 then y.1 else x.1)=Nc at hl⊢;show{Nc,_,iP _ _,λp=>?_};rw[Kz,x6,x6,show p-Nc-((x.1-Nc).toNat:Int)=p-x.1 by lia,show p-Nc-((y.1-Nc).toNat:Int)=p-y.1 by lia]
abbrev Sh:=Int×Sk Int
variable{s y:Sh}
def zer:Sh:=(0,[])
def ofN(n:Int):Sh:=dq 0 [n]
def fZ(ws:Sk Int):Sh:=ws.foldl (λt w=>br t (cj w.toNat)) (ofN 1)
def Sup(a b:Int)(s:Sh):Prop:= -a<=s.1/\s.1+s.2.length<=b+1
def Sup.mono{a b a' b':Int}(h:Sup a b s)(h1:a<=a')(h2:b<=b'):Sup a' b' s:=by unfold Sup at*;lia
def j'{a b:Int}(a0:0<=a)(b0:0<=b)(h1: -a<=Nc)(h2:Nc+ns.length<=b+1):Sup a b (dq Nc ns):=by
 have t:=iP Nc ns;generalize dq Nc ns=s at t⊢;unfold Sup;rcases t with⟨e,e2,_⟩|⟨p,q,e,e2,_⟩
 .rw[e,e2];simp;lia
 .have l:=BB List.length e;simp at l;lia
def qQ{a b c d:Int}{x:Sh}(a0:0<=a)(b0:0<=b)(c0:0<=c)(d0:0<=d)(hx:Sup a b x)(hy:Sup c d y):Sup (a+c) (b+d+1) (br x y):=by
 unfold br;unfold Sup at hx hy;show j' (by lia) (by lia) (by lia) ?_;rw[j9];lia
def KA(xs ys:Sk Int):(dn xs ys).length=max xs.length ys.length:=by unfold dn;rw[dX,dX,Ah]
def KB{a b:Int}{x:Sh}(a0:0<=a)(b0:0<=b)(hx:Sup a b x)(hy:Sup a b y):Sup a b (aK x y):=by
 unfold aK;unfold Sup at hx hy;split
 .show j' a0 b0 (by lia) (by lia)
 split
 .show j' a0 b0 (by lia) (by lia)
 .have hl:(if y.1<x.1 then y.1 else x.1)<=x.1/\(if y.1<x.1 then y.1 else x.1)<=y.1/\-a<=(if y.1<x.1 then y.1 else x.1):=by split<;>lia
  dsimp only;generalize (if y.1<x.1 then y.1 else x.1)=Nc at hl⊢;show j' a0 b0 (by lia) ?_;rw[KA,AD,AD,Ah,Ah];lia
def mr(h:1<=w):Sup (w-1) (w-1) (cj w):=by
 unfold Sup cj;dsimp only;rw[qO];lia
def qR{a b:Int}(a0:0<=a)(b0:0<=b):Sup a b zer:=by unfold Sup zer;simp;lia
theorem mw{α:Type}{a b:Int}(a0:0<=a)(b0:0<=b){f:α->Sh}:∀{l:Sk α}{t:Sh},Sup a b t->(∀x∈l,Sup a b (f x))->Sup a b (l.foldl (λt x=>aK t (f x)) t)
 |[],_,h,_=>h
 |x::l,_,h,hl=>mw a0 b0 (l:=l) (KB a0 b0 h (hl x AE)) λy hy=>hl y (AG _ hy)
theorem KC(n:Int):Sup 0 0 (ofN n):=j' (by lia) (by lia) (by lia) (by simp)
def my:ofN 0=zer:=by decide
def wsF(d:Nat)(sg:Int)(e0:Sk Pt):Nat->Sk Pt->Sh
 |0,_=>zer
 |n+1,ps=>if ps=e0 then ofN 1 else(aY d ps sg).foldl (λt x=>aK t (br (cj (pwF x.1).toNat) (wsF d sg e0 n x.2))) zer
def wS(d:Nat)(sg:Int)(e0:Sk Pt)(ps:Sk Pt):Sh:=wsF d sg e0 40 ps
structure SdM(d:Nat)(sg:Int)(e0:Sk Pt)(mu:Sk Pt->Int):Prop where
 sd:sg=1\/sg= -1
 st:∀ps x,az d ps->x∈aY d ps sg->az d x.2/\mu x.2+pwF x.1<=mu ps/\1<=pwF x.1
 lo:∀ps,az d ps->0<=mu ps/\mu ps<=32
theorem mz{α β:Type}{f g:β->α->β}:∀{l:Sk α}{t:β},(∀t,∀x∈l,f t x=g t x)->l.foldl f t=l.foldl g t
 |[],_,_=>rfl
 |x::l,t,h=>by
  rw[BY,BY,h t x AE];show mz λt y hy=>h t y (AG _ hy)
section
variable{d:Nat}{sg:Int}{e0:Sk Pt}{mu:Sk Pt->Int}(S:SdM d sg e0 mu)
include S
theorem SdM.fuel:∀{n m:Nat}{ps:Sk Pt},az d ps->mu ps+1<=n->mu ps+1<=m->wsF d sg e0 n ps=wsF d sg e0 m ps
 |0,m,ps,h,h1,h2=>by have:=(S.lo ps h).1;lia
 |n+1,0,ps,h,h1,h2=>by have:=(S.lo ps h).1;lia
 |n+1,m+1,ps,h,h1,h2=>by
  unfold wsF;by_cases e:ps=e0
  .rw[A8 e,A8 e]
  .rw[A6 e,A6 e];show mz λt x hx=>?_;have{a,b,c}:=S.st ps x h hx;rw[SdM.fuel a (by lia) (by lia) (m:=m)]
def SdM.eq(h:az d ps):wS d sg e0 ps=if ps=e0 then ofN 1 else(aY d ps sg).foldl (λt x=>aK t (br (cj (pwF x.1).toNat) (wS d sg e0 x.2))) zer:=by
 have u:wS d sg e0 ps=if ps=e0 then ofN 1 else(aY d ps sg).foldl (λt x=>aK t (br (cj (pwF x.1).toNat) (wsF d sg e0 39 x.2))) zer:=by unfold wS;rw[wsF]
 rw[u];by_cases e:ps=e0
 .rw[A8 e,A8 e]
 .rw[A6 e,A6 e];show mz λt x hx=>?_;have{a,b,c}:=S.st ps x h hx;have:=(S.lo ps h).2;unfold wS;rw[S.fuel a (n:=39) (m:=40) (by lia) (by lia)]
theorem SdM.sup:∀(n:Nat) {ps:Sk Pt},az d ps->mu ps<n->Sup (mu ps) (2*mu ps) (wS d sg e0 ps)
 |0,ps,h,hn=>by have:=(S.lo ps h).1;lia
 |n+1,ps,h,hn=>by
  have m0:=(S.lo ps h).1;rw[S.eq h];by_cases e:ps=e0
  .rw[A8 e];show(KC 1).mono (by lia) (by lia)
  .rw[A6 e];show mw m0 (by lia) (qR m0 (by lia)) λx hx=>?_;have{a,b,c}:=S.st ps x h hx;have ih:=SdM.sup n a (by lia);have q0:=(S.lo _ a).1;have{w,hw}:=B4 (show 0<=pwF x.1 by lia);rw[hw,Ag];show(qQ (by lia) (by lia) q0 (by lia) (mr (w:=w) (by lia)) ih).mono (by lia) (by lia)
def SdM.sup'(h:az d ps):Sup 32 64 (wS d sg e0 ps):=by
 have:=S.lo ps h;show(S.sup 33 h (by lia)).mono (by lia) (by lia)
end
def x8(h:az d ps){x:Pc×Sk Pt}(hx:x∈aY d ps 1):arF ps+pwF x.1<=arF x.2/\1<=pwF x.1:=by
 unfold aY at hx;cases hT:bz ps 1 with
 |none=>rw[hT] at hx;show nomatch hx
 |some p=>
  rw[hT] at hx;dsimp only at hx;have{{p1,p2},hc}:=xF hT;have{l,a,b,c,r,e,ep,ga,gb,gc,et,ed}:=mf p1 p2;rw[ga,gb,gc,et,ed] at hx;rw[ga,gb,gc] at hc;rcases B'.mp hx with hx|hx
  .rw[AT.mp hx];have ea:l++[a]++c::r=l++a::c::r:=by simp
   have pe:pwF [a,b,c]=abI (crn a b c):=rfl;dsimp only;rw[ea,e,pe];have:=iN l a b c r;unfold abI;rw[A6 (by lia)];lia
  .cases hP:bq d (aJ a b c) with
   |false=>rw[hP] at hx;simp at hx
   |true=>
    rw[hP,A8 rfl] at hx;rw[AT.mp hx];have ea:l++[a]++[aJ a b c]++c::r=l++a::aJ a b c::c::r:=by simp
    have pe:pwF [a,b,c,aJ a b c]=1:=rfl;dsimp only;rw[ea,e,pe];have:=me l a b c r;lia
def x9(h:az d ps){x:Pc×Sk Pt}(hx:x∈aY d ps (-1)):arF x.2+pwF x.1<=arF ps/\1<=pwF x.1:=by
 unfold aY at hx;cases hT:bz ps (-1) with
 |none=>rw[hT] at hx;show nomatch hx
 |some p=>
  rw[hT] at hx;dsimp only at hx;have{{p1,p2},hc}:=xR hT;have{l,a,b,c,r,e,ep,ga,gb,gc,et,ed}:=mf p1 p2;rw[ga,gb,gc,et,ed] at hx;rw[ga,gb,gc] at hc;rcases B'.mp hx with hx|hx
  .rw[AT.mp hx];have ea:l++[a]++c::r=l++a::c::r:=by simp
   have pe:pwF [a,b,c]=abI (crn a b c):=rfl;dsimp only;rw[ea,e,pe];have:=iN l a b c r;unfold abI;rw[A8 (by lia)];lia
  .cases hP:bq d (aJ a b c) with
   |false=>rw[hP] at hx;simp at hx
   |true=>
    rw[hP,A8 rfl] at hx;rw[AT.mp hx];have ea:l++[a]++[aJ a b c]++c::r=l++a::aJ a b c::c::r:=by simp
    have pe:pwF [a,b,c,aJ a b c]=1:=rfl;dsimp only;rw[ea,e,pe];have:=me l a b c r;lia
theorem sdL(hd:d<=4):SdM d 1 (upE d) (λps=>32-arF ps) where
 sd:= .inl rfl
 st:=λps x h hx=>{(j5 h hx).1,by have:=(x8 h hx).1;lia,(x8 h hx).2}
 lo:=λps h=>by have:=iM hd h;have:=fW hd h;lia
theorem sdR(hd:d<=4):SdM d (-1) (loE d) arF where
 sd:= .inr rfl
 st:=λps x h hx=>{(j7 h hx).1,(x9 h hx).1,(x9 h hx).2}
 lo:=λps h=>by have:=iM hd h;have:=fW hd h;lia
def smS(s:Sh):Bool:=decide (s.2.length<=100)&&decide (-100<=s.1)&&decide (s.1<=100)&&s.2.all λx=>decide (-(10^18)<=x)&&decide (x<=10^18)
def Sms(s:Sh):Prop:=s.2.length<=100/\-100<=s.1/\s.1<=100
def eS(h:smS s=true):Sms s/\∀x∈s.2,-(10^18)<=x/\x<=10^18:=by
 unfold smS at h;simp only[A9,AQ,AV] at h;show{{h.1.1.1,h.1.1.2,h.1.2},h.2}
def Sup.sms{a b:Int}(h:Sup a b s)(ha:a<=33)(hb:b<=65):Sms s:=by
 unfold Sup at h;unfold Sms;lia
def wsX(x:Sk Lf):Sk Int:=x.map λp=>p.2.2
def gX(x:Sk Lf):Sk Int:=wsX x++wsX x
def fB:Sk Int->Sh->Bool
 |[],t=>smS t
 |w::l,t=>smS t&&decide (1<=w)&&decide (w<=50)&&fB l (br t (cj w.toNat))
def fC(d:Nat)(x:Sk Lf):Sh:=br (ofN (hmD d x)) (fZ (gX x))
def fD(d:Nat)(w:Sk Pt):Sh:=br (wS d 1 (upE d) w) (wS d (-1) (loE d) w)
theorem yb:∀{l:Sk Int}{t:Sh},fB l t=true->∀i w,l[i]? =some w->smS ((l.take i).foldl (λt w=>br t (cj w.toNat)) t)=true/\1<=w/\w<=50
 |[],_,_,i,w,hw=>by simp at hw
 |x::l,t,h,i,w,hw=>by
  rw[fB] at h;simp only[A9,AQ] at h;have{{{c1,c2},c3},c4}:=h;cases i with
  |zero=>cases hw;show{c1,c2,c3}
  |succ i=>show yb c4 i w hw
def iR{α β:Type}{f:β->α->β}{l:Sk α}{t:β}{x:α}(h:l[i]? =some x):(l.take (i+1)).foldl f t=f ((l.take i).foldl f t) x:=by
 rw[AX,h,Bz];rfl
def yc(t:Sk Int):Nat:=t.foldl (λn x=>n*8+x.toNat) 0
def yd(q:Ask4):Nat:=((q.d.toNat*8+q.k.toNat)*32768+yc q.h)*32768+yc q.f
def mB(q r:Ask4):Bool:=decide (q.d=r.d)&&decide (q.k=r.k)&&decide (q.h=r.h)&&decide (q.f=r.f)
def KD{r:Ask4}(h:mB q r=true):q=r:=by
 unfold mB at h;simp only[A9,AQ] at h;have{{{a,b},c},e}:=h;cases q;cases r;simp only at a b c e;rw[a,b,c,e]
def okQ(L:Nat)(q:Ask4):Bool:=decide (q.h.length=L)&&decide (q.f.length=L)&&q.h.all (λx=>decide (0<=x))&&q.f.all (λx=>decide (0<=x))&&decide (wtF q.h+wtF q.f=q.d)&&decide (2<=q.d)&&decide (q.d<=L)&&decide (L<=5)&&decide (0<=q.k)&&decide (q.k<=6)
theorem ye{t:Sk Int}(h:t.all (λx=>decide (0<=x))=true):Nn t:=λi=>by
 rw[A5];cases e:t[i]? with
 |none=>show Bk 0
 |some x=>simpa using List.all_eq_true.mp h x (AR e)
def KE(h:okQ L q=true):AskOk L q/\¬q.k<0/\¬q.d=1:=by
 unfold okQ at h;simp only[A9,AQ] at h;have{{{{{{{{{a,b},c},e},f},g},i},j},k},l}:=h;show{{a,b,ye c,ye e,f,4,i,j,l},4,4}
def yf(L K:Nat):Sk Ask4:=(List.range (L-1)).flatMap λe:Nat=>(List.range 6).flatMap λm:Nat=>(cY 1 L (e+2)).flatMap λh=>((cY 1 L (e+2)).filter λf=>decide (f.sum=(m:Int))&&decide (wtF h+wtF f=((e+2:Nat):Int))).flatMap λf=>(List.range (K+1)).map λk:Nat=>{((e+2:Nat):Int),(k:Int),h,f}
def KF{K:Nat}(a:AskOk L q)(d2:2<=q.d)(k0:0<=q.k)(hk:q.k<=K):q∈yf L K:=by
 have{n,hn}:=B4 (show 0<=q.d by lia);obtain⟨e,rfl⟩:∃e,n=e+2:={n-2,4};have{k,OX}:=B4 k0;have wh:=cQ (i:=1) (by decide) a.hn;have wf:=cQ (i:=1) (by decide) a.fn;have w:=a.wt;have dL:=a.dL;have sf:=a.sums;have L5:=a.L5;have w1:wtF q.h=wtG 1 q.h:=rfl;have w2:wtF q.f=wtG 1 q.f:=rfl;show B9.mpr {e,AY.mpr (by lia),B9.mpr {q.f.sum.toNat,AY.mpr (by lia),B9.mpr {q.h,jX (by decide) a.hl a.hn (by change wtG 1 q.h<=_;lia),B9.mpr {q.f,DU.mpr {jX (by decide) a.fl a.fn (by change wtG 1 q.f<=_;lia),?_},Ae.mpr {k,AY.mpr (by lia),?_}}}}}
 .rw[A9];show{Ay (by lia),Ay (by lia)}
 .rw[<-hn,<-OX]
def sOn(x:Sm4):Sh:=br (ofN x.1) (fZ x.2.1)
def shE:Nat->Ask4->Sh
 |0,_=>zer
 |n+1,q=>if q.d=1\/q.k<0 then ofN (if q.k=0 then 1 else 0) else(cf q).foldl (λt x=>aK t (br (sOn x) (shE n x.2.2))) zer
theorem yg{L:Nat}:∀{n m:Nat}{q:Ask4},AskOk L q->muF q<=n->muF q<=m->shE n q=shE m q
 |0,_,q,a,h,_=>by have:=a.mu;lia
 |_+1,0,q,a,_,h=>by have:=a.mu;lia
 |n+1,m+1,q,a,h1,h2=>by
  unfold shE;split
  .rfl
  .next hd=>
   show mz λt x hx=>?_;have{b,c}:=a.less (by have:=a.d1;lia) hx;rw[yg b (n:=n) (m:=m) (by lia) (by lia)]
def sF(q:Ask4):Sh:=shE 36 q
def iS(h:q.d=1\/q.k<0):sF q=ofN (if q.k=0 then 1 else 0):=by
 unfold sF shE;rw[A8 h]
def qS(a:AskOk L q)(h:¬(q.d=1\/q.k<0)):sF q=(cf q).foldl (λt x=>aK t (br (sOn x) (sF x.2.2))) zer:=by
 have e:sF q=shE 37 q:=yg a (by have:=a.mu;lia) (by have:=a.mu;lia);rw[e];unfold shE;rw[A6 h];rfl
def iT(x:Sm4)(v acc:Sh):Bool:=smS acc&&fB x.2.1 (ofN 1)&&smS (fZ x.2.1)&&smS (ofN x.1)&&smS (sOn x)&&smS v&&smS (br (sOn x) v)
def wlS(f:Ask4->Sn Sh):Sk Sm4->Sh->Sn Sh
 |[],t=>bif smS t then some t else none
 |x::r,t=>(f x.2.2).bind λv=>bif iT x v t then wlS f r (aK t (br (sOn x) v)) else none
abbrev TbS:=Sk (Nat×Ask4×Sh)
def mC(n:Nat):TbS->Sn (Ask4×Sh)
 |[]=>none
 |e::t=>bif Nat.beq e.1 n then some e.2 else mC n t
theorem yh{n:Nat}{e:Ask4×Sh}:∀{t:TbS},mC n t=some e->∃m,(m,e)∈t
 |[],h=>nomatch h
 |x::t,h=>by
  unfold mC at h;cases c:Nat.beq x.1 n with
  |true=>rw[c] at h;cases h;show{x.1,AE}
  |false=>rw[c] at h;have{m,hm}:=yh (t:=t) h;show{m,AG _ hm}
def qT(t:TbS)(q:Ask4):Sn Sh:=if q.d=1\/q.k<0 then some (ofN (if q.k=0 then 1 else 0)) else(mC (yd q) t).bind λe=>bif mB e.1 q then some e.2 else none
def gdS(q:Ask4):Prop:=wlS (λq=>some (sF q)) (cf q) zer=some (sF q)
def iU(t:TbS):Prop:=∀e∈t,e.2.2=sF e.2.1/\gdS e.2.1
def KG{t:TbS}(h:iU t){v:Sh}(e:qT t q=some v):v=sF q:=by
 unfold qT at e;split at e
 .next c=>cases e;rw[iS c]
 .have{x,hx,e}:=AA.mp e;cases s:mB x.1 q with
  |false=>rw[s] at e;cases e
  |true=>
   rw[s] at e;cases e;have{m,hm}:=yh hx;rw[<-KD s];show(h _ hm).1
theorem yi{f:Ask4->Sn Sh}(h:∀{q v},f q=some v->v=sF q):∀{l:Sk Sm4}{t s:Sh},wlS f l t=some s->wlS (λq=>some (sF q)) l t=some s/\s=l.foldl (λt x=>aK t (br (sOn x) (sF x.2.2))) t
 |[],t,s,e=>by
  show{e,?_};unfold wlS at e;cases c:smS t with
  |true=>rw[c] at e;show(Ao e).symm
  |false=>rw[c] at e;cases e
 |x::r,t,s,e=>by
  unfold wlS at e⊢;have{v,hv,e}:=AA.mp e;have hv:=h hv;subst hv;rw[Ap];cases c:iT x (sF x.2.2) t with
  |true=>rw[c] at e;show yi h e
  |false=>rw[c] at e;cases e
theorem qU:∀{l:Sk Sm4}{t s:Sh},wlS (λq=>some (sF q)) l t=some s->∀i x,l[i]? =some x->iT x (sF x.2.2) ((l.take i).foldl (λt x=>aK t (br (sOn x) (sF x.2.2))) t)=true
 |[],_,_,_,i,w,hw=>by simp at hw
 |x::l,t,s,h,i,w,hw=>by
  unfold wlS at h;rw[Ap] at h;cases c:iT x (sF x.2.2) t with
  |false=>rw[c] at h;cases h
  |true=>
   rw[c] at h;cases i with
   |zero=>cases hw;show c
   |succ i=>show qU h i w hw
def iV(L:Nat)(o:Sn TbS)(q:Ask4):Sn TbS:=o.bind λt=>bif okQ L q then(wlS (qT t) (cf q) zer).map λs=>(yd q,q,s)::t else none
def KH{t u:TbS}(h:iU t)(e:iV L (some t) q=some u):iU u/\(∃x∈u,x.2.1=q)/\∀x∈t,x∈u:=by
 unfold iV at e;simp only[Ap] at e;cases c:okQ L q with
 |false=>rw[c] at e;cases e
 |true=>
  rw[c] at e;have{s,hs,0}:=A'.mp e;have{a,k0,d1}:=KE c;show{λx hx=>?_,{_,AE,0},λx hx=>AG _ hx};rcases AI.mp hx with rfl|hx
  .have{w1,w2}:=yi (λe=>KG h e) hs;have es:s=sF q:=by rw[w2,<-qS a (by lia)]
   show{es,by unfold gdS;rw[<-es];show w1}
  .show h x hx
theorem yj{L:Nat}:∀(qs:Sk Ask4),qs.foldl (iV L) none=none
 |[]=>rfl
 |q::qs=>yj qs
theorem yk{L:Nat}:∀{qs:Sk Ask4}{t u:TbS},iU t->qs.foldl (iV L) (some t)=some u->iU u/\(∀q∈qs,∃x∈u,x.2.1=q)/\∀x∈t,x∈u
 |[],t,u,h,e=>by cases e;show{h,(λq hq=>nomatch hq),λx hx=>hx}
 |q::qs,t,u,h,e=>by
  rw[BY] at e;cases c:iV L (some t) q with
  |none=>rw[c,yj] at e;cases e
  |some m=>
   rw[c] at e;have{h1,{x,hx,ex},h3}:=KH h c;have{g1,g2,g3}:=yk h1 e;show{g1,λr hr=>?_,λy hy=>g3 y (h3 y hy)};rcases AI.mp hr with rfl|hr
   .show{x,g3 x hx,ex}
   .show g2 r hr
def yl(L K:Nat):Sn TbS:=(yf L K).foldl (iV L) (some [])
def iW(L K:Nat)(p:TbS->Ask4->Sh->Bool):Bool:=match yl L K with
 |none=>false
 |some t=>t.all λe=>p t e.2.1 e.2.2
def mE{K:Nat}{p:TbS->Ask4->Sh->Bool}(h:iW L K p=true):∃t,iU t/\∀q,AskOk L q->2<=q.d->0<=q.k->q.k<=K->gdS q/\p t q (sF q)=true:=by
 unfold iW at h;cases c:yl L K with
 |none=>rw[c] at h;cases h
 |some t=>
  rw[c] at h;have{g1,g2,_}:=yk (t:=[]) (λe he=>nomatch he) c;show{t,g1,λq a d2 k0 hk=>?_};have{x,hx,0}:=g2 q (KF a d2 k0 hk);have{e,g}:=g1 x hx;have:=AV.mp h x hx;rw[<-e];show{g,this}
theorem kc:∀(ts:Sk Int) (p:Nat) (zs:Sk Int),p+zs.length<=ts.length->(aV ts p zs).sum=ts.sum+zs.sum
 |[],p,zs,h=>by
  have:zs=[]:=BV.mp (by rw[CO] at h;lia);rw[this];simp[aV]
 |t::ts,p+1,zs,h=>by
  rw[aV,Ab,Ab,kc ts p zs (by simp at h;lia)];lia
 |t::ts,0,[],h=>by
  rw[aV];simp
 |t::ts,0,z::zs,h=>by
  rw[aV,Ab,Ab,Ab,kc ts 0 zs (by simp at h⊢;lia)];lia
def mF(n:Nat):(List.replicate n (0:Int)).sum=0:=by
 induction n with
 |zero=>rfl
 |succ n ih=>rw[Aj,Ab,ih];rfl
def KI(x:Int)(ys:Sk Int):(ys.map (x* ·)).sum=x*ys.sum:=by
 induction ys with
 |nil=>simp
 |cons y ys ih=>rw[AK,Ab,Ab,ih,Cw]
theorem yn(xs ys:Sk Int):∀i,i<=xs.length->(cv xs ys i).sum=(xs.take i).sum*ys.sum
 |0,_=>by rw[cv,mF];simp
 |i+1,h=>by
  have e:xs.take (i+1)=xs.take i++[xs.getD i 0]:=by
   rw[AX,A2 (by lia)];simp[List.getD,show i<xs.length by lia]
  rw[cv,kc _ _ _ (by rw[j9,A1];lia),yn xs ys i (by lia),KI,e,BQ,Int.add_mul];simp
def KJ(t x y:Sh):aK (aK t x) y=aK (aK t y) x:=by
 have{l1,n1,a1,b1}:=mq (aK t x) y;have{l2,n2,a2,b2}:=mq (aK t y) x;have{l3,n3,a3,b3}:=mq t x;have{l4,n4,a4,b4}:=mq t y;have{e1,e2}:=Ky a1 a2 λp=>by rw[a1.coef,a2.coef,b1,b2,a3.coef,a4.coef,b3,b4];lia
 show Prod.ext e1 e2
def yo{α:Type}{f:α->Sh}{l l':Sk α}(h:l.Perm l')(t:Sh):l.foldl (λt x=>aK t (f x)) t=l'.foldl (λt x=>aK t (f x)) t:=h.foldl_eq' (λx _ y _ z=>KJ z (f x) (f y)) t
def gY(s:Sh):Bool:=decide (-30<=s.1)&&decide (s.1+(s.2.length:Int)<=31)
def qV(h:gY s=true):Sup 30 30 s:=by
 unfold gY at h;simp only[A9,AQ] at h;unfold Sup;lia
theorem yp{α:Type}{f:α->Sh}{l:Sk α}(h:∀x∈l,gY (f x)=true)(i:Nat):Sms ((l.take i).foldl (λt x=>aK t (f x)) zer):=
 (mw (by lia) (by lia) (qR (by lia) (by lia)) λx hx=>qV (h x (Ca hx))).sms (by lia) (by lia)
def v91(d k:Nat):Sh:=([[(0,[1])],[(0,[1]),(0,[3])],[(0,[1]),(-2,[1,0,10,0,1]),(0,[21]),(0,[15])],[(0,[1]),(-2,[3,0,21,0,3]),(-4,[3,0,33,0,153,0,33,0,3]),(-6,[1,0,13,0,94,0,459,0,94,0,13,0,1]),(-2,[45,0,576,0,45]),(0,[378]),(0,[105])],[(0,[1]),(-2,[6,0,36,0,6]),(-4,[15,0,156,0,540,0,156,0,15]),(-6,[20,0,268,0,1555,0,4229,0,1555,0,268,0,20])]].getD (d-1) []).getD k zer
def mkD(d:Nat)(x:Sk Lf):Sk (Sk Int):=(x++fx d (bG d x)).map bT
def mkB(d:Nat)(x:Sk Lf):Bool:=((x++fx d (bG d x)).all λm=>decide (1<=m.1)&&decide (m.1<m.2.1)&&decide (m.2.1<=(d:Int)+1))&&decide ((x++fx d (bG d x)).length<=15)&&ssB (mkD d x)
def mG(c:Nat->Nat->Sn Bool)(n:Nat):Bool:=decide (n<2)||match fq c n with
 |none=>false
 |some p=>decide (p.size<=1000)&&p.toList.isPerm (List.range n)
def sDr(d k:Nat):Bool:=mG (λi j=>(cc d k)[i]?.bind λx=>(cc d k)[j]?.map λy=>gP x y) (cc d k).length
def qW(d:Nat)(x:Sk Lf):Bool:=fB (gX x) (ofN 1)&&smS (fZ (gX x))&&smS (ofN (hmD d x))&&gY (fC d x)
def f92(d k:Nat):Bool:=okB d k&&(cc d k).all (λx=>gR d x&&mkB d x&&qW d x)&&decide ((cc d k).length<=1000)
def Fl(d k:Nat):Prop:=f92 d k=true/\sDr d k=true/\jY d k=cT d k/\(cc d k).foldl (λt x=>aK t (fC d x)) zer=v91 d k
def a92(d k:Nat):Bool:=f92 d k&&sDr d k&&decide (jY d k=cT d k)&&decide ((cc d k).foldl (λt x=>aK t (fC d x)) zer=v91 d k)
def KM:((List.range 7).all (a92 1))=true:=by ac_nf
def KN:((List.range 7).all (a92 2))=true:=by ac_nf
def KO:((List.range 7).all (a92 3))=true:=by ac_nf
def KP:((List.range 7).all (a92 4))=true:=by ac_nf
def KQ:((List.range 3).all (a92 5))=true:=by ac_nf
def KR:f92 5 3=true:=by ac_nf
def KS:sDr 5 3=true:=by ac_nf
def KU:jY 5 3=cT 5 3:=by ac_nf
def KW:(cc 5 3).foldl (λt x=>aK t (fC 5 x)) zer=v91 5 3:=by ac_nf
def qX(h:Wide d k):Fl d k:=by
 unfold Wide at h;have go:∀{m n:Nat},((List.range n).all (a92 m))=true->∀{k},k<n->Fl m k:=λh k hk=>by
  have:=AV.mp h k (AY.mpr hk);unfold a92 at this;simp only[A9,AQ] at this;show{this.1.1.1,this.1.1.2,this.1.2,this.2}
 have hd:d=1\/d=2\/d=3\/d=4\/(d=5/\k<3)\/(d=5/\k=3):=by lia
 rcases hd with rfl|rfl|rfl|rfl|⟨rfl,hk⟩|⟨rfl,rfl⟩
 .show go KM (by lia)
 .show go KN (by lia)
 .show go KO (by lia)
 .show go KP (by lia)
 .show go KQ hk
 .show{KR,KS,KU,KW}
def yq(h:Wide d k):(okB d k=true/\(cc d k).length<=1000/\sDr d k=true)/\(∀x∈cc d k,(gR d x=true/\mkB d x=true)/\qW d x=true):=by
 have{a,b,_}:=qX h;unfold f92 at a;simp only[A9,AQ,AV] at a;show{{a.1.1,a.2,b},a.1.2}
def sWy(d k:Nat):Bool:=mG (λi j=>(bp d k)[i]?.bind λx=>(bp d k)[j]?.map λy=>gG x y) (bp d k).length
def ke(d:Nat)(w:Sk Pt):Bool:=smS (wS d 1 (upE d) w)&&gY (fD d w)
def w92(d k:Nat):Bool:=decide ((bp d k).length<=1000)&&(bp d k).all (qL d)&&sWy d k&&decide (eQ d (bp d k)=cT d k)
def g92(d k:Nat):Bool:=(bp d k).all (ke d)&&decide ((bp d k).foldl (λt w=>aK t (fD d w)) zer=v91 d k)
def Wv(d k:Nat):Prop:=(∀w∈bp d k,ke d w=true)/\(bp d k).foldl (λt w=>aK t (fD d w)) zer=v91 d k
def Wy(d k:Nat):Prop:=(((bp d k).length<=1000/\sWy d k=true)/\(∀w∈bp d k,az d w)/\eQ d (bp d k)=cT d k)/\Wv d k
def kf(h:g92 d k=true):Wv d k:=by
 unfold g92 at h;simp only[A9,AQ,AV] at h;show h
def iX(h:w92 d k=true)(g:Wv d k):Wy d k:=by
 unfold w92 at h;simp only[A9,AQ,AV] at h;show{{{h.1.1.1,h.1.2},λw hw=>Kn (h.1.1.2 w hw),h.2},g}
def KY:((List.range 7).all (w92 1))=true:=by ac_nf
def KZ:((List.range 7).all (w92 2))=true:=by ac_nf
def K0:((List.range 3).all (w92 3))=true:=by ac_nf
def K1:w92 3 3=true:=by ac_nf
def K2:w92 3 4=true:=by ac_nf
def K3:w92 3 5=true:=by ac_nf
def K4:w92 3 6=true:=by ac_nf
def K5:((List.range 2).all (w92 4))=true:=by ac_nf
def K6:w92 4 2=true:=by ac_nf
def K7:((List.range 7).all (g92 1))=true:=by ac_nf
def K8:((List.range 7).all (g92 2))=true:=by ac_nf
def K9:((List.range 3).all (g92 3))=true:=by ac_nf
def K':g92 3 3=true:=by ac_nf
def La:g92 3 4=true:=by ac_nf
def Lb:g92 3 5=true:=by ac_nf
def Lc:g92 3 6=true:=by ac_nf
def Ld:((List.range 2).all (g92 4))=true:=by ac_nf
def gW(l:Sk (Sk Pt))(t u:Sh):Bool:=l.all (ke 4)&&decide (l.foldl (λt w=>aK t (fD 4 w)) t=u)
def m42:Sh:=(-4,[2,0,16,0,49,0,16,0,2])
def n42:Sh:=(-4,[3,0,33,0,150,0,33,0,3])
def Lg:gW ((bp 4 2).take 26) zer m42=true:=by ac_nf
def Lh:gW (((bp 4 2).drop 26).take 26) m42 n42=true:=by ac_nf
def Li:gW (((bp 4 2).drop 26).drop 26) n42 (v91 4 2)=true:=by ac_nf
def g42:Wv 4 2:=by
 have go:∀{l a b:Sk (Sk Pt)}{t m u:Sh},l=a++b->gW a t m=true->gW b m u=true->gW l t u=true:=λe h1 h2=>by
  unfold gW at*
  simp only[A9,AQ] at*
  rw[e,List.all_append,Bz,h1.2,h1.1,h2.1];show{0,h2.2}
 have h:=go (Br 26 (bp 4 2)).symm Lg (go (Br 26 _).symm Lh Li);unfold gW at h;simp only[A9,AQ,AV] at h;show h
def mH(h:dE d k):Wy d k:=by
 unfold dE at h;have go:∀{m n:Nat},((List.range n).all (w92 m))=true->((List.range n).all (g92 m))=true->∀{k},k<n->Wy m k:=λh g k hk=>iX (AV.mp h k (AY.mpr hk)) (kf (AV.mp g k (AY.mpr hk)));have hd:d=1\/d=2\/(d=3/\k<3)\/(d=3/\k=3)\/(d=3/\k=4)\/(d=3/\k=5)\/(d=3/\k=6)\/(d=4/\k<2)\/(d=4/\k=2):=by lia
 rcases hd with rfl|rfl|⟨rfl,hk⟩|⟨rfl,rfl⟩|⟨rfl,rfl⟩|⟨rfl,rfl⟩|⟨rfl,rfl⟩|⟨rfl,hk⟩|⟨rfl,rfl⟩
 .show go KY K7 (by lia)
 .show go KZ K8 (by lia)
 .show go K0 K9 hk
 .show iX K1 (kf K')
 .show iX K2 (kf La)
 .show iX K3 (kf Lb)
 .show iX K4 (kf Lc)
 .show go K5 Ld hk
 .show iX K6 g42
def kg(Nc:Int)(ns:Sk Int):(dq Nc ns).2.sum=ns.sum:=(iP Nc ns).sum
def mI(n:Int):(ofN n).2.sum=n:=by unfold ofN;rw[kg];simp
def Lj(xs ys:Sk Int):(dn xs ys).sum=xs.sum+ys.sum:=by
 unfold dn;rw[kc _ _ _ (by rw[dX,Ah];lia),kc _ _ _ (by rw[Ah];lia),mF];lia
def Ll(x y:Sh):(aK x y).2.sum=x.2.sum+y.2.sum:=by
 unfold aK;split
 .next h=>rw[kg,DB.mp h];simp
 split
 .next h=>rw[kg,DB.mp h];simp
 .rw[kg,Lj,BQ,BQ,mF,mF];lia
def qY(x y:Sh):(br x y).2.sum=x.2.sum*y.2.sum:=by
 unfold br;rw[kg,yn _ _ _ (AB _),AS]
theorem yr:∀{ws:Sk Int}{t:Sh},(∀w∈ws,1<=w)->(ws.foldl (λt w=>br t (cj w.toNat)) t).2.sum=ws.foldl (· * ·) t.2.sum
 |[],_,_=>rfl
 |w::ws,t,h=>by
  rw[BY,BY,yr λx hx=>h x (AG _ hx),qY];have h1:=h w AE;have:(cj w.toNat).2.sum=w:=by
   change(cu w.toNat).sum=w;rw[Kw (by lia)];lia
  rw[this]
theorem yt{α:Type}{f:α->Sh}{g:α->Int}:∀{l:Sk α}{t:Sh},(∀x∈l,(f x).2.sum=g x)->(l.foldl (λt x=>aK t (f x)) t).2.sum=t.2.sum+(l.map g).sum
 |[],t,_=>by simp
 |x::l,t,h=>by
  rw[BY,yt λy hy=>h y (AG _ hy),Ll,h x AE,AK,Ab];lia
def iY(s:Sh)(c:Int):Bool:=s.2.all (λx=>decide (0<=x))&&decide (s.2.length<=100)&&(if c=0 then decide (s=zer) else decide (s.2≠[])&&decide (s.2.getD 0 0≠0)&&decide (s.2.reverse=s.2)&&decide (2*s.1=1-s.2.length)&&decide (dq (1-s.1-s.2.length) s.2.reverse=s))
def p70(_:TbS)(_:Ask4)(v:Sh):Bool:=iY v v.2.sum
def Lm:iW 2 6 p70=true:=by ac_nf
def Ln:iW 3 6 p70=true:=by ac_nf
def Lo:iW 4 6 p70=true:=by ac_nf
def Lp:iW 5 3 p70=true:=by ac_nf
def KL(L:Nat):Int:=if L=5 then 3 else 6
def qZ(a:AskOk L q)(d2:2<=q.d)(k0:0<=q.k)(hk:q.k<=KL L):gdS q/\p70 [] q (sF q)=true:=by
 have dL:=a.dL;have L5:=a.L5;have hL:L=2\/L=3\/L=4\/L=5:=by lia
 rcases hL with rfl|rfl|rfl|rfl
 .have{t,_,h}:=mE Lm;show h q a d2 k0 hk
 .have{t,_,h}:=mE Ln;show h q a d2 k0 hk
 .have{t,_,h}:=mE Lo;show h q a d2 k0 hk
 .have{t,_,h}:=mE Lp;show h q a d2 k0 hk
def yu(a:AskOk L q)(d2:2<=q.d){x:Sm4}(hx:x∈cf q):x.2.2.k<=q.k:=by
 unfold cf at hx;rcases B'.mp hx with hx|hx
 .unfold gS at hx;have{p,_,hx}:=B9.mp hx;unfold dC at hx;split at hx
  .rw[AT.mp hx];show Bk _
  .cases hx
 .have{kp,hk,fr,hf,0}:=qv hx;have:=(AskOk.few (q:={q.d,(6),q.h,q.f}) {a.hl,a.fl,a.hn,a.fn,a.wt,a.d1,a.dL,a.L5,Bk _} d2 hk hf).1.k6;change q.k+fr.sum-q.f.sum-q.d+1<=q.k;simp only at this;lia
theorem yw:∀{ws:Sk Int}{t:Sh},fB ws t=true->∀w∈ws,1<=w
 |[],_,_,_,h=>nomatch h
 |x::ws,t,h,w,hw=>by
  unfold fB at h;simp only[A9,AQ] at h;rcases AI.mp hw with rfl|hw
  .show h.1.1.2
  .show yw h.2 w hw
theorem rc{L:Nat}:∀(n:Nat) {q:Ask4},AskOk L q->q.k<=KL L->muF q<=n->(sF q).2.sum=cF q
 |0,q,a,_,h=>by have:=a.mu;lia
 |n+1,q,a,hk,h=>by
  by_cases hn:q.k<0
  .rw[iS (.inr hn),mI,A6 (by lia),xo hn]
  by_cases hd:q.d=1
  .rw[iS (.inl hd),mI,xp hn hd]
  .have d2:2<=q.d:=by have:=a.d1;lia
   rw[qS a (by lia),yt (g:=λx=>x.1*cg x.2.1*cF x.2.2) (λx hx=>?_),xq a hn hd]
   .change(0:Int)+_=_;lia
   .have{i,hi}:=List.mem_iff_getElem?.mp hx;have c:=qU (qZ a d2 (by lia) hk).1 i x hi;unfold iT at c;simp only[A9] at c;have{b,m}:=a.less d2 hx;have lk:=yu a d2 hx;rw[qY,rc n b (by lia) (by lia)];unfold sOn;rw[qY,mI];have e:(fZ x.2.1).2.sum=cg x.2.1:=by
     unfold fZ;rw[yr (yw c.1.1.1.1.1.2),mI];rfl
    rw[e]
def Lq(k:Int):iY (ofN (if k=0 then 1 else 0)) (ofN (if k=0 then 1 else 0)).2.sum=true:=by
 by_cases h:k=0
 .rw[A8 h];decide
 .rw[A6 h];decide
def Lr(a:AskOk L q)(k0:0<=q.k)(hk:q.k<=KL L):iY (sF q) (cF q)=true:=by
 rw[<-rc (muF q).toNat a hk (by have:=a.mu;lia)];by_cases hd:q.d=1
 .rw[iS (.inl hd)];show Lq q.k
 .show(qZ a (by have:=a.d1;lia) k0 hk).2
def b70(d k:Nat):Bool:=iY (v91 d k) (cT d k)&&decide ((v91 d k).2.sum=cT d k)
def Ls(h:Wide d k):b70 d k=true:=by
 have:((List.range 6).all λd=>(List.range 7).all λk=>b70 d k||decide (d=0)||(decide (d=5)&&decide (3<k)))=true:=by ac_nf
 unfold Wide at h;have:=AV.mp (AV.mp this d (AY.mpr (by lia))) k (AY.mpr (by lia));simp only[CA,A9,AQ] at this;rcases this with(e|e)|e
 .show e
 .lia
 .lia
theorem Lu(a:AskOk L q)(hk:q.k<=KL L):(sF q).2.sum=cF q:=rc (muF q).toNat a hk (by have:=a.mu;lia)
inductive spCell(K:W.Frag)(vs:List V)(H:Hp)(Q:VK)(E':XK):Prop
 |mk (a:Addr) (ns:List Int) (k:Int):vs=[.ref a,.int k]->SqL K H a (ns.map V.int)->0<=k->(∀z,Q (.int z) H)->spCell K vs H Q E'
inductive spNumber(K:W.Frag)(vs:List V)(H:Hp)(Q:VK)(E':XK):Prop
 |mk (a:Addr) (ns:List Int) (k:Int):vs=[.ref a,.int k]->SqL K H a (ns.map V.int)->0<=k->k<=100000->(∀z,0<=z->Q (.int z) H)->spNumber K vs H Q E'
theorem Lv(h:i<ks.length):atI (ks.map V.int) (i:Int)=some (.int (ks.getD i 0)):=jd (by rw[AC,A2 h];simp[List.getD,h])
def But(b:Se)(H H':Hp):Prop:=∀c o,H c=some o->c≠b->H' c=some o
def Lw(h:i<=ks.length):bR (ks.map V.int) (some (i:Int)) none=(ks.drop i).map V.int:=by
 unfold bR;rw[HT.sIx_nat,HT.sIx_none,A1,DS h,DH,C5 (by simp)]
inductive spWln(K:W.Frag)(vs:List V)(H:Hp)(Q:VK)(E':XK):Prop
 |mk (a:Addr) (ns:List Int):vs=[.ref a]->SqL K H a (ns.map V.int)->ns.length<=1000->(∀(l:Addr) (ks:List Int) (b:Nat) (H':Hp),ae H H'->H l=none->H' l=some (.lst (ks.map V.int))->ns=ks++List.replicate b 0->(ks=[]\/ks.getLast? ≠some 0)->Q (.ref l) H')->spWln K vs H Q E'
def iZ(H:Hp)(Q:VK)(P:Int->Sk Int->Prop):Prop:=∀(t l:Se) (lo:Int) (zs:Sk Int) (H':Hp),ae H H'->H l=none->H' t=some (.tup [.int lo,.ref l])->H' l=some (.lst (zs.map V.int))->P lo zs->Q (.ref t) H'
inductive spShade(K:W.Frag)(vs:List V)(H:Hp)(Q:VK)(E':XK):Prop
 |mk (Nc:Int) (a:Addr) (ns:List Int):vs=[.int Nc,.ref a]->SqL K H a (ns.map V.int)->ns.length<=1000->iZ H Q (Tr Nc ns)->spShade K vs H Q E'
def iZ.mk{P:Int->Sk Int->Prop}(k:iZ H Q P)(s:ae H H2){t:Se}(nl:H2 l=none)(nt:(upd H2 l (.lst (zs.map V.int))) t=none)(p:P lo zs):Q (.ref t) (upd (upd H2 l (.lst (zs.map V.int))) t (.tup [.int lo,.ref l])):=by
 show k t l lo zs _ ((s.put (s.free nl)).put (s.free (ae.new nl|>.free nt))) (s.free nl) ak ?_ p;rw[av (bi ak nt),ak]
inductive spTurned(K:W.Frag)(vs:List V)(H:Hp)(Q:VK)(E':XK):Prop
 |mk (t p:Addr) (lo:Int) (zs:List Int):vs=[.ref t]->SqT K H t [.int lo,.ref p]->SqL K H p (zs.map V.int)->zs.length<=1000->iZ H Q (Tr (1-lo-zs.length) zs.reverse)->spTurned K vs H Q E'
inductive spAtOne(K:W.Frag)(vs:List V)(H:Hp)(Q:VK)(E':XK):Prop
 |mk (t p:Addr) (lo:Int) (zs:List Int):vs=[.ref t]->SqT K H t [.int lo,.ref p]->SqL K H p (zs.map V.int)->Q (.int zs.sum) H->spAtOne K vs H Q E'
def But.of_same{b:Se}(s:ae H H'):But b H H':=λc o e _=>s _ _ e
def But.trans{b:Se}(s:But b H H')(t:But b H' H''):But b H H'':=λc o e n=>t c o (s c o e n) n
theorem But.upd{b:Se}{H:Hp}{o:HO}:But b H (L2.upd H b o):=λc u e n=>by rw[av n];show e
theorem But.same{b:Se}{H1:Hp}(s:ae H H1)(nb:H b=none)(t:But b H1 H2):ae H H2:=λc o e=>t c o (s c o e) (by rintro rfl;rw[nb] at e;cases e)
inductive sp_law(K:W.Frag)(vs:List V)(H:Hp)(Q:VK)(E':XK):Prop
 |mk (a:Addr) (ns:List Int):vs=[.ref a]->SqL K H a (ns.map V.int)->ns.length<=63->(∀H',Q (.bl true) H')->sp_law K vs H Q E'
def rg :bR vs none (some (k:Int))=vs.take k:=by
 unfold bR;rw[HT.sIx_nat,HT.sIx_none,Dg,Nat.sub_zero];show List.take_eq_take_iff.mpr (by lia)
def yy{l:Sk Int}(h:i<l.length):(l.map V.int)[i]? =some (.int (l.getD i 0)):=by
 rw[AC,A2 h];simp[List.getD,h]
def mJ(n:Nat):(List.replicate n [V.int 0]).flatten=(List.replicate n (0:Int)).map V.int:=by
 induction n with
 |zero=>rfl
 |succ n ih=>rw[Aj,Aj,CU,ih];rfl
inductive spList(f:List Int->List Int->List Int)(B:List Int->List Int->Prop)(K:W.Frag)(vs:List V)(H:Hp)(Q:VK)(E':XK):Prop
 |mk (a c:Addr) (xs ys:List Int):vs=[.ref a,.ref c]->SqL K H a (xs.map V.int)->SqL K H c (ys.map V.int)->xs.length<=400->ys.length<=400->B xs ys->(∀(l:Addr) (H':Hp),ae H H'->H l=none->H' l=some (.lst ((f xs ys).map V.int))->Q (.ref l) H')->spList f B K vs H Q E'
inductive spStretch(vs:List V)(H:Hp)(Q:VK)(E':XK):Prop
 |mk (w:Nat):vs=[.int w]->1<=w->w<=60->(iZ H Q (λlo zs=>lo=1-(w:Int)/\zs=cu w))->spStretch vs H Q E'
inductive spTwo(B:List Int->Prop)(f:Int×List Int->Int×List Int->Int×List Int)(E':W.Frag)(vs:List V)(H:Hp)(Q:VK)(E2:XK):Prop
 |mk (t u p q:Addr) (l1 l2:Int) (z1 z2:List Int):vs=[.ref t,.ref u]->H t=some (.tup [.int l1,.ref p])->H p=some (.lst (z1.map V.int))->H u=some (.tup [.int l2,.ref q])->H q=some (.lst (z2.map V.int))->z1.length<=100->z2.length<=100->-100<=l1->l1<=100->-100<=l2->l2<=100->B z1->(iZ H Q (λlo zs=>(lo,zs)=f (l1,z1) (l2,z2)))->spTwo B f E' vs H Q E2
def stD(x:Sk Lf×Int):D:= .t [lfs x.1,.i x.2]
def Lok(p:Lf):Prop:=0<=p.2.1-p.1/\p.2.1-p.1<=10/\1<=p.2.2/\p.2.2<=20
inductive spBetQ(vs:List V)(H:Hp)(Q:VK)(E':XK):Prop
 |mk (i lo hi:Int):vs=[.int i,.int lo,.int hi]->lo<=i->i<=hi->Q .non H->spBetQ vs H Q E'
inductive spDegQ(vs:List V)(H:Hp)(Q:VK)(E':XK):Prop
 |mk (i:Int):vs=[.int i]->1<=i->i<=5->Q .non H->spDegQ vs H Q E'
inductive spWidQ(vs:List V)(H:Hp)(Q:VK)(E':XK):Prop
 |mk (d k:Nat):vs=[.int d,.int k]->Wide d k->Q .non H->spWidQ vs H Q E'
inductive spEndQ(vs:List V)(H:Hp)(Q:VK)(E':XK):Prop
 |mk (n:Nat) (dv:V) (ps:List Lf):vs=[.int n,dv]->1<=n->n<=5->Is H (lfs ps) dv->((∀p∈ps,Okl n p))->(∀l H',ae H H'->H l=none->H' l=some (.lst ((bG n ps).map V.int))->Q (.ref l) H')->spEndQ vs H Q E'
inductive spLost(vs:List V)(H:Hp)(Q:VK)(E':XK):Prop
 |mk (v:V) (p:Lf):vs=[v]->Is H (lf p) v->Lok p->Q (.int (cb p)) H->spLost vs H Q E'
inductive spLfr(vs:List V)(H:Hp)(Q:VK)(E':XK):Prop
 |mk (d f n:Nat) (sp:Int):vs=[.int d,.int f,.int n,.int sp]->f<=d->d<=5->n<=20->(∀l H',ae H H'->H l=none->Is H' (lfs (di f (d-f) n sp)) (.ref l)->Q (.ref l) H')->spLfr vs H Q E'
inductive spLeav(n:Nat)(E':W.Frag)(vs:List V)(H:Hp)(Q:VK)(E2:XK):Prop
 |mk (v:V) (ls:List Lf) (wt sp:Int):vs=[v,.int wt,.int sp]->Is H (lfs ls) v->((∀p∈ls,Lok p))->0<=wt->wt<n->(cB n ls wt sp).length<=1000->ls.length<=200->n<=100->(∀l H',ae H H'->H l=none->Is (nw H H') (.l ((cB n ls wt sp).map lfs)) (.ref l)->Q (.ref l) H')->spLeav n E' vs H Q E2
inductive spWith(vs:List V)(H:Hp)(Q:VK)(E':XK):Prop
 |mk (d f:Nat) (v:V) (x:List Lf×Int):vs=[.int d,.int ((f+1:Nat):Int),v,.int x.2]->f<d->d<=5->Is H (lfs x.1) v->stB d f x=true->(∀l H',ae H H'->H l=none->Is (nw H H') (.l ((dS d (f+1) x.1 x.2).map stD)) (.ref l)->Q (.ref l) H')->spWith vs H Q E'
def Lx{n:String}:W.kitOne K (.type n) (.type n)=some true:=by
 unfold W.kitOne;simp
def yz{x:Sk Lf×Int}(h:Is H (stD x) v):∃t u,v=.ref t/\H t=some (.tup [u,.int x.2])/\Is H (lfs x.1) u:=by
 have{t,vs,0,ht,hi}:=bu h;have{u,us,0,h1,h2}:=aM hi;have{u2,us2,0,h3,h4}:=aM h2;rw[aB h3,bm h4] at ht;show{t,u,0,ht,h1}
theorem Ly{ps:Sk Lf}:∀x∈ps.map bT,x.length=3:=λx hx=>by
 have{p,_,0}:=Ae.mp hx;rfl
theorem yA(k:But a H H'):ae (hid H a) H':=λb o e=>by
 have hb:b≠a:=by rintro rfl;rw[Ga] at e;cases e
 rw[eC hb] at e;show k _ _ e hb
def mL(h:i<=vs.length):bR vs (some (i:Int)) none=vs.drop i:=by
 unfold bR;rw[HT.sIx_nat,HT.sIx_none,DS h,C5 (by simp)]
def Snd.good{ps:Sk Lf}(h:Snd d ps):ir d ps:={h.ok,h.nn}
theorem Snd.okl{d:Nat}{ps:Sk Lf}(h:Snd d ps):∀p∈ps,Okl d p:=h.good.okl
def Lz(h:∀i:Nat,0<=ns.getD i 0):0<=jw ns:=h _
def Snd.ends{ps:Sk Lf}(h:Snd d ps)(i:Nat):0<=(bG d ps).getD i 0:=by
 rcases Be i d with c|c
 .rw[JF h.okl c];show h.nn i c
 .rw[A5,CQ (by rw[lP d ps h.okl];show c)];show Bk _
inductive spSou(vs:List V)(H:Hp)(Q:VK)(E':XK):Prop
 |mk (n:Nat) (dv:V) (ps:List Lf):vs=[.int n,dv]->1<=n->n<=5->Is H (lfs ps) dv->Snd n ps->(∀H',ae H H'->Q (.bl true) H')->spSou vs H Q E'
inductive spNeS(vs:List V)(H:Hp)(Q:VK)(E':XK):Prop
 |mk (n:Nat) (dv:V) (ps:List Lf):vs=[.int n,dv]->1<=n->n<=5->Is H (lfs ps) dv->Snd n ps->(∀H',ae H H'->Q .non H')->spNeS vs H Q E'
inductive spEnM(vs:List V)(H:Hp)(Q:VK)(E':XK):Prop
 |mk (n:Nat) (dv:V) (ps:List Lf):vs=[.int n,dv]->1<=n->n<=5->Is H (lfs ps) dv->Snd n ps->(fx n (bG n ps)).length<=20->(∀l H',ae H H'->H l=none->Is H' (lfs (fx n (bG n ps))) (.ref l)->Q (.ref l) H')->spEnM vs H Q E'
theorem yB{xs:Sk V}{qs:Sk Lf}(s:ae H H')(hl:H l=some (.lst xs))(h:Iss H (qs.map lf) vs):Iss (upd H' l o) (qs.map lf) vs:=
 lQ (λa ys e=>by rw[av (by rintro rfl;rw[hl] at e;cases e)];show s _ _ e) h
def LA{p q:Lf}(h:Is H (lf p) v)(k:Is H (lf q) v):p=q:=by
 have{a,0,ha}:=fQ h;have{b,e,hb}:=fQ k;cases e;rw[ha] at hb;have{a1,a2,a3}:=p;have{b1,b2,b3}:=q;simp at hb;simp[hb]
def LB{wt:Sk Lf}{m:Lf}(h:Iss H (wt.map lf) Qy)(k:Is H (lf m) v):Gx K H 1 Qy v (λj=>decide (wt.getD j (0,0,0)=m)):=by
 have bN:∀(j:Nat) z,Qy[j]? =some z->Is H (lf (wt.getD j (0,0,0))) z:=λj z hz=>by
  have{d',Pf,h1}:=bC h hz;rw[List.getD,Pf];show h1
 show{5,λj z hz=>{?_,wB (bN j z hz) k},λi j z hi hj=>?_}
 .have{a,e,_}:=fQ (bN j z hz);show{a,e}
 .change decide (wt.getD i (0,0,0)=m)=decide (wt.getD j (0,0,0)=m);rw[LA (bN i z hi) (bN j z hj)]
def ti(t:Sk Int):D:=tI t
inductive spCho(vs:List V)(H:Hp)(Q:VK)(E':XK):Prop
 |mk (n:Int) (k:Nat):vs=[.int n,.int k]->(k:Int)<=n->n<=15->Q (.int (chF n k)) H->spCho vs H Q E'
inductive spWm(vs:List V)(H:Hp)(Q:VK)(E':XK):Prop
 |mk (v:V) (t:List Int) (p:Nat) (m:Int):vs=[v,.int p,.int m]->Is H (tI t) v->p<t.length->t.length<=5->(∀u H',ae H H'->Is H' (tI (wmF t p m)) u->Q u H')->spWm vs H Q E'
def LC(t:Sk Int)(a:Nat):Prop:=t.length<=5/\(∀i:Nat,0<=t.getD i 0)/\t.sum+(a:Int)<=15
inductive spPB(n:Nat)(E':W.Frag)(vs:List V)(H:Hp)(Q:VK)(E2:XK):Prop
 |mk (v:V) (t:List Int) (p g a:Nat):vs=[v,.int p,.int ((p:Int)+(g:Int)),.int a]->Is H (tI t) v->g<n->n<=6->p+g<t.length->LC t a->(∀l H',ae H H'->H l=none->Is H' (.l ((pbF g t p a).map prD)) (.ref l)->Q (.ref l) H')->spPB n E' vs H Q E2
def yC(d:Nat)(mk:Sk Lf):Prop:=(∀m∈mk,1<=m.1/\m.1<m.2.1/\m.2.1<=(d:Int)+1)/\mk.length<=15
inductive spHMO(vs:List V)(H:Hp)(Q:VK)(E':XK):Prop
 |mk (d:Nat) (v:V) (mk:List Lf):vs=[.int d,v]->1<=d->d<=5->Is H (lfs mk) v->yC d mk->ssB (mk.map bT)=true->(∀H',ae H H'->Q (.int (hmF d mk)) H')->spHMO vs H Q E'
def LD{x:Sk Lf}(h:mkB d x=true):yC d (x++fx d (bG d x))/\ssB (mkD d x)=true:=by
 unfold mkB at h;simp only[A9,AQ,AV] at h;show{{λm hm=>{(h.1.1 m hm).1.1,(h.1.1 m hm).1.2,(h.1.1 m hm).2},h.1.2},h.2}
inductive spHM(vs:List V)(H:Hp)(Q:VK)(E':XK):Prop
 |mk (d:Nat) (v:V) (ps:List Lf):vs=[.int d,v]->1<=d->d<=5->Is H (lfs ps) v->Snd d ps->mkB d ps=true->(∀H',ae H H'->Q (.int (hmF d (ps++fx d (bG d ps)))) H')->spHM vs H Q E'
def LF{t:Sk Int}(H':Hp)(vs:Sk V)(h:Iss H' (t.map .i) vs):Iss H' ((t.take p).map .i) (bR vs none (some (p:Int))):=by
 rw[rg,List.map_take];show h.take p
def LG{t:Sk Int}(hp:p<=t.length)(H':Hp)(vs:Sk V)(h:Iss H' (t.map .i) vs):Iss H' ((t.drop p).map .i) (bR vs (some (p:Int)) none):=by
 rw[mL (by rw[h.length,A1];show hp),DH];show h.drop p
theorem yD:∀{g:Nat}{t:Sk Int}{p a:Nat},(pbF g t p a).length<=(a+1)^g
 |0,t,p,a=>by simp[pbF]
 |g+1,t,p,a=>by
  have go:∀n,n<=a+1->((List.range n).flatMap λh:Nat=>(pbF g (wmF t p (h:Int)) (p+1) (a-h)).map λx=>(x.1,chF (t.getD p 0+(h:Int)) h*x.2)).length<=n*(a+1)^g:=by
   intro n hn;induction n with
   |zero=>simp
   |succ n ih=>
    rw[iF,AD,A1];have h1:=ih (by lia);have h2:=yD (g:=g) (t:=wmF t p (n:Int)) (p:=p+1) (a:=a-n);have h3:(a-n+1)^g<=(a+1)^g:=Nat.pow_le_pow_left (by lia) g;rw[Cf];lia
  have:=go (a+1) (AB _);rw[D1,Nat.mul_comm];show this
def LH{g:Nat}{t:Sk Int}{a:Nat}(hg:g<=5)(ha:a<=15):(pbF g t p a).length<=1048576:=by
 have h1:=yD (g:=g) (t:=t) (p:=p) (a:=a);have h2:(a+1)^g<=16^g:=Nat.pow_le_pow_left (by lia) g;have h3:16^g<=16^5:=Bu (by decide) hg;lia
def mM(h:n<=1048576):n<sizeLine:=by rw[B1];lia
def rj{t:Se}(h:H t=some (.tup [u,.int x.2]))(k:Is H (tI x.1) u):Is H (prD x) (.ref t):=bt h (ap k (ap bj ax))
def rk(h:Is H (prD x) v):∃t u,v=.ref t/\H t=some (.tup [u,.int x.2])/\Is H (tI x.1) u:=by
 have{t,vs,0,ht,hi}:=bu h;have{u1,us,0,NA,hi}:=aM hi;have{u2,us,0,NY,hi}:=aM hi;rw[bm hi,aB NY] at ht;show{t,u1,0,ht,NA}
def LI(s:aE H H'){t:Sk Int}(h:Is H (tI t) v):Is H' (tI t) v:=by
 have{a,0,ha}:=bK h;show eD (s _ _ ha)
def mN(s:aE H H')(h:Is H (prD x) v):Is H' (prD x) v:=by
 have{a,u,0,ha,hu}:=rk h;show rj (s _ _ ha) (LI s hu)
theorem yE{H H':Hp}(s:aE H H'):∀{xs:Sk (Sk Int×Int)}{vs:Sk V},Iss H (xs.map prD) vs->Iss H' (xs.map prD) vs
 |[],_,h=>by rw[bm h];show ax
 |x::xs,_,h=>by
  have{u,us,0,q,r}:=aM h;show ap (mN s q) (yE s r)
def LJ{r:Sk Nat}{t:Sk Int}(h:∀i:Nat,0<=t.getD i 0)(hs:t.sum+(r.sum:Nat)<=15)(hl:r.length<=5): -(2^64)<ce t p r/\ce t p r<2^64:=by
 have{a,b}:=wT (p:=p) h hs;have:(6435:Int)^r.length<=6435^5:=by
  have:r.length=0\/r.length=1\/r.length=2\/r.length=3\/r.length=4\/r.length=5:=by lia
  rcases this with e|e|e|e|e|e<;>rw[e]<;>decide
 lia
def LK{wt:Sk Lf}{m:Lf}(h:Iss H (wt.map lf) Qy)(k:Is H (lf m) v):nQ K H 1 Qy v (λj=>decide (wt.getD j (0,0,0)=m)):=by
 have{a,b,c}:=LB (K:=K) h k;show{a,λj z hz=>{(b j z hz).1,(b j z hz).2.told},c}
theorem LL(xs:Sk Lf):(dk xs).Nodup:=(qk xs).imp fun{a b} h e=>by subst e;show lU h
def yF{α β:Type}(f:β->α->β)(b:β)(xs:Sk α)(j:Nat)(x:α)(h:xs[j]? =some x):(xs.take (j+1)).foldl f b=f ((xs.take j).foldl f b) x:=by
 rw[AX,h,Bz];rfl
def LM(cnt:Lf->Nat)(m:Lf)(ms:Sk Lf):TF cnt (m::ms)=iI (TF cnt ms) (m.1-1).toNat (spR (m.2.1-m.1-1).toNat (cnt m)):=by funext t;rfl
def LN{rs:Sk (Sk Nat)}{D:Tab}{acc:Tab}(h:D[j]? =some x):stP p rs (D.take (j+1)) acc=inP x.1 x.2 p rs (stP p rs (D.take j) acc):=yF _ _ D j x h
def LO{d:Se}{M7:Sk (Sk Key×V)}(h:H d=some (.dT M7)):aE H (upd H d o):=(LTS.dict h).2
theorem rm{κ:Type}[DecidableEq κ]{k:κ}:∀{R:Sk (κ×Int)},k∈R.map (·.1)->(k,dF R k)∈R
 |[],h=>nomatch h
 |(a,b)::r,h=>by
  unfold dF;by_cases e:a=k
  .rw[A8 e,e];show AE
  .rw[A6 e];rw[AK,AI] at h;show AG _ (rm (h.resolve_left λz=>e z.symm))
theorem rn{κ:Type}[DecidableEq κ]{k:κ}{v:Int}:∀{R:Sk (κ×Int)},dF (cr R k v) k=v/\k∈(cr R k v).map (·.1)
 |[]=>by simp[cr,dF]
 |(a,b)::r=>by
  have{h1,h2}:=rn (k:=k) (v:=v) (R:=r);unfold cr;by_cases e:a=k
  .rw[A8 e];show{A8 e,by rw[AK,e];show AE}
  .rw[A6 e];show{by unfold dF;rw[A6 e];show h1,by rw[AK];show AG _ h2}
def rwL(t:Sk Int):D:= .l (t.map .i)
def qD(q:Ask4):D:= .t [.i q.d,.i q.k,tI q.h,tI q.f]
def smD(x:Sm4):D:= .t [.i x.1,rwL x.2.1,qD x.2.2]
def kq(q:Ask4):Sk (Mx Int):=[.inl q.d,.inl q.k,.inr q.h,.inr q.f]
def yG{r:Ask4}(h:kq q=kq r):q=r:=by
 have{a,b,c,d}:=q;have{a',b',c',d'}:=r;unfold kq at h;simp only[CP,Sum.inl.injEq,Sum.inr.injEq,and_true] at h;have{0,0,0,0}:=h;rfl
def i0(h:Is H (qD q) v):IsK H (kq q) v:={0,h}
def f'{t:Sk Int}(h:Is H (rwL t) v):∃a,v=.ref a/\H a=some (.lst (t.map V.int)):=by
 have{a,vs,0,ha,hi}:=aD h;rw[ig hi] at ha;show{a,0,ha}
def kh{t:Sk Int}(h:H a=some (.lst (t.map V.int))):Is H (rwL t) (.ref a):=aA h (cW t)
def yH{H0:Hp}{t:Sk Int}(n:H0 a=none)(h:Is H (rwL t) (.ref a)):Is (nw H0 H) (rwL t) (.ref a):=by
 have{_,e,ha}:=f' h;cases e;show kh (by rw[cN n];show ha)
def gd(t:aE H H')(h:Is H (tI xs) v):Is H' (tI xs) v:=by
 have{a,0,ha}:=bK h;show eD (t _ _ ha)
theorem i5{H H':Hp}(t:aE H H'):∀{ts:Sk (Sk Int)}{vs:Sk V},Iss H (ts.map tI) vs->Iss H' (ts.map tI) vs
 |[],_,h=>by rw[bm h];show ax
 |p::ps,_,h=>by
  have{u,us,0,h1,h2}:=aM h;show ap (gd t h1) (i5 t h2)
def yI(t:aE H H')(h:Is H (qD q) v):Is H' (qD q) v:=by
 have{a,vs,0,ha,hi}:=bu h;have{u1,us,0,h1,hi}:=aM hi;have{u2,us,0,h2,hi}:=aM hi;have{u3,us,0,h3,hi}:=aM hi;have{u4,us,0,h4,hi}:=aM hi;rw[bm hi,aB h1,aB h2] at ha;show bt (t _ _ ha) (ap bj (ap bj (ap (gd t h3) (ap (gd t h4) ax))))
def cD(t:Sk Int):Prop:=Nn t/\t.length<=5/\(t=[]\/∃s x,t=s++[x]/\0<x)
inductive spIsR(vs:List V)(H:Hp)(Q:VK)(E':XK):Prop
 |mk (v:V) (t:List Int):vs=[v]->Is H (rwL t) v->cD t->Q (.bl true) H->spIsR vs H Q E'
inductive spRwL(vs:List V)(H:Hp)(Q:VK)(E':XK):Prop
 |mk (v:V) (t:List Int):vs=[v]->Is H (rwL t) v->t.length<=5->(∀H',ae H H'->Q (.int (wtF t)) H')->spRwL vs H Q E'
inductive spRwT(vs:List V)(H:Hp)(Q:VK)(E':XK):Prop
 |mk (v:V) (t:List Int):vs=[v]->Is H (tI t) v->t.length<=5->(∀H',ae H H'->Q (.int (wtF t)) H')->spRwT vs H Q E'
inductive spNeR(vs:List V)(H:Hp)(Q:VK)(E':XK):Prop
 |mk (d:Int) (v1 v2:V) (a b:List Int):vs=[.int d,v1,v2]->Is H (rwL a) v1->Is H (rwL b) v2->cD a->cD b->wtF a+wtF b=d->(∀H',ae H H'->Q .non H')->spNeR vs H Q E'
inductive spPrd(vs:List V)(H:Hp)(Q:VK)(E':XK):Prop
 |mk (v:V) (ws:List Int):vs=[v]->Is H (rwL ws) v->((∀w∈ws,1<=w/\w<=5))->Q (.int (cg ws)) H->spPrd vs H Q E'
inductive spFil(vs:List V)(H:Hp)(Q:VK)(E':XK):Prop
 |mk (v:V) (t:List Int) (n:Nat):vs=[v,.int n]->Is H (rwL t) v->t.length<=n->n<=5->(∀u H',ae H H'->Is H' (tI (bU n t)) u->Q u H')->spFil vs H Q E'
inductive spRwn(vs:List V)(H:Hp)(Q:VK)(E':XK):Prop
 |mk (v:V) (t:List Int):vs=[v]->Is H (tI t) v->Nn t->t.sum<=5->t.length<=5->(∀l H',ae H H'->H l=none->Is H' (.l ((rwF t).map tI)) (.ref l)->Q (.ref l) H')->spRwn vs H Q E'
inductive spRby(n:Nat)(E':W.Frag)(vs:List V)(H:Hp)(Q:VK)(E2:XK):Prop
 |mk (v:V) (t:List Int) (wt:Int) (fi:Nat):vs=[v,.int wt,.int fi]->Is H (tI t) v->Nn t->t.length<=5->(wt-wtF t).toNat+1<=n->n<=8->-1000<=wt->wt<=1000->-1000<=wtF t->wtF t<=1000->fi<=5->(∀l H',ae H H'->H l=none->Is H' (.l ((rbF n t wt fi).map tI)) (.ref l)->Q (.ref l) H')->spRby n E' vs H Q E2
inductive spChs(vs:List V)(H:Hp)(Q:VK)(E':XK):Prop
 |mk (v1 v2:V) (b a:List Int):vs=[v1,v2]->Is H (tI b) v1->Is H (tI a) v2->Le a b->b.sum<=5->(∀H',ae H H'->Q (.int (cC b a)) H')->spChs vs H Q E'
inductive spWgn(vs:List V)(H:Hp)(Q:VK)(E':XK):Prop
 |mk (v1 v2:V) (f fr:List Int):vs=[v1,v2]->Is H (tI f) v1->Is H (tI fr) v2->Le f fr->fr.length<=5->fr.sum<=5->(∀l H',ae H H'->H l=none->Is H' (rwL (wgF f fr)) (.ref l)->Q (.ref l) H')->spWgn vs H Q E'
inductive spOne(g:Ask4->List Sm4)(vs:List V)(H:Hp)(Q:VK)(E':XK):Prop
 |mk (v1 v2:V) (q:Ask4) (L:Nat):vs=[.int q.d,.int q.k,v1,v2]->Is H (tI q.h) v1->Is H (tI q.f) v2->AskOk L q->2<=q.d->(∀l H',ae H H'->H l=none->Is (nw H H') (.l ((g q).map smD)) (.ref l)->Q (.ref l) H')->spOne g vs H Q E'
inductive spSms(vs:List V)(H:Hp)(Q:VK)(E':XK):Prop
 |mk (v:V) (q:Ask4) (L:Nat):vs=[v]->Is H (qD q) v->AskOk L q->2<=q.d->(∀l H',ae H H'->H l=none->Is (nw H H') (.l ((cf q).map smD)) (.ref l)->Q (.ref l) H')->spSms vs H Q E'
theorem rp:∀{a b:Sk Int}{k:Int},Le a b->((wgG k a b).length:Int)=b.sum-a.sum
 |[],[],_,_=>rfl
 |x::a,y::b,k,h=>by
  change((List.replicate (y-x).toNat k++wgG (k+1) a b).length:Int)=_;have:=rp (k:=k+1) h.2.2;have h1:=h.2.1;rw[AD,Ah,Ab,Ab];lia
theorem yJ:∀{a b:Sk Int}{k:Int},Le a b->∀w∈wgG k a b,k<=w/\w<k+a.length
 |[],[],_,_,w,h=>nomatch h
 |x::a,y::b,k,h,w,hw=>by
  rcases B'.mp (show w∈List.replicate (y-x).toNat k++wgG (k+1) a b from hw) with hw|hw
  .have:=List.eq_of_mem_replicate hw;rw[Af];lia
  .have:=yJ h.2.2 w hw;rw[Af];lia
def KnQ(L:Nat)(R:Sk (Sk (Mx Int)×Int)):Prop:=(R.map (·.1)).Nodup/\∀x∈R,∃q,AskOk L q/\0<=q.k/\x=(kq q,cF q)
def LP(L:Nat):Sk (Sk (Mx Int)):=(List.range 6).flatMap λd:Nat=>(List.range 7).flatMap λk:Nat=>(cY 1 L 5).flatMap λh=>(cY 1 L 5).map λf=>kq {(d:Int),(k:Int),h,f}
theorem ki{α β:Type}{g:α->Sk β}{m:Nat}:∀{xs:Sk α},(∀x∈xs,(g x).length<=m)->(xs.flatMap g).length<=xs.length*m
 |[],_=>AW _
 |x::xs,h=>by
  rw[Bm,AD,Af,Cf];have:=ki (xs:=xs) λy hy=>h y (AG _ hy);have:=h x AE;lia
def LQ(h:L<=5):(LP L).length<=15162:=by
 have r:(cY 1 L 5).length<=19:=by
  have h1:=JZ;unfold xw at h1;rw[AV] at h1;simpa using h1 L (AY.mpr (by lia))
 have e1:∀(d k:Nat) (h':Sk Int),((cY 1 L 5).map λf=>kq ⟨(d:Int),(k:Int),h',f⟩).length<=19:=λd k h'=>by rw[A1];show r
 have e2:∀(d k:Nat),((cY 1 L 5).flatMap λh=>(cY 1 L 5).map λf=>kq ⟨(d:Int),(k:Int),h,f⟩).length<=361:=λd k=>BG (ki λh' _=>e1 d k h') (by lia);have e3:∀d:Nat,((List.range 7).flatMap λk:Nat=>(cY 1 L 5).flatMap λh=>(cY 1 L 5).map λf=>kq ⟨(d:Int),(k:Int),h,f⟩).length<=2527:=λd=>by
  have:=ki (xs:=List.range 7) (m:=361) λk _=>e2 d k;rw[Bl] at this;show this
 have:=ki (xs:=List.range 6) (m:=2527) λd _=>e3 d;rw[Bl] at this;show this
def yK{ks:Sk (Sk (Mx Int))}(nd:ks.Nodup)(h:∀x∈ks,∃q,AskOk L q/\0<=q.k/\x=kq q)(h5:L<=5):ks.length<=15162:=by
 show BG (mh nd λx hx=>?_) (LQ h5);have{q,a,k0,0}:=h x hx;have wh:=cQ (i:=1) (by decide) a.hn;have wf:=cQ (i:=1) (by decide) a.fn;have w:=a.wt;have d1:=a.d1;have dL:=a.dL;have k6:=a.k6;unfold wtF at w;show B9.mpr {q.d.toNat,AY.mpr (by lia),B9.mpr {q.k.toNat,AY.mpr (by lia),B9.mpr {q.h,jX (by decide) a.hl a.hn (by change wtG 1 q.h<=5;lia),Ae.mpr {q.f,jX (by decide) a.fl a.fn (by change wtG 1 q.f<=5;lia),?_}}}};change kq {((q.d.toNat:Nat):Int),((q.k.toNat:Nat):Int),q.h,q.f}=kq q;rw[show((q.d.toNat:Nat):Int)=q.d by lia,show((q.k.toNat:Nat):Int)=q.k by lia]
def KnQ.len{R:Sk (Sk (Mx Int)×Int)}(h:KnQ L R)(h5:L<=5):R.length<=15162:=by
 rw[<-A1 (f:=(·.1))];show yK h.1 (λx hx=>?_) h5;have{y,hy,0}:=Ae.mp hx;have{q,a,k0,0}:=h.2 y hy;show{q,a,k0,0}
def KnQ.get{L:Nat}{R:Sk (Sk (Mx Int)×Int)}(h:KnQ L R){q:Ask4}(hk:kq q∈R.map (·.1)):dF R (kq q)=cF q:=by
 have{r,_,_,e}:=h.2 _ (rm hk);simp only[Prod.mk.injEq] at e;rw[e.2,yG e.1]
def KnQ.put{R:Sk (Sk (Mx Int)×Int)}(h:KnQ L R)(a:AskOk L q)(k0:0<=q.k):KnQ L (cr R (kq q) (cF q)):=
 {xL h.1,λx hx=>(qH hx).elim (λhx=>h.2 x hx) λe=>{q,a,k0,e}}
def dr{w:Si}{M7:Sk (Sk (Mx Int)×V)}(d:DM P w H a M7)(k:But a H H'):LTS H H':=by
 have{_,_,xs,_,e}:=d;show{λb ys h=>k _ _ h (by rintro rfl;rw[e] at h;cases h),λb ys h=>k _ _ h (by rintro rfl;rw[e] at h;cases h)}
inductive spCnt(P:Program)(w:World)(n:Nat)(vs:List V)(H:Hp)(Q:VK)(E':XK):Prop
 |mk (v:V) (kn:Addr) (q:Ask4) (L:Nat) (R:List (List (Mx Int)×Int)):vs=[v,.ref kn]->Is H (qD q) v->AskOk L q->muF q+1<=(n:Int)->DM P w H kn (tK R)->KnQ L R->(∀R' H',But kn H H'->DM P w H' kn (tK R')->KnQ L R'->Q (.int (cF q)) H')->spCnt P w n vs H Q E'
inductive spAsk(vs:List V)(H:Hp)(Q:VK)(E':XK):Prop
 |mk (d k:Nat) (v1 v2:V) (a b:List Int):vs=[.int d,.int k,v1,v2]->Wide d k->Is H (rwL a) v1->Is H (rwL b) v2->cD a->cD b->wtF a+wtF b=d->a.length<=d->b.length<=d->(∀u H',ae H H'->Is H' (qD {d,k,bU d a,bU d b}) u->Q u H')->spAsk vs H Q E'
inductive spByE(vs:List V)(H:Hp)(Q:VK)(E':XK):Prop
 |mk (d k:Nat) (v1 v2:V) (a b:List Int):vs=[.int d,.int k,v1,v2]->Wide d k->Is H (rwL a) v1->Is H (rwL b) v2->cD a->cD b->wtF a+wtF b=d->a.length<=d->b.length<=d->(∀H',ae H H'->Q (.int (cF {d,k,bU d a,bU d b})) H')->spByE vs H Q E'
def LR(a:AskOk L q)(d2:2<=q.d){x:Sm4}(hx:x∈cf q):(0<=x.1/\x.1<=1024)/\(∀w∈x.2.1,1<=w/\w<=5)/\x.2.1.length<=5:=by
 unfold cf at hx;rcases B'.mp hx with hx|hx
 .have{_,_,e1,w,e2,w1,w5}:=a.held hx;rw[e1,e2];show{{5,5},λy hy=>by rw[AT.mp hy];show{w1,w5},7}
 .have{kp,hk,fr,hf,0}:=qv hx;have{_,_,l1,l2,f5}:=a.few d2 hk hf;have c1:=ma l1 a.sums.2.1;have c2:=ma l2 f5;have m1:=Bn c1.1 c2.1;have m2:=Cc c1.2 c2.2 c2.1 (by decide);show{{m1,by change _*_<=1024;lia},λw hw=>?_,?_}
  .have:=yJ (k:=1) l2 w hw;have:=a.fl;have:=a.L5;lia
  .have:=rp (k:=1) l2;have:=a.sums;change(wgG 1 q.f fr).length<=5;lia
theorem yL:∀{ws:Sk Int},(∀w∈ws,1<=w/\w<=5)->0<=cg ws/\cg ws<=5^ws.length
 |[],_=>by simp[cg]
 |w::ws,h=>by
  have{h1,h2}:=yL λx hx=>h x (AG _ hx);have{w1,w5}:=h w AE;rw[show w::ws=[w]++ws from rfl,J0,show cg [w]=w by change 1*w=w;lia];show{Bn (by lia) h1,?_};rw[AD,Int.pow_add];show Cc w5 h2 h1 (Int.pow_nonneg (by decide))
inductive spWorth(vs:List V)(H:Hp)(Q:VK)(E':XK):Prop
 |mk (dv:V) (ps:List Lf) (d:Nat):vs=[dv]->Is H (lfs ps) dv->((∀p∈ps,True/\1<=p.2.2/\p.2.2<=2^20))->Q (.int (fU ps)) H->spWorth vs H Q E'
inductive spCtF(f:Nat->Nat->Int)(vs:List V)(H:Hp)(Q:VK)(E':XK):Prop
 |mk (d k:Nat):vs=[.int d,.int k]->Wide d k->(∀H',ae H H'->Q (.int (f d k)) H')->spCtF f vs H Q E'
def ge(x:Pc×Sk Pt):D:= .t [pcD x.1,pts x.2]
def Sd(s:Int):Prop:=s=1\/s= -1
inductive spCrn(vs:List V)(H:Hp)(Q:VK)(E':XK):Prop
 |mk (a b c:V) (p q r:Pt):vs=[a,b,c]->Is H (pt p) a->Is H (pt q) b->Is H (pt r) c->inB p=true->inB q=true->inB r=true->Q (.int (crn p q r)) H->spCrn vs H Q E'
inductive spIsP(vs:List V)(H:Hp)(Q:VK)(E':XK):Prop
 |mk (d:Nat) (v:V) (p:Pt):vs=[.int d,v]->Is H (pt p) v->Q (.bl (bq d p)) H->spIsP vs H Q E'
def yM:Sn Nat->V
 |none=>.non
 |some p=>.int p
inductive spTurn(vs:List V)(H:Hp)(Q:VK)(E':XK):Prop
 |mk (v:V) (ps:List Pt) (s:Int):vs=[v,.int s]->Is H (pts ps) v->psB ps=true->Sd s->Q (yM (bz ps s)) H->spTurn vs H Q E'
inductive spSteps(vs:List V)(H:Hp)(Q:VK)(E':XK):Prop
 |mk (d:Nat) (v:V) (ps:List Pt) (s:Int):vs=[.int d,v,.int s]->Is H (pts ps) v->psB ps=true->Sd s->(∀l H',ae H H'->H l=none->Is (nw H H') (.l ((aY d ps s).map ge)) (.ref l)->Q (.ref l) H')->spSteps vs H Q E'
inductive spLv(n:Nat)(K:W.Frag)(vs:List V)(H:Hp)(Q:VK)(E':XK):Prop
 |mk (a:Addr) (rs:List V) (k:Nat):vs=[.ref a,.int k]->SqL K H a rs->rs.length<n->rs.length<=20->(∀(l:Addr) (us:List V) (H':Hp),ae H H'->H l=none->H' l=some (.lst us)->bX H H' (lvA rs k) us->Q (.ref l) H')->spLv n K vs H Q E'
def LS(ps:Sk Pt):nK (wk ps)=.t (ps.map pt):=by
 unfold nK wk;rw[BN];rfl
def i6(h:Is H (.t (ps.map pt)) v):Is H (nK (wk ps)) v:=by
 rw[LS];show h
def bI{w:Si}(d:DN P w H a M7)(k:But a H H'):LTS H H':=by
 have{_,_,xs,_,e}:=d;show{λb ys h=>k _ _ h (by rintro rfl;rw[e] at h;cases h),λb ys h=>k _ _ h (by rintro rfl;rw[e] at h;cases h)}
def KnG(d:Nat)(e0:Sk Pt)(Wq:Sk Pt->Int)(R:Sk (Sk (Sk Int)×Int)):Prop:=(R.map (·.1)).Nodup/\(∀x∈R,∃ps,az d ps/\x=(wk ps,Wq ps))/\wk e0∈R.map (·.1)
theorem KnG.len(h:KnG d e0 Wq R)(hd:d<=4):R.length<=32768:=xO hd h.1 λx hx=>by
 have{ps,ok,e}:=h.2.1 x hx;show{ps,ok,by rw[e]}
def KnG.get{d:Nat}{e0:Sk Pt}{Wq:Sk Pt->Int}{R:Sk (Sk (Sk Int)×Int)}(h:KnG d e0 Wq R){ps:Sk Pt}(hk:wk ps∈R.map (·.1)):dF R (wk ps)=Wq ps:=by
 have{qs,_,e}:=h.2.1 _ (rm hk);have e1:=qB (BB Prod.fst e);have e2:dF R (wk ps)=Wq qs:=BB Prod.snd e;rw[e2,e1]
theorem KnG.put(h:KnG d e0 Wq R)(ok:az d ps):KnG d e0 Wq (cr R (wk ps) (Wq ps)):=
 {xL h.1,λx hx=>(qH hx).elim (λhx=>h.2.1 x hx) λe=>{ps,ok,e},by
  rw[qG];split
  .show h.2.2
  .show Bv _ h.2.2}
inductive spWoG(P:Program)(w:World)(n:Nat)(vs:List V)(H:Hp)(Q:VK)(E':XK):Prop
 |mk (d:Nat) (v:V) (kn:Addr) (ps:List Pt) (R:List (List (List Int)×Int)) (sg:Int) (e0:List Pt) (Wq mu:List Pt->Int):vs=[.int d,v,.int sg,.ref kn]->Side d sg e0 Wq mu->1<=d->d<=4->Is H (pts ps) v->az d ps->mu ps+1<=n->DN P w H kn (tK R)->KnG d e0 Wq R->(∀R' H',But kn H H'->DN P w H' kn (tK R')->KnG d e0 Wq R'->Q (.int (Wq ps)) H')->spWoG P w n vs H Q E'
inductive spKnG(P:Program)(w:World)(e0:Nat->List Pt)(Wq:Nat->List Pt->Int)(vs:List V)(H:Hp)(Q:VK)(E':XK):Prop
 |mk (d:Nat):vs=[.int d]->1<=d->d<=4->(∀kn R H',ae H H'->H kn=none->DN P w H' kn (tK R)->KnG d (e0 d) (Wq d) R->Q (.ref kn) H')->spKnG P w e0 Wq vs H Q E'
inductive spPw(vs:List V)(H:Hp)(Q:VK)(E':XK):Prop
 |mk (v:V) (c:Pc):vs=[v]->Is H (pcD c) v->((∀p∈c,inB p=true))->((c.length=3\/c.length=4))->Q (.int (pwF c)) H->spPw vs H Q E'
def yN(hd:d<=4)(h:az d ps){x:Pc×Sk Pt}(hx:x∈aY d ps sg):(∀p∈x.1,inB p=true)/\(x.1.length=3\/x.1.length=4):=by
 have inb:∀p,bq d p=true->inB p=true:=λp hp=>by
  have:=ci.mp hp;unfold inB;simp only[A9,AQ];lia
 unfold aY at hx;cases hT:bz ps sg with
 |none=>rw[hT] at hx;show nomatch hx
 |some p=>
  rw[hT] at hx;dsimp only at hx;have{p1,p2}:=j4 hT;have i1:=inb _ (h.1 _ (dW (ps:=ps) (j:=p-1) (by lia)));have i2:=inb _ (h.1 _ (dW (ps:=ps) (j:=p) (by lia)));have i3:=inb _ (h.1 _ (dW (ps:=ps) (j:=p+1) (by lia)));rcases B'.mp hx with hx|hx
  .rw[AT.mp hx];show{λq hq=>?_,.inl rfl};simp only[AI,At,Bq] at hq;rcases hq with rfl|rfl|rfl
   .show i1
   .show i2
   .show i3
  .cases hP:bq d (aJ (ps.getD (p-1) zP) (ps.getD p zP) (ps.getD (p+1) zP)) with
   |false=>rw[hP] at hx;simp at hx
   |true=>
    rw[hP,A8 rfl] at hx;rw[AT.mp hx];show{λq hq=>?_,.inr rfl};simp only[AI,At,Bq] at hq;rcases hq with rfl|rfl|rfl|rfl
    .show i1
    .show i2
    .show i3
    .show inb _ hP
def DN.but{w:Si}{b:Se}{NL:Sk (Sk (Sk Int)×V)}(d:DN P w H a M7)(e:DN P w H b NL)(k:But b H H')(n:a≠b):DN P w H' a M7:=by
 have{z,y,xs,r,h}:=id d;show d.keeps ((k _ _ h n).trans h.symm) (bI e k).2
def LU{L M:Sk (Sk Pt)}(h:L.Perm M):eQ d L=eQ d M:=by
 unfold eQ;induction h with
 |nil=>rfl
 |cons x _ ih=>rw[AK,AK,Ab,Ab,ih]
 |swap x y l=>simp only[AK,Ab];lia
 |trans _ _ i1 i2=>rw[i1,i2]
def rq(a b:Se)(H H':Hp):Prop:=∀c o,H c=some o->c≠a->c≠b->H' c=some o
def LV{c:Pc}(h:∀p∈c,inB p=true)(hl:c.length=3\/c.length=4): -(2^64)<pwF c/\pwF c<2^64:=by
 unfold pwF;by_cases e:c.length=3
 .rw[A8 e];have g:∀j,j<c.length->-20<=(c.getD j zP).1/\(c.getD j zP).1<=20/\-20<=(c.getD j zP).2/\(c.getD j zP).2<=20:=λj hj=>by
   have:=h _ (dW hj);unfold inB at this;simp only[A9,AQ] at this;lia
  have g0:=g 0 (by lia);have g1:=g 1 (by lia);have g2:=g 2 (by lia);generalize c.getD 0 zP=a at g0;generalize c.getD 1 zP=b at g1;generalize c.getD 2 zP=e at g2;have m:∀x y:Int,-40<=x->x<=40->-40<=y->y<=40->-1600<=x*y/\x*y<=1600:=λx y a1 a2 b1 b2=>by
   have:(x*y).natAbs<=1600:=by
    rw[Int.natAbs_mul];show D2 (show x.natAbs<=40 by lia) (show y.natAbs<=40 by lia)
   lia
  have m1:=m (b.1-a.1) (e.2-b.2) (by lia) (by lia) (by lia) (by lia);have m2:=m (b.2-a.2) (e.1-b.1) (by lia) (by lia) (by lia) (by lia);unfold abI crn;split<;>lia
 .rw[A6 e];lia
inductive spCbW(vs:List V)(H:Hp)(Q:VK)(E':XK):Prop
 |mk (d k:Nat):vs=[.int d,.int k]->dE d k->(∀H',ae H H'->Q (.int (eQ d (bp d k))) H')->spCbW vs H Q E'
inductive spNarQ(vs:List V)(H:Hp)(Q:VK)(E':XK):Prop
 |mk (d k:Nat):vs=[.int d,.int k]->dE d k->Q .non H->spNarQ vs H Q E'
inductive spEdQ(f:Nat->List Pt)(vs:List V)(H:Hp)(Q:VK)(E':XK):Prop
 |mk (n:Nat):vs=[.int n]->1<=n->n<=5->(∀l H',ae H H'->H l=none->Is H' (pts (f n)) (.ref l)->Q (.ref l) H')->spEdQ f vs H Q E'
inductive spWayP(vs:List V)(H:Hp)(Q:VK)(E':XK):Prop
 |mk (d k:Nat):vs=[.int d,.int k]->dE d k->((bp d k).length<=1000/\sWy d k=true)->(∀(L:List (List Pt)) l H',L.Perm (bp d k)->ae H H'->H l=none->Is H' (.l (L.map pts)) (.ref l)->Q (.ref l) H')->spWayP vs H Q E'
inductive spDrP(vs:List V)(H:Hp)(Q:VK)(E':XK):Prop
 |mk (d k:Nat):vs=[.int d,.int k]->Wide d k->(okB d k=true/\(cc d k).length<=1000/\sDr d k=true)->(∀(L:List (List Lf)) l H',L.Perm (cc d k)->ae H H'->H l=none->Is (nw H H') (.l (L.map lfs)) (.ref l)->Q (.ref l) H')->spDrP vs H Q E'
def yO{α:Type}{f:Sk α->D}{lt:Sk α->Sk α->Bool}{L:Sk (Sk α)}(M':H acc=some (.lst vs))(NS:Iss H (L.map f) vs)(hf:∀x v,Is H (f x) v->∃a ys,v=.ref a/\H a=some (.lst ys))(Rv:∀x y v w,Is H (f x) v->Is H (f y) w->Ask K H v w (lt x y))(hl:L.length<=1000)(hs:mG (λi j=>L[i]?.bind λx=>L[j]?.map λy=>lt x y) L.length=true)(kk:∀(p:Sk Nat) q,p.Perm (List.range L.length)->H q=none->Q (.ref q) (upd H q (.lst (p.map λi=>vs.getD i .non)))):uH K [.ref acc] H Q:=by
 have P4:vs.length=L.length:=by rw[NS.length,A1]
 unfold mG at hs;by_cases Nb:L.length<2
 .show .inl {acc,vs,0,SqL.of M',4,λq nq=>?_};have:=kk (List.range L.length) q (List.Perm.refl _) nq;rw[<-P4,show(List.range vs.length).map (λi=>vs.getD i V.non)=vs from DD (by simp) λi h1 h2=>by simp[List.getD,h2]] at this;show this
 .rw[An Nb,Bool.false_or] at hs;cases ho:fq (λi j=>L[i]?.bind λx=>L[j]?.map λy=>lt x y) L.length with
  |none=>rw[ho] at hs;cases hs
  |some p=>
   rw[ho] at hs;simp only[A9,AQ] at hs;have pp:=List.isPerm_iff.mp hs.2;show .inr {acc,vs,_,p,0,SqL.of M',4,4,hs.1,λr Py=>?_,λi j bb hb=>?_,by rw[P4];show ho,λi hi=>by rw[P4];show AY.mp (pp.mem_iff.mp hi),λq nq=>kk p.toList q pp nq}
   .have{i,hi,0}:=DO.mp Py;have{w,_,hy}:=bC NS (A2 hi);have{a,ys,e1,e2}:=hf _ _ hy;show{a,ys,e1,SqL.of e2}
   .have{w1,h1,hb}:=AA.mp hb;have{w2,h2,0}:=A'.mp hb;have{x,hx,Nl}:=NS.get (j:=i) (x:=f w1) (by rw[AC,h1];rfl);have{y,hy,On}:=NS.get (j:=j) (x:=f w2) (by rw[AC,h2];rfl);show{x,y,hx,hy,Rv _ _ _ _ Nl On}
def yP{α:Type}{L:Sk (Sk α)}{p:Sk Nat}(pp:p.Perm (List.range L.length)):(p.map λi=>L.getD i []).Perm L:=by
 have:=pp.map λi=>L.getD i [];rw[show(List.range L.length).map (λi=>L.getD i [])=L from DD (by simp) λi h1 h2=>by simp[List.getD,h2]] at this;show this
def LW{α:Type}(f:α->Int){L M:Sk α}(h:L.Perm M):(L.map f).sum=(M.map f).sum:=by
 induction h with
 |nil=>rfl
 |cons x _ ih=>rw[AK,AK,Ab,Ab,ih]
 |swap x y l=>simp only[AK,Ab];lia
 |trans _ _ i1 i2=>rw[i1,i2]
def shD(s:Sh):D:= .t [.i s.1,.l (s.2.map .i)]
def eT(h:Is H (shD s) v):∃t p,v=.ref t/\H t=some (.tup [.int s.1,.ref p])/\H p=some (.lst (s.2.map V.int)):=by
 have{t,vs,0,ht,hi}:=bu h;have{u1,us,0,NA,hi}:=aM hi;have{u2,us,0,NY,hi}:=aM hi;rw[bm hi,aB NA] at ht;have{p,xs,0,hp,hx}:=aD NY;rw[ig hx] at hp;show{t,p,0,ht,hp}
def gf{t p:Se}(ht:H t=some (.tup [.int s.1,.ref p]))(hp:H p=some (.lst (s.2.map V.int))):Is H (shD s) (.ref t):=bt ht (ap bj (ap (aA hp (cW _)) ax))
def Ent(z:Sk Int):Prop:=∀x∈z,-(10^18)<=x/\x<=10^18
inductive spMx(B:List Int->Prop)(f:Sh->Sh->Sh)(vs:List V)(H:Hp)(Q:VK)(E':XK):Prop
 |mk (v u:V) (x y:Sh):vs=[v,u]->Is H (shD x) v->Is H (shD y) u->Sms x->Sms y->B x.2->(∀v' H',ae H H'->Is H' (shD (f x y)) v'->Q v' H')->spMx B f vs H Q E'
inductive spStS(vs:List V)(H:Hp)(Q:VK)(E':XK):Prop
 |mk (w:Nat):vs=[.int w]->1<=w->w<=60->(∀v' H',ae H H'->Is H' (shD (cj w)) v'->Q v' H')->spStS vs H Q E'
inductive spOf(vs:List V)(H:Hp)(Q:VK)(E':XK):Prop
 |mk (n:Int):vs=[.int n]->(∀v' H',ae H H'->Is H' (shD (ofN n)) v'->Q v' H')->spOf vs H Q E'
inductive spStr(vs:List V)(H:Hp)(Q:VK)(E':XK):Prop
 |mk (v:V) (ws:List Int):vs=[v]->Is H (.l (ws.map .i)) v->fB ws (ofN 1)=true->(∀v' H',ae H H'->Is H' (shD (fZ ws)) v'->Q v' H')->spStr vs H Q E'
def KnS(d:Nat)(e0:Sk Pt)(Wq:Sk Pt->Sh)(H:Hp)(M7:Sk (Sk (Sk Int)×V)):Prop:=(M7.map (·.1)).Nodup/\(∀x∈M7,∃ps,az d ps/\x.1=wk ps)/\(∀ps v,aU M7 (wk ps)=some v->Is H (shD (Wq ps)) v)/\∃v,aU M7 (wk e0)=some v
theorem KnS.lts{d:Nat}{e0:Sk Pt}{Wq:Sk Pt->Sh}{H H':Hp}{M7:Sk (Sk (Sk Int)×V)}(h:KnS d e0 Wq H M7)(s:LTS H H'):KnS d e0 Wq H' M7:={h.1,h.2.1,λps v e=>(h.2.2.1 ps v e).lts s,h.2.2.2}
def KnS.len(hd:d<=4){Wq:Sk Pt->Sh}(h:KnS d e0 Wq H M7):M7.length<=32768:=by
 have e:((M7.map λx=>(x.1,(0:Int))).map (·.1))=M7.map (·.1):=by rw[BN];rfl
 have:=xO hd (R:=M7.map λx=>(x.1,(0:Int))) (by rw[e];show h.1) λx hx=>by
  have{y,hy,0}:=Ae.mp hx;show h.2.1 y hy
 rwa [A1] at this
def mO{κ:Type}[DecidableEq κ]{M7:Sk (κ×V)}{k:κ}:(∀x∈aZ M7 k v,x.1∈M7.map (·.1)\/x.1=k)/\((M7.map (·.1)).Nodup->((aZ M7 k v).map (·.1)).Nodup):=by
 cases e:aU M7 k with
 |none=>
  show{λx hx=>?_,λnd=>?_}
  rotate_left 1
  .rw[tD v e,A7];show List.nodup_append.mpr {nd,7,λa ha b hb z=>?_};rw[List.map_singleton,AT] at hb;rw[z,hb] at ha;have:=fI k M7;rw[e] at this;have{y,hy,ey}:=Ae.mp ha;rw[List.any_eq_true.mpr {y,hy,Ay ey}] at this;cases this
  rw[tD v e] at hx;rcases B'.mp hx with hx|hx
  .show .inl (Ae.mpr {x,hx,0})
  .rw[AT.mp hx];show .inr rfl
 |some y=>
  have hk:aZ M7 k v=M7.map λkv=>if kv.1=k then(kv.1,v) else kv:=by
   have:=fI k M7;rw[e] at this;unfold aZ;rw[A8 (show _=true from this)]
  have ek:(aZ M7 k v).map (·.1)=M7.map (·.1):=by
   rw[hk,BN];show BA λx _=>?_;change(if x.1=k then(x.1,v) else x).1=x.1;split<;>rfl
  show{λx hx=>.inl (by rw[<-ek];show Ae.mpr {x,hx,0}),λnd=>by rw[ek];show nd}
def KnS.put{Wq:Sk Pt->Sh}(h:KnS d e0 Wq H M7)(ok:az d ps)(hv:Is H (shD (Wq ps)) v):KnS d e0 Wq H (aZ M7 (wk ps) v):=by
 show{mO.2 h.1,λx hx=>?_,λqs u e=>?_,?_}
 .rcases mO.1 x hx with e|e
  .have{y,hy,ey}:=Ae.mp e;rw[<-ey];show h.2.1 y hy
  .show{ps,ok,e}
 .rw[jh] at e;split at e
  .rename_i q;rw[qB q];cases e;show hv
  .show h.2.2.1 qs u e
 .rw[jh];split
  .show{1}
  .show h.2.2.2
def KnS.one{Wq:Sk Pt->Sh}(ok:az d e0)(h:Is H (shD (Wq e0)) v):KnS d e0 Wq H [(wk e0,v)]:=by
 show{7,λx hx=>{e0,ok,by rw[AT.mp hx]},λps u e=>?_,v,cH rfl};by_cases q:wk e0=wk ps
 .rw[cH q] at e;cases e;rw[<-qB q];show h
 .rw[cU q] at e;cases e
inductive spWSh(P:Program)(w:World)(n:Nat)(vs:List V)(H:Hp)(Q:VK)(E':XK):Prop
 |mk (d:Nat) (v:V) (kn:Addr) (ps:List Pt) (M7:List (List (List Int)×V)) (sg:Int) (e0:List Pt) (mu:List Pt->Int):vs=[.int d,v,.int sg,.ref kn]->SdM d sg e0 mu->d<=4->Is H (pts ps) v->az d ps->mu ps+1<=n->DN P w H kn M7->KnS d e0 (wS d sg e0) H M7->(∀NL v' H',But kn H H'->DN P w H' kn NL->KnS d e0 (wS d sg e0) H' NL->Is H' (shD (wS d sg e0 ps)) v'->Q v' H')->spWSh P w n vs H Q E'
inductive spSWQ(vs:List V)(H:Hp)(Q:VK)(E':XK):Prop
 |mk (d k:Nat):vs=[.int d,.int k]->dE d k->(∀v' H',ae H H'->Is H' (shD (v91 d k)) v'->Q v' H')->spSWQ vs H Q E'
def eU(H H':Hp)(v:V):Prop:=∃t p lo,v=.ref t/\H' t=some (.tup [.int lo,.ref p])/\H p=none
def eU.of{H1:Hp}(s:ae H H1)(h:eU H1 H' v):eU H H' v:=by
 have{t,p,lo,e,h1,h2}:=h;show{t,p,lo,e,h1,s.free h2}
def eU.mono{H1:Hp}(s:ae H1 H2)(h:eU H H1 v):eU H H2 v:=by
 have{t,p,lo,e,h1,h2}:=h;show{t,p,lo,e,s _ _ h1,h2}
inductive spSFQ(vs:List V)(H:Hp)(Q:VK)(E':XK):Prop
 |mk (d k:Nat):vs=[.int d,.int k]->Wide d k->(∀v' H',ae H H'->Is H' (shD (v91 d k)) v'->eU H H' v'->Q v' H')->spSFQ vs H Q E'
inductive spAdN(vs:List V)(H:Hp)(Q:VK)(E':XK):Prop
 |mk (v u:V) (x y:Sh):vs=[v,u]->Is H (shD x) v->Is H (shD y) u->Sms x->Sms y->(∀v' H',ae H H'->Is H' (shD (aK x y)) v'->eU H H' v'->Q v' H')->spAdN vs H Q E'
inductive spOfN(vs:List V)(H:Hp)(Q:VK)(E':XK):Prop
 |mk (n:Int):vs=[.int n]->(∀v' H',ae H H'->Is H' (shD (ofN n)) v'->eU H H' v'->Q v' H')->spOfN vs H Q E'
def KnE(L:Nat)(H:Hp)(M7:Sk (Sk (Mx Int)×V)):Prop:=(M7.map (·.1)).Nodup/\(∀x∈M7,∃q,AskOk L q/\0<=q.k/\x.1=kq q)/\∀q v,aU M7 (kq q)=some v->Is H (shD (sF q)) v
theorem KnE.lts{L:Nat}{H H':Hp}{M7:Sk (Sk (Mx Int)×V)}(h:KnE L H M7)(s:LTS H H'):KnE L H' M7:={h.1,h.2.1,λq v e=>(h.2.2 q v e).lts s}
def KnE.len{M7:Sk (Sk (Mx Int)×V)}(h:KnE L H M7)(h5:L<=5):M7.length<=15162:=by
 rw[<-A1 (f:=(·.1))];show yK h.1 (λx hx=>?_) h5;have{y,hy,0}:=Ae.mp hx;show h.2.1 y hy
def KnE.put{M7:Sk (Sk (Mx Int)×V)}(h:KnE L H M7)(a:AskOk L q)(k0:0<=q.k)(hv:Is H (shD (sF q)) v):KnE L H (aZ M7 (kq q) v):=by
 show{mO.2 h.1,λx hx=>?_,λr u e=>?_}
 .rcases mO.1 x hx with e|e
  .have{y,hy,ey}:=Ae.mp e;rw[<-ey];show h.2.1 y hy
  .show{q,a,k0,e}
 .rw[jh] at e;split at e
  .rename_i z;rw[yG z];cases e;show hv
  .show h.2.2 r u e
inductive spESh(P:Program)(w:World)(n:Nat)(vs:List V)(H:Hp)(Q:VK)(E':XK):Prop
 |mk (v:V) (kn:Addr) (q:Ask4) (L:Nat) (M7:List (List (Mx Int)×V)):vs=[v,.ref kn]->Is H (qD q) v->AskOk L q->q.k<=KL L->muF q+1<=(n:Int)->DM P w H kn M7->KnE L H M7->(∀NL v' H',But kn H H'->DM P w H' kn NL->KnE L H' NL->Is H' (shD (sF q)) v'->Q v' H')->spESh P w n vs H Q E'
inductive spSE(vs:List V)(H:Hp)(Q:VK)(E':XK):Prop
 |mk (d k:Nat) (v1 v2:V) (a b:List Int):vs=[.int d,.int k,v1,v2]->Wide d k->Is H (rwL a) v1->Is H (rwL b) v2->cD a->cD b->wtF a+wtF b=d->a.length<=d->b.length<=d->(∀v' H',ae H H'->Is H' (shD (sF {d,k,bU d a,bU d b})) v'->Q v' H')->spSE vs H Q E'
inductive E2{T0 T1:Type}(p:T0->T1->Prop):Prop|mk x0 x1:p x0 x1->E2 p
inductive E3{T0 T1 T2:Type}(p:T0->T1->T2->Prop):Prop|mk x0 x1 x2:p x0 x1 x2->E3 p
inductive E4{T0 T1 T2 T3:Type}(p:T0->T1->T2->T3->Prop):Prop|mk x0 x1 x2 x3:p x0 x1 x2 x3->E4 p
inductive E5{T0 T1 T2 T3 T4:Type}(p:T0->T1->T2->T3->T4->Prop):Prop|mk x0 x1 x2 x3 x4:p x0 x1 x2 x3 x4->E5 p
section
variable{P:Sf}{w:Si}{K:W.Frag}{mg:Str->Sn PP}{base:Sm}(T:Fns K mg)
def LX:OKQ T.X66 P w base 1 (spCell K):=by
 show FbO T.X66 Jr λ_ _ _ _ H vs Q E hr h=>?_;have{a,ns,k,0,hS,h0,kk}:=h;show{_,(ai (aR (aP dY (pv 1) (aS dw (by rfl) T.n_len CZ (ab (pv 0) af)) (aC _)) (aj (am (ao de (pv 0) (pv 1) (λ_ _=>rfl)))) aQ)
  (aj (am ag))),?_}
 show{1,1,a,1,.inl hS,2,1,?_};show bB (λh=>?_) (λ_=>kk 0);rw[A1] at h;have hk:k.toNat<ns.length:=by lia
 show{1,1,a,_,k,.int ns[k.toNat],0,0,hS,?_,kk _};have e:((k.toNat:Nat):Int)=k:=by lia
 have:=jd (xs:=ns.map V.int) (j:=k.toNat) (v:= .int ns[k.toNat]) (by simp[hk]);rw[e] at this;show this
def yQ:OKQ T.X67 P w base 2 (spNumber K):=by
 show FbO T.X67 jS λ_ _ _ _ H vs Q E hr h=>?_;have{a,ns,k,0,hS,h0,h1,kk}:=h;show{_,(ai (pSA (i:=2) jS.nd (pcq (LX T) hr T.X66 (ab (pv 0) (ab (pv 1) af))))
  (ai (aR (aP jc (aS mX (by rfl) T.n_abs boot_abs (ab (pv 2) af)) (ah si ag ag) (aC _)) (aj (am (aS mX (by rfl) T.n_abs boot_abs (ab (pv 2) af)))) aQ)
  (ai (pSA (i:=3) jS.nd (ah fc (ah aH (ah aH (ah aH (ah bo (pv 2) (ah aH (ah bo ag (pv 1)) ag)) (ah bo (ah bo ag (pv 1)) (pv 1))) (ah bo ag (pv 1))) ag) ag))
  (ai (pSA (i:=3) jS.nd (ah fc (ah aH (ah bo (pv 3) ag) ag) ag))
  (ai (pSA (i:=4) jS.nd (ah fc (ah aH (ah aH (ah bo (pv 3) ag) (ah bo ag (pv 1))) ag) ag))
  (aj (am (ah aH (ah bo (pv 3) ag) (ah bo (pv 4) (ah aH (ah fc (pv 3) ag) ag)))))))))),?_}
 show{1,1,a,ns,k,0,hS,h0,λz=>?_};show{1,z,0,(10),(18),0,0,{5,5,5},2,1,?_};show bB (λ_=>?_) (λ_=>?_)
 .show{1,z,0,kk _ (by split<;>lia)}
 .show{1,1,2,.inl {5,5},2,2,.inr {4,4},?_};show{1,2,.inl {5,5},1,2,.inr {4,4},2,?_};show{1,2,.inl {5,5},2,2,2,(show(0:Int)<2147483629 by decide),?_};show{1,2,.inr {5,5},2,2,(show(0:Int)<2147483647 by decide),?_};dsimp only;generalize (z*(2*k+3)+7919*k*k+104729*k+12345)%2147483629=u;have e1:0<=(u*48271+97)%2147483647:=by lia
  generalize (u*48271+97)%2147483647=v at e1⊢;show{1,2,.inr {5,5},1,2,.inl {5,5},2,2,2,(show(0:Int)<998244353 by decide),?_};dsimp only;have e2:0<=(v*69621+31*k+7)%998244353:=by lia
  generalize (v*69621+31*k+7)%998244353=x at e2⊢;show{1,2,.inr {5,5},1,1,2,(show(0:Int)<1009 by decide),2,2,.inr {4,4},2,?_};show kk _ (Int.add_nonneg (by lia) (Bn e2 (by lia)))
def yR:OKQ T.X0 P w base 1 sp_whole:=by
 show FbO T.X0 IT λ_ _ _ _ H vs Q E hr h=>?_;have{v,0,ht,kk}:=h;show{_,(aj (am (fG (aS gs (by rfl) T.n_isinstance Co (ab (pv 0) (ab (gi (v:= .ty "int") (by rfl) T.n_int boot_int (by rfl)) af))) (g9 (rV (aS gs (by rfl) T.n_isinstance Co (ab (pv 0) (ab (gi (v:= .ty "bool") (by rfl) T.n_bool boot_bool (by rfl)) af)))))))),?_};rcases ht with⟨i,rfl⟩|⟨b,rfl⟩|rfl|⟨x,rfl⟩|⟨a,xs,rfl,ha⟩|⟨a,xs,rfl,ha⟩
 .show{1,_,"int",_,true,0,.int i,hV,true,0,ck {1,_,"bool",_,false,0,.int i,tJ,false,0,kk}}
 .show{1,_,"int",_,true,0,.bl b,tL,true,0,ck {1,_,"bool",_,true,0,.bl b,hV,true,0,kk}}
 .show{1,_,"int",_,false,0,.non,t4,false,0,aT kk}
 .show{1,_,"int",_,false,0,.str x,ud,false,0,aT kk}
 .show{1,_,"int",_,false,0,.lst ha,ue,false,0,aT kk}
 .show{1,_,"int",_,false,0,.tup ha,uf,false,0,aT kk}
def kj:OKQ T.X1 P w base 2 spBetQ:=by
 show FbO T.X1 IU λ_ _ _ _ H vs Q E hr h=>?_;have{i,lo,hi,0,h1,h2,kk}:=h;show{_,(aj (aR (cS (cG (cZ (pcq (yR T) hr T.X0 (ab (pv 0) af)))) (cS (aP dY (pv 0) (pv 1) (aC _)) (eY (aP fH (pv 0) (pv 2) (aC _))))).pt (aj kA) aQ)),?_};show{1,1,.inl {1},true,0,aT {1,1,i,lo,0,0,1,bB (λhl=>absurd hl (by lia)) (λ_=>?_)}};show{1,1,i,hi,0,0,1,bB (λhl=>absurd hl (by lia)) (λ_=>kk)}
def km:OKQ T.X4 P w base 3 spDegQ:=by
 show FbO T.X4 IX λ_ _ _ _ H vs Q E hr h=>?_;have{i,0,h1,h2,kk}:=h;show{_,(aj (aX (pcq (kj T) hr T.X1 (ab (pv 0) (ab ag (ab ag af)))))),?_};show{1,i,(1),(5),0,h1,h2,kk}
def mP:OKQ T.X3 P w base 3 spWidQ:=by
 show FbO T.X3 IW λ_ _ _ _ H vs Q E hr h=>?_;have{d,k,0,hW,kk}:=h;show{_,(ai (aX (pcq (kj T) hr T.X1 (ab (pv 0) (ab ag (ab ag af)))))
  (aj (aX (pcq (kj T) hr T.X1 (ab (pv 1) (ab ag (ab (uv (g8 (v:= .ref T.a_WIDE) (by rfl) T.m_WIDE (by rfl)) (pv 0) (λ_ _=>rfl)) af))))))),?_}
 unfold Wide at hW;show{1,d,(1),(5),0,4,4,?_};obtain⟨hi,hl,hN⟩:∃hi:Int,([(1,6),(2,6),(3,6),(4,6),(5,3)]:Sk (Int×Int)).lookup (d:Int)=some hi/\(k:Int)<=hi:=by
  have hd:d=1\/d=2\/d=3\/d=4\/d=5:=by lia
  rcases hd with rfl|rfl|rfl|rfl|rfl
  .show{(6),0,4}
  .show{(6),0,4}
  .show{(6),0,4}
  .show{(6),0,4}
  .show{(3),0,4}
 show{1,1,T.a_WIDE,_,d,hi,0,T.D_WIDE,0,hl,k,(0),hi,0,4,hN,kk}
def rA:OKQ T.X2 P w base 3 spNarQ:=by
 show FbO T.X2 IV λ_ _ _ _ H vs Q E hr h=>?_;have{d,k,0,hW,kk}:=h;show{_,(ai (aX (pcq (kj T) hr T.X1 (ab (pv 0) (ab ag (ab ag af)))))
  (aj (aX (pcq (kj T) hr T.X1 (ab (pv 1) (ab ag (ab (uv (g8 (v:= .ref T.a_NARROW) (by rfl) T.m_NARROW (by rfl)) (pv 0) (λ_ _=>rfl)) af))))))),?_}
 unfold dE at hW;show{1,d,(1),(4),0,4,4,?_};obtain⟨hi,hl,hN⟩:∃hi:Int,([(1,6),(2,6),(3,6),(4,2)]:Sk (Int×Int)).lookup (d:Int)=some hi/\(k:Int)<=hi:=by
  have hd:d=1\/d=2\/d=3\/d=4:=by lia
  rcases hd with rfl|rfl|rfl|rfl
  .show{(6),0,4}
  .show{(6),0,4}
  .show{(6),0,4}
  .show{(2),0,4}
 show{1,1,T.a_NARROW,_,d,hi,0,T.D_NARROW,0,hl,k,(0),hi,0,4,hN,kk}
def rB:OKQ T.X25 P w base 4 spEndQ:=by
 show FbO T.X25 jN λ_ _ _ _ H vs Q E hr h=>?_;have{n,dv,ps,0,n1',n5',hd,hok,k2}:=h;show{_,(ai (aX (pcq (km T) hr T.X4 (ab (pv 0) af)))
  (ai (pSA (i:=2) jN.nd (ah gD (bd (ab ag af)) (pv 0)))
  (ai (aN AL rfl (bh (pv 1)) (bV rfl (aL (pGA (i:=3) jN.nd) (aL (pGA (i:=4) jN.nd) (aL (pGA (i:=5) jN.nd) bJ)))) (ai (kD (pv 2) (ah aI (pv 3) ag) kS (pv 5) Ek je)
  (aj (kD (pv 2) (ah aI (pv 4) ag) kS (pv 5) gk je))))
  (aj (am (pv 2)))))),?_}
 show{1,n,0,4,4,?_};show{(zB rfl),λl1 H1 n1 s1 h1=>?_};show{1,.i 1,n,aA h1 (ap bj ax),0,4,4,AZ (aF (by lia)),λl H2 n2 s2 h2=>?_};rw[Ag] at h2;have{_,vs2,e2,Nk,OP}:=aD h2;cases e2;rw[<-CM] at OP;rw[ig OP] at Nk;have Qj:=s1.trans s2;have{da,Np,0,OF,Oy}:=aD hd;have Na:Np.length=ps.length:=by rw[Oy.length,A1]
 show{1,da,0,{_,SqL.of (Qj _ _ OF)},bF (xs:=Np) (λi σ H3=>(E3 λv3 v4 v5=>σ=[some (.int n),some (.ref da),some (.ref l),v3,v4,v5])/\ae H H3/\H3 l=some (.lst (((ps.take i).foldl dh (List.replicate n 1)).map V.int)))
  {{none,none,none,0},Qj,Nk} (λi σ H3 _ h=>SqL.of (h.2.1 _ _ OF)) ?_ ?_}
 .rintro i y σ H3 hi ⟨⟨v3,v4,v5,rfl⟩,s3,Oq⟩;have{p,NR,hy}:=bC Oy hi;have{t,0,hta}:=fQ hy;have{o1,o2,o3,o4}:=hok p (AR NR);have el:=(lO (ps.take i) (List.replicate n 1) (by simp) λq hq=>hok q (Ca hq)).1;have en:(ps.take (i+1)).foldl dh (List.replicate n 1)=dh ((ps.take i).foldl dh (List.replicate n 1)) p:=by
   rw[AX,NR,Bz];rfl
  rw[en];generalize (ps.take i).foldl dh (List.replicate n 1)=e at Oq el⊢;have nl:H l=none:=s1.free n2;show{t,1,SqT.of (s3 _ _ hta),0,?_};show{3,3,2,?_};have j1:(p.1-1).toNat<e.length:=by lia
  have j2:(p.2.1-1).toNat<e.length:=by lia
  have k1:p.1-1=((p.1-1).toNat:Int):=by lia
  have kq:p.2.1-1=((p.2.1-1).toNat:Int):=by lia
  have g1:(e.map V.int)[(p.1-1).toNat]? =some (.int (e.getD (p.1-1).toNat 0)):=by
   show p7 j1
  show{1,1,2,?_};show{l,_,(p.1-1).toNat,2,k1,SqL.of Oq,g1,?_};show{1,2,l,_,_,(p.1-1).toNat,0,0,Oq,by rw[k1,A1];show jr j1,?_};rw[<-map_set];have j2':(p.2.1-1).toNat<(e.set (p.1-1).toNat (e.getD (p.1-1).toNat 0-p.2.2)).length:=by rw[C1];show j2
  have g2:((e.set (p.1-1).toNat (e.getD (p.1-1).toNat 0-p.2.2)).map V.int)[(p.2.1-1).toNat]? =some (.int ((e.set (p.1-1).toNat (e.getD (p.1-1).toNat 0-p.2.2)).getD (p.2.1-1).toNat 0)):=by
   show p7 j2'
  show{1,1,2,?_};show{l,_,(p.2.1-1).toNat,2,kq,SqL.of ak,g2,?_};show{1,2,l,_,_,(p.2.1-1).toNat,0,0,ak,by rw[kq,A1];show jr j2',?_};rw[<-map_set,zX];show{{_,3},s3.put nl,ak}
 .rintro σ H3 ⟨⟨v3,v4,v5,rfl⟩,s3,Oq⟩;rw[Na,AS] at Oq;show{1,k2 l H3 s3 (s1.free n2) Oq}
def mQ:OKQ T.X27 P w base 1 spLost:=by
 show FbO T.X27 Jb λ_ _ _ _ H vs Q E hr h=>?_;have{v,p,0,hv,{p1,p2,p3,p4},kk}:=h;show{_,(aj (am (ah aI (ah bo (ah aI (ao aO (pv 0) ag (λ_ _=>rfl)) (ao aO (pv 0) ag (λ_ _=>rfl))) (ao aO (pv 0) ag (λ_ _=>rfl))) ag))),?_};show{1,_,(1),_,hv,0,0,λu hu=>?_};rw[aB hu];show{1,_,(0),_,hv,0,0,λu hu=>?_};rw[aB hu];show{2,1,_,(2),_,hv,0,0,λu hu=>?_};rw[aB hu];show{2,.inr {4,4},2,kk}
def LY:OKQ T.X28 P w base 2 spLfr:=by
 show FbO T.X28 lA λ_ _ _ _ H vs Q E hr h=>?_;have{d,f,n,sp,0,fd,d5,n20,kk}:=h;show{_,(ai (pSA (i:=4) lA.nd (bd af))
  (ai (aN AL rfl (gm (by rfl) T.n_range (ab (ah aH (pv 1) ag) (ab (ah aH (pv 0) ag) af))) (pGA (i:=5) lA.nd) (aj (aN AL rfl (gm (by rfl) T.n_range (ab ag (ab (ah aH (pv 2) ag) af))) (pGA (i:=6) lA.nd) (aj (aR (aP kJ (pcq (mQ T) hr T.X27 (ab (bv (ab (pv 1) (ab (pv 5) (ab (pv 6) af)))) af)) (pv 3) (aC _)) (aj (aX (cy Ad BD BC dJ (pv 4) (ab (bv (ab (pv 1) (ab (pv 5) (ab (pv 6) af)))) af)))) aQ)))))
  (aj (am (pv 4))))),?_}
 show{AW _,λfo H1 n1 s1 h1=>?_};show{1,2,1,2,3,{4,4,4,4},?_};rw[show((d:Int)+1-((f:Int)+1)).toNat=d-f by lia];show dG (lo:=(f:Int)+1) (n:=d-f) (λi σ H2=>(E2 λv5 v6=>σ=[some (.int d),some (.int f),some (.int n),some (.int sp),some (.ref fo),v5,v6])/\ae H H2/\∃vs,H2 fo=some (.lst vs)/\Iss H2 ((di f i n sp).map lf) vs) {{none,none,0},s1,[],h1,ax} ?_ ?_
 .rintro i σ H2 hi ⟨⟨v5,v6,rfl⟩,s2,vs2,NT,RE⟩;show{1,2,3,{5,5,4,4},?_};rw[show((n:Int)+1-1).toNat=n by lia];show dG (lo:=1) (n:=n) (λj σ H3=>(∃v6,σ=[some (.int d),some (.int f),some (.int n),some (.int sp),some (.ref fo),some (.int ((f:Int)+1+(i:Int))),v6])/\ae H H3/\∃vs,H3 fo=some (.lst vs)/\Iss H3 ((di f i n sp++eO f ((f:Int)+1+(i:Int)) j sp).map lf) vs) {{v6,0},s2,vs2,NT,by simpa[eO] using RE} ?_ ?_
  .rintro j σ H3 hj ⟨⟨v6,rfl⟩,s3,vs3,Ni,P5⟩;have vl:vs3.length<=200:=by
    rw[P5.length,A1,AD];have a:=qc f n sp i;have b:=wI f ((f:Int)+1+(i:Int)) j sp;have:i*n<=5*20:=D2 (by lia) n20;lia
   show{1,1,1,(zB rfl),λt H4 nt s4 ht=>{.ref t,((f:Int),(f:Int)+1+(i:Int),1+(j:Int)),0,jU ht,{?_,?_,?_,?_},1,2,1,bB (λc=>?_) (λc=>?_)}}
   .change 0<=(f:Int)+1+(i:Int)-(f:Int);lia
   .change(f:Int)+1+(i:Int)-(f:Int)<=10;lia
   .change 1<=1+(j:Int);lia
   .change 1+(j:Int)<=20;lia
   .show{1,.inl {0,_,SqL.of (s4 _ _ Ni)},1,1,1,(zB rfl),λt2 H5 nt2 s5 RF=>{fo,vs3,1,0,s5 _ _ (s4 _ _ Ni),aF (by lia),{1},(s3.trans (s4.trans s5)).put n1,_,ak,?_}};rw[wG,A8 c,<-B8];show lQ (aE.upd (s5 _ _ (s4 _ _ Ni))) ?_;rw[A7];show(P5.mono (s4.trans s5)).append (ap (jU RF) ax)
   .show{{1},s3.trans s4,vs3,s4 _ _ Ni,?_};rw[wG,A6 c,BR];show P5.mono s4
  .rintro σ H3 ⟨⟨v6,rfl⟩,s3,vs3,Ni,P5⟩;show{{3},s3,vs3,Ni,by rw[wH];show P5}
 .rintro σ H2 ⟨⟨v5,v6,rfl⟩,s2,vs2,NT,RE⟩;show{1,kk fo H2 s2 n1 (aA NT RE)}
theorem yS:∀n:Nat,FnOk P w K mg base CX0 (n+1) T.f29 T.d29 ["lifts","weight","spare"] (spLeav n K)
 |0=>{λvs H Q E h=>by have{_,_,_,_,_,_,_,h,h',_}:=h;lia,λA outer s H args us vs Q E _ _ _ _ h=>by have{_,_,_,_,_,_,_,h,h',_}:=h;lia}
 |n+1=>by
  have ih:=yS n;show T.X29.F.ok jO (λvs H Q E h=>?_) (λNu A outer s H vs Q E hr h=>?_)
  .have{_,_,_,_,0,_}:=h;rfl
  .have{v,ls,wt,sp,0,hv,hok,w0,w1,hL,hl,hn,kk}:=h;show{_,(ai (pSA (i:=3) jO.nd (bd (ab (bd af) af)))
   (ai (aN AL rfl (ie (by rfl) T.n_enumerate (pv 0)) (bV rfl (aL (pGA (i:=4) jO.nd) (aL (pGA (i:=5) jO.nd) bJ))) (aj (aR (kz (aP kJ (ao aO (pv 5) ag (λ_ _=>rfl)) (pv 1) (aC _)) (ky (aP kJ (pcq (mQ T) hr T.X27 (ab (pv 5) af) (by lia)) (pv 2) (aC _)))).pt (aj (aN AL rfl (bh (ee ih hr (by rfl) T.X29.m T.X29.F.kp T.X29.B .nil dM (ab (dI fg (pv 0) (du (pv 4)) em) (ab (ah aI (pv 1) (ao aO (pv 5) ag (λ_ _=>rfl))) (ab (ah aI (pv 2) (pcq (mQ T) hr T.X27 (ab (pv 5) af) (by lia))) af))))) (pGA (i:=6) jO.nd) (aj (aX (cy Ad BD BC dJ (pv 3) (ab (ah dR (bd (ab (pv 5) af)) (pv 6)) af)))))) aQ)))
   (aj (am (pv 3))))),?_}
   have{da,Np,0,OF,Oy}:=aD hv;have Qz:Np.length=ls.length:=by rw[Oy.length,A1]
   show{AW _,λe0 H1 ne s1 he=>{(zB rfl),λfo H2 nf s2 Oa=>?_}};have Qk:H fo=none:=s1.free nf;have e0fo:e0≠fo:=by rintro rfl;rw[he] at nf;cases nf
   have acc0:Acc H H2 fo (([[]]:Sk (Sk Lf)).map lfs):={[.ref e0],Oa,ap (aA (vs:=[]) (by rw[eC e0fo,cN ne];show s2 _ _ he) ax) ax};have tot:∀i:Nat,i<ls.length->1+((List.range i).flatMap (dj n ls wt sp)).length+(dj n ls wt sp i).length<=1000:=λi hi=>by
    have:=lT (dj n ls wt sp) hi;rw[p9,AD,Bc] at hL;lia
   show{1,da,0,{_,SqL.of (s2 _ _ (s1 _ _ OF))},jt (xs:=Np) (λi σ H3=>(E3 λv4 v5 v6=>σ=[some (.ref da),some (.int wt),some (.int sp),some (.ref fo),v4,v5,v6])/\ae H H3/\Acc H H3 fo (([[]]++(List.range i).flatMap (dj n ls wt sp)).map lfs)) {{none,none,none,0},s1.trans s2,by simpa using acc0} (λi σ H3 _ h=>SqL.of (h.2.1 _ _ OF)) ?_ ?_}
   .rintro i y σ H3 pa hi ⟨⟨v4,v5,v6,rfl⟩,s3,M'⟩ np;have{p,NR,hy}:=bC Oy hi;have QZ:i<ls.length:=(AF.mp NR).1;have{p1,p2,p3,p4}:=id (hok p (AR NR));have tt:=tot i QZ;have s34:ae H3 (upd H3 pa (.tup [.int i,y])):=ae.new np;have Pi:=M'.mono s34;have stay:dj n ls wt sp i=[]->Acc H (upd H3 pa (.tup [.int i,y])) fo (([[]]++(List.range (i+1)).flatMap (dj n ls wt sp)).map lfs):=λe=>by
     rw[iF,e,BR];show Pi
    have hlf:Is (upd H3 pa (.tup [.int i,y])) (lf p) y:=(hy.mono s3).mono s34;show{pa,1,SqT.of ak,0,3,2,?_};generalize upd H3 pa (.tup [.int i,y])=H4 at s34 Pi stay hlf⊢;have s4:ae H H4:=s3.trans s34;show{1,_,(2),_,hlf,0,0,λu hu=>?_};rw[aB hu];show{1,2,1,bB (λc1=>?_) (λc1=>?_)}
    .show{1,y,p,0,hlf,{p1,p2,p3,p4},1,2,1,bB (λc2=>?_) (λc2=>?_)}
     .have eG:dj n ls wt sp i=(cB n (ls.drop i) (wt-p.2.2) (sp-cb p)).map (p:: ·):=by
       unfold dj;rw[NR];show A8 {c1,c2}
      rw[eG,A1] at tt;show{1,1,i,0,da,1,SqL.of (s4 _ _ OF),?_};rw[mL (by lia)];intro l2 n2;have s45:ae H4 (upd H4 l2 (.lst (Np.drop i))):=ae.new n2;have Nk:(upd H4 l2 (.lst (Np.drop i))) l2=some (.lst (Np.drop i)):=ak;generalize upd H4 l2 (.lst (Np.drop i))=H5 at s45 Nk⊢;have s5:=s4.trans s45;have hdr:Is H5 (lfs (ls.drop i)) (.ref l2):=aA Nk (by rw[DH];show(Oy.drop i).mono s5);show{1,1,_,(2),_,hlf.mono s45,0,0,λu hu=>?_};rw[aB hu];show{2,1,1,y,p,0,hlf.mono s45,{p1,p2,p3,p4},2,?_};show{.ref l2,ls.drop i,wt-p.2.2,sp-cb p,0,hdr,λq hq=>hok q (DL hq),4,4,4,by rw[Bs];lia,4,λrl H6 s6 OS Pj=>?_};have{QA,Ny,Ql}:=Pi.mono s45;have P6:H6 fo=some (.lst QA):=s6 _ _ Ny;have{_,N3,e,RG,Og}:=aD Pj;cases e;have P7:H6 rl=some (.lst N3):=bM _ _ RG;have P8:rl≠fo:=by rintro rfl;rw[Ny] at OS;cases OS
      have N2:N3.length=(cB n (ls.drop i) (wt-p.2.2) (sp-cb p)).length:=by rw[Og.length,A1]
      have RH:Iss (hid H6 fo) ((cB n (ls.drop i) (wt-p.2.2) (sp-cb p)).map lfs) N3:=(Og.mono (lR (ae.refl H5) Ny)).mono (dQ bM);have s56:=s5.trans s6;show{rl,0,{_,SqL.of P7},bF (xs:=N3) (λj σ H7=>(∃v6,σ=[some (.ref da),some (.int wt),some (.int sp),some (.ref fo),some (.int i),some y,v6])/\ae H H7/\But fo H6 H7/\Acc H H7 fo (([[]]++(List.range i).flatMap (dj n ls wt sp)++((cB n (ls.drop i) (wt-p.2.2) (sp-cb p)).take j).map (p:: ·)).map lfs)) {{1},s56,λ_ _ e _=>e,by simpa using (Pi.mono s45).mono s6} (λj σ H7 _ h=>SqL.of (h.2.2.1 _ _ P7 P8)) ?_ ?_}
      .rintro j x σ H7 hj ⟨⟨v6,rfl⟩,s7,P9,vs7,RI,hi7⟩;have{r,Py,hx}:=bC RH hj;have hjl:j<(cB n (ls.drop i) (wt-p.2.2) (sp-cb p)).length:=(AF.mp Py).1;have hx7:Is H7 (lfs r) x:=hx.mono (yA P9);have ritem:=(qf (λq hq=>(hok q (DL hq)).2.2.1) (by lia) (AR Py)).1;have vl:vs7.length<=999:=by
        rw[hi7.length,A1,AD,AD,A1,Ai,Bc];lia
       have hy7:Is H7 (lf p) y:=hy.mono s7;show{1,.inl {0,_,SqL.of RI},1,(zB rfl),λq1 H8 n8 s8 h8=>{1,[lf p],r.map lf,aA h8 (ap (hy7.mono s8) ax),hx7.mono s8,AZ (aF (by rw[A1];change 1+r.length<=1000;lia)),λq2 H9 n9 s9 h9=>?_}};have QB:=s8.trans s9;show{fo,vs7,1,0,QB _ _ RI,aF (by lia),{1},(s7.trans QB).put Qk,P9.trans ((But.of_same QB).trans But.upd),?_};rw[AX,Py];have:=Acc.add s7 QB RI hi7 (wD (ps:=p::r) QB (s8.free n9) h9);simpa using this
      .rintro σ H7 ⟨⟨v6,rfl⟩,s7,_,Q0⟩;show{{_,3},s7,?_};rw[N2,AS,<-eG,B8,<-iF] at Q0;show Q0
     .show{{_,3},s4,stay ?_};unfold dj;rw[NR];show A6 λz=>c2 z.2
    .show aT {{_,3},s4,stay ?_};unfold dj;rw[NR];show A6 λz=>c1 z.1
   .rintro σ H3 ⟨⟨v4,v5,v6,rfl⟩,s3,M'⟩;rw[Qz,<-p9] at M';show{1,kk fo H3 s3 Qk (M'.is Qk)}
def LZ:OKQ T.X30 P w base 10 spWith:=by
 show FbO T.X30 iz λNu A outer s H vs Q E hr h=>?_;have{d,f,v,x,0,fd,d5,hv,Os,kk}:=h;show{_,(ai (pSA (i:=4) iz.nd (ao de (pcq (rB T) hr T.X25 (ab (pv 0) (ab (pv 2) af))) (ah aI (pv 1) ag) (λ_ _=>rfl)))
  (ai (pSA (i:=5) iz.nd (bd af))
  (ai (aN AL rfl (bh (pcq (yS T 8) hr T.X29 (ab (pcq (LY T) hr T.X28 (ab (pv 0) (ab (pv 1) (ab (pv 4) (ab (pv 3) af))))) (ab (pv 4) (ab (pv 3) af))))) (pGA (i:=6) iz.nd) (ai (pSA (i:=7) iz.nd (ah aI (pv 4) (aS (gy rfl) (by rfl) T.n_sum Dl (ab (dO (XN:=["d","floor","drawing","spare","there","found","lifts","ends","left"]) (sc:=al jP) (N:=["lift"]) (own:=1) (js:=[]) rfl (by ac_nf) rfl rfl (bh (pv 6)) (λ_ _ _ _=>(bZ (i:=0) (show List.Nodup (["lift"]:Sk Str) by ac_nf) rfl (Or.inl rfl) (.inr rfl))) (dN (by decide)) (λ_ _ _ _=>df) (λ_ _ _ _=>(ao aO (pv 0) ag (λ_ _=>rfl)))) af))))
  (ai (pSA (i:=8) iz.nd (ah aI (ah aI (pv 3) (aS (gy rfl) (by rfl) T.n_sum Dl (ab (dO (XN:=["d","floor","drawing","spare","there","found","lifts","ends","left"]) (sc:=al jP) (N:=["lift"]) (own:=1) (js:=[]) rfl (by ac_nf) rfl rfl (bh (pv 6)) (λ_ _ _ _=>(bZ (i:=0) (show List.Nodup (["lift"]:Sk Str) by ac_nf) rfl (Or.inl rfl) (.inr rfl))) (dN (by decide)) (λ_ _ _ _=>df) (λ_ _ _ _=>(pcq (mQ T) hr T.X27 (ab (pv 0) af)))) af))) (ah bo (pv 7) (ah aI (pv 0) (pv 1)))))
  (aj (aR (aP jc (pv 8) ag (aC _)) (aj (aX (cy Ad BD BC dJ (pv 5) (ab (bv (ab (ah dR (pv 2) (pv 6)) (ab (pv 8) af))) af)))) aQ)))))
  (aj (am (pv 5)))))),?_}
 have{b1,b2,b3,b4,b5,b6,b7}:=JC Os;have okl:∀p∈x.1,Okl d p:=λp hp=>by
  have{o1,o2,o3,o4,o5}:=qg.mp (b1 p hp);show{o1,4,4,o3}
 have elen:=lP d x.1 okl;show{1,1,d,v,x.1,0,4,d5,hv,okl,λel H1 s1 nel hel=>?_};show{1,2,el,_,_,.int (thF d (f+1) x.1),0,0,SqL.of hel,gF (j:=f) (by lia) (by rw[p7 (by lia)];rfl),?_};unfold dS at kk;generalize thF d (f+1) x.1=th at b3 b4 b7 kk⊢;have{n,0}:=B4 b3;show{AW _,λfo H2 nf s2 Oa=>?_};have Qk:H fo=none:=s1.free nf;have O3:=s1.trans s2;show{1,1,1,1,d,f+1,n,x.2,0,4,d5,4,λl0 H3 s3 Pk NN=>?_};show{1,1,.ref l0,di ((f+1:Nat):Int) (d-(f+1)) n x.2,(n:Int),x.2,0,NN,λp hp=>?_,4,4,?_,?_,5,λrl H4 s4 OS Pj=>?_}
 .have{e1,e2,e3,e4,e5}:=qe hp;show{4,4,4,4}
 .show BG b7 (by decide)
 .have:=qc ((f+1:Nat):Int) n x.2 (d-(f+1));have:(d-(f+1))*n<=5*8:=D2 (by lia) (by lia);lia
 have eL:cB 8 (di ((f+1:Nat):Int) (d-(f+1)) n x.2) (n:Int) x.2=gQ d (f+1) n x.2:=by unfold gQ;rw[Ag]
 have Q3:∀r∈gQ d (f+1) n x.2,r.length<=8/\0<=(r.map (·.2.2)).sum/\(r.map (·.2.2)).sum<=(n:Int)/\∀p∈r,Lok p:=λr hr=>by
  rw[<-eL] at hr;have{i1,i2,i3,i4}:=qf (λq hq=>(qe hq).2.2.2.1) (by lia) hr;show{i1,i2,i3,λp hp=>by
   have{e1,e2,e3,e4,e5}:=qe (i4 p hp);show{4,4,4,4}}
 rw[eL] at Pj;generalize gQ d (f+1) n x.2=L at Pj Q3 kk b7;have NB:=O3.trans s3;have Ni:H3 fo=some (.lst []):=s3 _ _ Oa;have hfo4:H4 fo=some (.lst []):=s4 _ _ Ni;have{_,N3,e,RG,Og}:=aD Pj;cases e;have P':H4 rl=some (.lst N3):=bM _ _ RG;have P8:rl≠fo:=by rintro rfl;rw[Ni] at OS;cases OS
 have N2:N3.length=L.length:=by rw[Og.length,A1]
 have RH:Iss (hid H4 fo) (L.map lfs) N3:=(Og.mono (lR (ae.refl H3) Ni)).mono (dQ bM);have RJ:=NB.trans s4;show{rl,0,{_,SqL.of P'},bF (xs:=N3) (λj σ H5=>(E3 λv6 v7 v8=>σ=[some (.int d),some (.int ((f+1:Nat):Int)),some v,some (.int x.2),some (.int n),some (.ref fo),v6,v7,v8])/\ae H H5/\But fo H4 H5/\Acc H H5 fo ((((L.take j).filter λls=>decide (0<=fw d (f+1) n x.2 ls)).map λls=>(x.1++ls,fw d (f+1) n x.2 ls)).map stD)) {{none,none,none,0},RJ,λ_ _ e _=>e,Acc.start hfo4} (λj σ H5 _ h=>SqL.of (h.2.2.1 _ _ P' P8)) ?_ ?_}
 .rintro j y σ H5 hj ⟨⟨v6,v7,v8,rfl⟩,s5,Pr,QA,Ny,Ql⟩;have{r,Py,hy}:=bC RH hj;have hy5:Is H5 (lfs r) y:=hy.mono (yA Pr);have{i1,i2,i3,i4}:=Q3 r (AR Py);have{ya,ys,0,QC,hyi}:=aD hy5;have QD:ys.length=r.length:=by rw[hyi.length,A1]
  have vl:QA.length<=200:=by
   rw[Ql.length,A1,A1];show BG (List.length_filter_le _ _) ?_;rw[Ai];lia
  show{1,1,ya,0,{_,SqL.of QC},λacc na=>?_};show gx (xs:=ys) (own:=1) (js:=[]) (λi H6=>ae H5 H6/\H6 acc=some (.lst (((r.take i).map (·.2.2)).map V.int))) {ae.new na,ak} (λi H6 _ h=>SqL.of (h.1 _ _ QC)) ?_ ?_ dP dg ?_
  .rintro i z H6 hz ⟨s6,M'⟩;have{p,NR,hzi}:=bC hyi hz;show eB ?_;show{1,_,(2),_,hzi.mono s6,0,0,λu hu=>?_};rw[aB hu];show{acc,2,M',aF ?_,s6.put na,?_}
   .rw[A1,A1,Ai];lia
   .rw[ak,AX,NR,A7,A7];rfl
  .rintro H6 ⟨s6,M'⟩;rw[QD,AS] at M';show{acc,1,SqL.of M',2,?_};clear M';show{1,1,ya,0,{_,SqL.of (s6 _ _ QC)},λac2 na2=>?_};show gx (xs:=ys) (own:=1) (js:=[]) (λi H7=>ae H6 H7/\H7 ac2=some (.lst (((r.take i).map cb).map V.int))) {ae.new na2,ak} (λi H7 _ h=>SqL.of (h.1 _ _ (s6 _ _ QC))) ?_ ?_ dP dg ?_
   .rintro i z H7 hz ⟨s7,M'⟩;have{p,NR,hzi}:=bC hyi hz;show eB ?_;show{1,z,p,0,(hzi.mono s6).mono s7,i4 p (AR NR),ac2,2,M',aF ?_,s7.put na2,?_}
    .rw[A1,A1,Ai];lia
    .rw[ak,AX,NR,A7,A7];rfl
   .rintro H7 ⟨s7,M'⟩;rw[QD,AS] at M';have Pz:=s6.trans s7;show{ac2,1,SqL.of M',2,1,1,1,2,2,.inr {4,4},2,?_};show{1,2,1,bB (λc=>?_) (λc=>?_)}
    .have hv7:Is H7 (lfs x.1) v:=(hv.mono s5).mono Pz;show{1,.inl {0,_,SqL.of (Pz _ _ Ny)},1,1,x.1.map lf,r.map lf,hv7,hy5.mono Pz,AZ (aF (by rw[A1,A1];lia)),λq1 H8 n8 s8 h8=>{1,(zB rfl),λt H9 nt s9 ht=>?_}};have s59:=Pz.trans (s8.trans s9);show{fo,QA,1,0,s59 _ _ Ny,aF (by lia),{_,3},(s5.trans s59).put Qk,Pr.trans ((But.of_same s59).trans But.upd),?_};rw[AX,Py,Cr];have ef:(Option.toList (some r)).filter (λls=>decide (0<=fw d (f+1) n x.2 ls))=[r]:=by
      have c':0<=fw d (f+1) n x.2 r:=c;simp[c']
     rw[ef,A7,A7];rw[<-A7] at h8;have isx:Is (nw H5 H9) (stD (x.1++r,fw d (f+1) n x.2 r)) (.ref t):=bt (by rw[cN ((Pz.trans s8).free nt)];show ht) (ap (wD s59 (Pz.free n8) (Is.mono (s:=s9) h8)) (ap bj ax));show Acc.add s5 s59 Ny Ql isx
    .show{{_,3},s5.trans Pz,Pr.trans (But.of_same Pz),?_};rw[AX,Py,Cr];have ef:(Option.toList (some r)).filter (λls=>decide (0<=fw d (f+1) n x.2 ls))=[]:=by
      have c':¬0<=fw d (f+1) n x.2 r:=c;simp[c']
     rw[ef,BR];show Acc.mono Pz {QA,Ny,Ql}
   .rintro σ H R R' k ⟨v1,e1,v2,p,e2,h1,h2,h⟩;show{v1,e1,v2,p,e2,h1,h2,k _ _ h}
  .rintro σ H R R' k ⟨v1,e1,xs,i,d,h1,e2,e3,h⟩;show{v1,e1,xs,i,d,h1,e2,e3,λu hu=>k _ _ (h u hu)}
 .rintro σ H5 ⟨⟨v6,v7,v8,rfl⟩,s5,_,M'⟩;rw[N2,AS] at M';show{1,kk fo H5 s5 Qk (M'.is Qk)}
def yT:FnOk P w K mg base (CX0) 11 T.f31 T.d31 ["d","k"] spDrP:=by
 show FbO T.X31 gJ λ_ _ _ _ H vs Q E hr h=>?_;have{d,k,0,hW,{g1,g3,g6},kk}:=h;show{_,(ai (aX (pcq (mP T) hr T.X3 (ab (pv 0) (ab (pv 1) af))))
  (ai (pSA (i:=2) gJ.nd (bd (ab (bv (ab (bd af) (ab (pv 1) af))) af)))
  (ai (aN AL rfl (gm (by rfl) T.n_range (ab ag (ab (ah aH (pv 0) ag) af))) (pGA (i:=3) gJ.nd) (ai (pSA (i:=4) gJ.nd (bd af))
  (ai (aN AL rfl (bh (pv 2)) (bV rfl (aL (pGA (i:=5) gJ.nd) (aL (pGA (i:=6) gJ.nd) bJ))) (aj (aX (cy Ad CH CG jf (pv 4) (ab (pcq (LZ T) hr T.X30 (ab (pv 0) (ab (pv 3) (ab (pv 5) (ab (pv 6) af))))) af)))))
  (aj (pSA (i:=2) gJ.nd (pv 4))))))
  (aj (am (aS (uI hr) (by rfl) T.n_sorted boot_sorted (ab (dO (XN:=["d","k","begun","floor","longer","drawing","spare"]) (sc:=al lB) (N:=["drawing","spare"]) (own:=2) (js:=[]) rfl (by ac_nf) rfl rfl (bh (pv 2)) (λ_ _ _ _=>(nC (K:=K) rfl rfl (aL (bZ (i:=0) (show List.Nodup (["drawing","spare"]:Sk Str) by ac_nf) rfl (Or.inl rfl) (.inr rfl)) (aL (bZ (i:=1) (show List.Nodup (["drawing","spare"]:Sk Str) by ac_nf) rfl (Or.inl rfl) (.inr rfl)) bJ)))) nA (λ_ _ _ _=>(FG (aP bQ (pv 1) ag (aC _)))) (λ_ _ _ _=>(pv 0))) af))))))),?_}
 show{1,1,d,k,0,hW,?_};have{gA,gB}:=JD g1;have d15:1<=d/\d<=5:=by unfold Wide at hW;lia
 show{AW _,λe0 H1 ne0 s1 he0=>{1,(zB rfl),λt0 H2 nt0 s2 ht0=>{(zB rfl),λbg H3 nb s3 RK=>?_}}};have NB:=(s1.trans s2).trans s3;have nbH:H bg=none:=(s1.trans s2).free nb;have is0:Is (nw H H3) (.l ((bO d k 0).map stD)) (.ref bg):=aA (by rw[cN nbH];show RK) (ap (bt (by rw[cN (s1.free nt0)];show s3 _ _ ht0) (ap (aA (vs:=[]) (by rw[cN ne0];show s3 _ _ (s2 _ _ he0)) ax) (ap bj ax))) ax);show{1,2,3,{5,5,4,4},?_};rw[show((d:Int)+1-1).toNat=d by lia];show dG (lo:=1) (n:=d) (λf σ H4=>∃bg,(E4 λv3 v4 v5 v6=>σ=[some (.int d),some (.int k),some (.ref bg),v3,v4,v5,v6])/\ae H H4/\Is (nw H H4) (.l ((bO d k f).map stD)) (.ref bg)) {bg,{none,none,none,none,0},NB,is0} ?_ ?_
 .clear is0 NB nbH RK;rintro f σ H4 hf ⟨bg,⟨v3,v4,v5,v6,rfl⟩,s4,RK⟩;have{Os,Na}:=gA f hf;show{AW _,λlo H5 nlo s5 hlo=>?_};have hbg4:=RK.mono bM;have{_,bvs,e,hb4,hbi}:=aD hbg4;cases e;have RL:bvs.length=(bO d k f).length:=by rw[hbi.length,A1]
  show{1,bg,0,{_,SqL.of (s5 _ _ hb4)},bF (xs:=bvs) (λj σ H6=>(E2 λv5 v6=>σ=[some (.int d),some (.int k),some (.ref bg),some (.int (1+(f:Int))),some (.ref lo),v5,v6])/\ae H4 H6/\Acc H4 H6 lo ((((bO d k f).take j).flatMap λx=>dS d (f+1) x.1 x.2).map stD)) {{3},s5,Acc.start hlo} (λj σ H6 _ h=>SqL.of (h.2.1 _ _ hb4)) ?_ ?_}
  .rintro j y σ H6 hj ⟨⟨v5,v6,rfl⟩,s6,vs6,O4,hi6⟩;have{x,Nl,hy}:=bC hbi hj;have{t,u,0,ht,hu}:=yz (hy.mono s6);have e1:(1+(f:Int))=((f+1:Nat):Int):=by lia
   have tk:(((bO d k f).take (j+1)).flatMap λx=>dS d (f+1) x.1 x.2)=(((bO d k f).take j).flatMap λx=>dS d (f+1) x.1 x.2)++dS d (f+1) x.1 x.2:=by
    rw[AX,Nl,BH];simp
   have vl:vs6.length+(dS d (f+1) x.1 x.2).length<=900:=by
    rw[hi6.length,A1];have hjl:j<(bO d k f).length:=(AF.mp Nl).1;have:(((bO d k f).take (j+1)).flatMap λx=>dS d (f+1) x.1 x.2).length<=(bO d k (f+1)).length:=by
     change _<=((bO d k f).flatMap λx=>dS d (f+1) x.1 x.2).length
     conv=>rhs;rw[<-Br (j+1) (bO d k f)]
     rw[BH,AD];lia
    rw[tk,AD] at this;lia
   show{t,1,SqT.of ht,0,3,2,?_};show{1,.inl {0,_,SqL.of O4},1,1,1,1,d,f,u,x,by rw[e1];rfl,hf,d15.2,hu,Os x (AR Nl),λwl H7 s7 nwl hwl=>?_};have{_,us,e,hwl',hwi}:=aD hwl;cases e;have ul:us.length=(dS d (f+1) x.1 x.2).length:=by rw[hwi.length,A1]
   show{lo,wl,vs6,us,0,0,s7 _ _ O4,bM _ _ hwl',AZ (aF (by lia)),{3},(s6.trans s7).put nlo,?_};rw[tk,A7];show Acc.adds s6 s7 O4 hi6 hwi
  .rintro σ H6 ⟨⟨v5,v6,rfl⟩,s6,M'⟩;rw[RL,AS] at M';show{1,lo,{_,_,3},s4.trans s6,(M'.is nlo).mono (p8 s4)}
 .clear is0 NB nbH RK;rintro σ H4 ⟨bg,⟨v3,v4,v5,v6,rfl⟩,s4,RK⟩;have{_,bvs,e,hb4,hbi}:=aD RK;cases e;have hb4':=bM _ _ hb4;have RL:bvs.length=(bO d k d).length:=by rw[hbi.length,A1]
  show{1,bg,0,{_,SqL.of hb4'},λacc na=>?_};show gx (xs:=bvs) (own:=2) (js:=[]) (λj H5=>ae H4 H5/\∃vs,H5 acc=some (.lst vs)/\Iss (nw H H4) (((((bO d k d).take j).filter λx=>decide (x.2=0)).map (·.1)).map lfs) vs) {ae.new na,[],ak,ax} (λj H5 _ h=>SqL.of (h.1 _ _ hb4')) ?_ ?_ nB ?_ ?_
  .rintro j y H5 hj ⟨s5,vs,M',hi⟩;have{x,Nl,hy}:=bC hbi hj;have{t,u,0,ht,hu}:=yz hy;have vl:vs.length<=900:=by
    rw[hi.length,A1,A1];show BG (List.length_filter_le _ _) ?_;rw[Ai];obtain⟨d',rfl⟩:∃d',d=d'+1:={d-1,4};have:=(gA d' (by lia)).2;lia
   show{t,1,SqT.of (s5 _ _ (bM _ _ ht)),0,3,2,?_};show{1,0,1,bW (λc=>?_) (λc=>?_)}
   .show{1,acc,vs,1,0,M',aF (by lia),s5.put na,_,ak,?_};rw[AX,Nl,Cr];have ef:(Option.toList (some x)).filter (λx=>decide (x.2=0))=[x]:=by simp[c]
    rw[ef,A7,A7];show hi.append (ap hu ax)
   .show{s5,vs,M',?_};rw[AX,Nl,Cr];have ef:(Option.toList (some x)).filter (λx=>decide (x.2=0))=[]:=by simp[c]
    rw[ef,BR];show hi
  .rintro H5 ⟨s5,vs,M',hi⟩;rw[RL,AS] at hi;have hi:Iss (nw H H4) ((cc d k).map lfs) vs:=hi;have Qm:=s4.trans s5;have hv5:Iss H5 ((cc d k).map lfs) vs:=(hi.mono bM).mono s5;have P4:vs.length=(cc d k).length:=by rw[hi.length,A1]
   show yO M' hv5 (λx v h=>let ⟨a,ys,e1,e2,_⟩:=aD h;{a,ys,e1,e2}) (λ_ _ _ _ h h'=>Jz h h') g3 g6 λp q pp nq=>?_;show kk (p.map λi=>(cc d k).getD i []) q _ (yP pp) (Qm.put (Qm.free nq)) (Qm.free nq) ?_;show aA (by rw[cN (Qm.free nq)];show ak) ((qz [] hi p λi h=>AY.mp (pp.mem_iff.mp h)).mono (fR (s5.trans (ae.new nq))))
  .rintro σ H R R' k' ⟨v1,e1,e2,b,e3,h⟩;show{v1,e1,e2,b,e3,k' _ _ h}
  .rintro σ H R R' k' ⟨v1,e1,h⟩;show{v1,e1,k' _ _ h}
def L0:OKQ T.X26 P w base 5 spSou:=by
 show FbO T.X26 Ja λ_ _ _ _ H vs Q E hr h=>?_;have{n,dv,ps,0,n1,n5,hd,hs,kk}:=h;show{_,(aj (am (dH jc (aS (Gp rfl) (by rfl) T.n_min boot_min (ab (pcq (rB T) hr T.X25 (ab (pv 0) (ab (pv 1) af))) af)) ag (aC _)))),?_};show{1,1,n,dv,ps,0,n1,n5,hd,hs.okl,λl H1 s1 nl hl=>?_};show{l,1,SqL.of hl,by rw[lP n ps hs.okl];lia,2,?_};change Q (.bl (decide (0<=jw (bG n ps)))) H1;rw[Ay (Lz hs.ends)];show kk H1 s1
def L4:OKQ T.X33 P w base 6 spNeS:=by
 show FbO T.X33 Jc λ_ _ _ _ H vs Q E hr h=>?_;have{n,dv,ps,0,n1,n5,hd,hs,kk}:=h;show{_,(ai (aX (pcq (km T) hr T.X4 (ab (pv 0) af)))
  (aj (aR (cG (cZ (pcq (L0 T) hr T.X26 (ab (pv 0) (ab (pv 1) af))))) (aj kA) aQ))),?_}
 show{1,n,0,4,4,1,1,n,dv,ps,0,n1,n5,hd,hs,λH1 s1=>{true,0,aT (kk H1 s1)}}
def L6:OKQ T.X34 P w base 5 spEnM:=by
 show FbO T.X34 lD λ_ _ _ _ H vs Q E hr h=>?_;have{n,dv,ps,0,n1,n5,hd,hs,Na,kk}:=h;show{_,(ai (pSA (i:=2) lD.nd (bd af))
  (ai (aN AL rfl (ie (by rfl) T.n_enumerate (pcq (rB T) hr T.X25 (ab (pv 0) (ab (pv 1) af)))) (bV rfl (aL (pGA (i:=3) lD.nd) (aL (pGA (i:=4) lD.nd) bJ))) (aj (aX (cy Ad CH CG jf (pv 2) (ab (ah gD (bd (ab (bv (ab (ah aH (pv 3) ag) (ab (ah aH (pv 0) ag) (ab ag af)))) af)) (pv 4)) af)))))
  (aj (am (pv 2))))),?_}
 show{AW _,λfo H1 nf s1 Oa=>?_};show{1,1,n,dv,ps,0,n1,n5,hd.mono s1,hs.okl,λe H2 s2 ne he=>?_};have el:=lP n ps hs.okl;have efo:e≠fo:=by rintro rfl;rw[Oa] at ne;cases ne
 show{e,0,{_,SqL.of he},jt (xs:=(bG n ps).map V.int) (λi σ H3=>(E2 λv3 v4=>σ=[some (.int n),some dv,some (.ref fo),v3,v4])/\ae H H3/\H3 e=some (.lst ((bG n ps).map V.int))/\∃vs,H3 fo=some (.lst vs)/\Iss H3 (((List.range i).flatMap (fT n (bG n ps))).map lf) vs)
  {{none,none,0},s1.trans s2,he,[],s2 _ _ Oa,ax} (λi σ H3 _ h=>SqL.of h.2.2.1) ?_ ?_}
 .rintro i x σ H3 p hx ⟨⟨v3,v4,rfl⟩,s3,he3,vs,hf3,hi3⟩ np;rw[AC] at hx;have{x,Nl,0}:=A'.mp hx;have hi:i<n:=by have:=(AF.mp Nl).1;lia
  have ex:(bG n ps).getD i 0=x:=by rw[List.getD,Nl];rfl
  have x0:0<=x:=by rw[<-ex];show hs.ends i
  have pre:((List.range i).flatMap (fT n (bG n ps))).length+x.toNat<=20:=by
   have:=lT (fT n (bG n ps)) hi;have e2:(fT n (bG n ps) i).length=x.toNat:=by unfold fT;rw[Ah,ex]
   unfold fx at Na;lia
  show{p,1,SqT.of ak,0,3,2,?_};have s4:ae H3 (upd H3 p (.tup [.int i,.int x])):=ae.new np;generalize upd H3 p (.tup [.int i,.int x])=H4 at s4⊢;show{1,.inl {0,_,SqL.of (s4 _ _ hf3)},1,2,1,2,(zB rfl),λt H5 nt s5 ht=>{(zB rfl),λl1 H6 n6 s6 h6=>?_}};have htl:Is H6 (lf (1+(i:Int),(n:Int)+1,1)) (.ref t):=jU (s6 _ _ (by rw[ht];change some (HO.tup [V.int ((i:Int)+1),_,_])=_;rw[Int.add_comm]));show{1,lf (1+(i:Int),(n:Int)+1,1),x,aA h6 (ap htl ax),0,4,4,AZ (aF (by lia)),λl2 H7 n7 s7 h7=>?_};have{_,us,e2,Nk,OP}:=aD h7;cases e2;have s47:ae H3 H7:=((s4.trans s5).trans s6).trans s7;have hf7:=s47 _ _ hf3;have ul:us.length=x.toNat:=by rw[OP.length,Ah]
  have vl:=hi3.length;rw[A1] at vl;show{fo,l2,vs,us,0,0,hf7,Nk,AZ (aF (by lia)),{3},(s3.trans s47).put nf,by rw[av efo];show s47 _ _ he3,_,ak,?_};rw[iF,A7];show(yB s47 hf3 hi3).append (yB (ae.refl H7) hf7 ?_);have:(fT n (bG n ps) i).map lf=List.replicate x.toNat (lf (1+(i:Int),(n:Int)+1,1)):=by unfold fT;rw[ex,CM]
  rw[this];show OP
 .rintro σ H3 ⟨⟨v3,v4,rfl⟩,s3,he3,vs,hf3,hi3⟩;rw[A1,el] at hi3;show{1,kk fo H3 s3 nf (aA hf3 hi3)}
def rC:OKQ T.X5 P w base 1 spCho:=by
 show FbO T.X5 lq λ_ _ _ _ H vs Q E hr h=>?_;have{n,k,0,h1,h2,kk}:=h;show{_,(ai (aR (cS (aP dY (pv 1) ag (aC _)) (eY (aP fH (pv 1) (pv 0) (aC _)))).pt (aj (am ag)) aQ)
  (ai (pSA (i:=2) lq.nd ag)
  (ai (aN AL rfl (eZ (by rfl) T.n_range (ab (pv 1) af)) (pGA (i:=3) lq.nd) (aj (pSA (i:=2) lq.nd (ah Ey (ah bo (pv 2) (ah aI (pv 0) (pv 3))) (ah aH (pv 3) ag)))))
  (aj (am (pv 2)))))),?_}
 show{1,2,1,bB (λh=>absurd h (by lia)) (λ_=>?_)};show{1,1,2,1,bB (λh=>absurd h (by lia)) (λ_=>?_)};show{1,(k:Int),0,4,4,dG (lo:=0) (n:=(k:Int).toNat) (λi σ H2=>(∃v3,σ=[some (.int n),some (.int k),some (.int (chF n i)),v3])/\H2=H) {{none,0},0} ?_ ?_}
 .rintro i σ H2 hi ⟨⟨v3,rfl⟩,rfl⟩;show{1,1,1,2,2,.inr {4,4},1,2,2,{4,4},{some (.int (0+(i:Int))),?_},0};rw[show chF n (i+1)=chF n i*(n-(0+(i:Int)))/((0+(i:Int))+1) by rw[D3];rfl];rfl
 .rintro σ H2 ⟨⟨v3,rfl⟩,rfl⟩;rw[Ag];show{1,kk}
def kr:OKQ T.X12 P w base 1 spWm:=by
 show FbO T.X12 IZ λ_ _ _ _ H vs Q E hr h=>?_;have{v,t,p,m,0,hv,hp,hl,kk}:=h;show{_,(aj (am (ah nY (ah nY (dI vE (pv 0) em (du (pv 1))) (bv (ab (ah aH (ao aO (pv 0) (pv 1) (λ_ _=>rfl)) (pv 2)) af))) (dI vE (pv 0) (du (ah aH (pv 1) ag)) em)))),?_};have Na:∀vs:Sk V,vs.length=(t.map D.i).length->vs.length=t.length:=λvs e=>by rw[e,A1]
 show{1,1,(p:Int),0,t.map .i,(t.take p).map .i,hv,LF,λvs e h=>?_,λu1 H1 s1 NA=>?_}
 .have e:=Na vs e;rw[HT.sIx_nat] at h;lia
 show{1,1,t.map .i,(p:Int),.i (t.getD p 0),hv.mono s1,0,?_,λu hu=>?_}
 .show gF (j:=p) rfl ?_;rw[AC,A2 hp];simp[List.getD,hp]
 rw[aB hu];show{1,2,(zB rfl),λq2 H2 n2 s2 h2=>?_};have NY:Is H2 (.t [.i (t.getD p 0+m)]) (.ref q2):=bt h2 (ap bj ax);show{_,_,NA.mono s2,NY,AZ (aF (by rw[A1,Ai];change _+1<=1000;lia)),λu3 H3 s3 RM=>?_};show{1,1,2,(p:Int)+1,0,t.map .i,(t.drop (p+1)).map .i,((hv.mono s1).mono s2).mono s3,?_,λvs e h=>?_,λu4 H4 s4 hu4=>?_}
 .rw[show((p:Int)+1)=((p+1:Nat):Int) by lia];show LG (by lia)
 .have e:=Na vs e;rw[show((p:Int)+1)=((p+1:Nat):Int) by lia,HT.sIx_nat] at h;lia
 show{_,_,RM.mono s4,hu4,AZ (aF (by rw[AD,A1,A1,Ai,Bs];change _+1+_<=1000;lia)),λu5 H5 s5 hu5=>?_};show kk u5 H5 ((((s1.trans s2).trans s3).trans s4).trans s5) ?_;have e:(t.take p).map D.i++[D.i (t.getD p 0+m)]++(t.drop (p+1)).map D.i=(wmF t p m).map D.i:=by
  unfold wmF;rw[<-JJ hp,A7,A7];rfl
 rw[e] at hu5;show hu5
theorem yU:∀n:Nat,FnOk P w K mg base CX0 (n+2) T.f35 T.d35 ["numbers","first","last","alike"] (spPB n K)
 |0=>{λvs H Q E h=>(by have{_,_,_,_,_,_,_,h,_}:=h;show absurd h (Nat.not_lt_zero _)),λA outer s H args us vs Q E _ _ _ _ h=>(by have{_,_,_,_,_,_,_,h,_}:=h;show absurd h (Nat.not_lt_zero _))}
 |n+1=>by
  have ih:=yU n;show T.X35.F.ok iA (λvs H Q E h=>?_) (λNu A outer s H vs Q E hr h=>?_)
  .have{_,_,_,_,_,0,_}:=h;rfl
  .have{v,t,p,g,a,0,hv,hg,hn,hp,{kl,kn,ks},kk}:=h;show{_,(ai (aR (aP bQ (pv 1) (pv 2) (aC _)) (aj (am (bd (ab (bv (ab (pcq (kr T) hr T.X12 (ab (pv 0) (ab (pv 1) (ab (pv 3) af))) (by lia)) (ab (pcq (rC T) hr T.X5 (ab (ah aH (ao aO (pv 0) (pv 1) (λ_ _=>rfl)) (pv 3)) (ab (pv 3) af)) (by lia)) af))) af)))) aQ)
   (ai (pSA (i:=4) iA.nd (bd af))
   (ai (aN AL rfl (eZ (by rfl) T.n_range (ab (ah aH (pv 3) ag) af)) (pGA (i:=5) iA.nd) (ai (pSA (i:=6) iA.nd (pcq (rC T) hr T.X5 (ab (ah aH (ao aO (pv 0) (pv 1) (λ_ _=>rfl)) (pv 5)) (ab (pv 5) af)) (by lia)))
   (aj (aN AL rfl (bh (ee ih hr (by rfl) T.X35.m T.X35.F.kp T.X35.B .nil dM (ab (pcq (kr T) hr T.X12 (ab (pv 0) (ab (pv 1) (ab (pv 5) af))) (by lia)) (ab (ah aH (pv 1) ag) (ab (pv 2) (ab (ah aI (pv 3) (pv 5)) af)))))) (bV rfl (aL (pGA (i:=7) iA.nd) (aL (pGA (i:=8) iA.nd) bJ))) (aj (aX (cy Ad BD BC dJ (pv 4) (ab (bv (ab (pv 7) (ab (ah bo (pv 6) (pv 8)) af))) af))))))))
   (aj (am (pv 4)))))),?_}
   have kp:=(iG kn).2 p;have kp0:=kn p;have at_p:∀{H':Hp},ae H H'->∀{v':V},Is H' (tI t) v'->atI (t.map D.i) (p:Int)=some (.i (t.getD p 0)):=λ_ _ _=>by
    show gF (j:=p) rfl ?_;rw[AC,A2 (by lia)];simp[List.getD,show p<t.length by lia]
   show{1,1,0,1,bW (λe=>?_) (λe=>?_)}
   .have hg0:g=0:=by lia
    subst hg0;show{1,1,1,v,t,p,a,0,hv,4,kl,λu1 H1 s1 NA=>?_};show{1,1,t.map .i,(p:Int),_,hv.mono s1,0,at_p s1 (hv.mono s1),λu hu=>?_};rw[aB hu];show{1,2,1,t.getD p 0+a,a,0,4,4,?_};show{(zB rfl),λq2 H2 n2 s2 h2=>{(zB rfl),λq3 H3 n3 s3 h3=>?_}};have O3:=s1.trans s2;show kk q3 H3 (O3.trans s3) (O3.free n3) (aA h3 (ap ((rj (x:=(wmF t p (a:Int),chF (t.getD p 0+(a:Int)) a)) h2 (NA.mono s2)).mono s3) ax))
   .obtain⟨g,rfl⟩:∃g',g=g'+1:={g-1,4};show{AW _,λfo H1 nf s1 Oa=>?_};have big:=LH (g:=g+1) (t:=t) (p:=p) (a:=a) (by lia) (by have:=(iG kn).1;lia);have a15:(a:Int)<=15:=by have:=(iG kn).1;lia
    show{1,2,1,4,4,?_};rw[show((a:Int)+1).toNat=a+1 by lia];show dG (lo:=0) (n:=a+1) (λh σ H2=>(E4 λv5 v6 v7 v8=>σ=[some v,some (.int p),some (.int ((p:Int)+((g+1:Nat):Int))),some (.int a),some (.ref fo),v5,v6,v7,v8])/\ae H H2/\∃vs,H2 fo=some (.lst vs)/\Iss H2 (((List.range h).flatMap λh:Nat=>(pbF g (wmF t p (h:Int)) (p+1) (a-h)).map λx=>(x.1,chF (t.getD p 0+(h:Int)) h*x.2)).map prD) vs) {{none,none,none,none,0},s1,[],Oa,ax} ?_ ?_
    .rintro h σ H2 hh ⟨⟨v5,v6,v7,v8,rfl⟩,s2,vs2,hf2,OP⟩;rw[D3];have hb:∀j,j<=(pbF g (wmF t p (h:Int)) (p+1) (a-h)).length->((List.range h).flatMap λh:Nat=>(pbF g (wmF t p (h:Int)) (p+1) (a-h)).map λx=>(x.1,chF (t.getD p 0+(h:Int)) h*x.2)).length+j<=1048576:=λj hj=>by
      have:=lT (λh:Nat=>(pbF g (wmF t p (h:Int)) (p+1) (a-h)).map λx=>(x.1,chF (t.getD p 0+(h:Int)) h*x.2)) hh;rw[A1] at this;unfold pbF at big;lia
     rw[iF];generalize ((List.range h).flatMap λh:Nat=>(pbF g (wmF t p (h:Int)) (p+1) (a-h)).map λx=>(x.1,chF (t.getD p 0+(h:Int)) h*x.2))=pr at OP hb⊢;have{c1,c2}:=wN (n:=t.getD p 0+(h:Int)) (k:=h) (by lia) (by lia);show{1,1,t.map .i,(p:Int),_,hv.mono s2,0,at_p s2 (hv.mono s2),λu hu=>?_};rw[aB hu];show{1,2,1,t.getD p 0+(h:Int),h,0,4,4,?_};show{1,1,1,v,t,p,(h:Int),0,hv.mono s2,4,kl,λu3 H3 s3 RM=>?_};show{1,2,1,1,1,2,u3,wmF t p (h:Int),p+1,g,a-h,?_,RM,4,4,by rw[dB];lia,{by rw[dB];show kl,λi=>?_,?_},λrl H4 s4 OS Pj=>?_}
     .have e1:((p:Int)+1)=((p+1:Nat):Int):=by lia
      have e2:(p:Int)+((g+1:Nat):Int)=((p+1:Nat):Int)+(g:Int):=by lia
      have e3:(a:Int)-(h:Int)=((a-h:Nat):Int):=by lia
      change [u3,V.int ((p:Int)+1),V.int ((p:Int)+((g+1:Nat):Int)),V.int ((a:Int)-(h:Int))]=_;rw[e1,e2,e3]
     .rw[lV (by lia)];have:=kn i;split<;>lia
     .rw[lW (by lia)];lia
     have{_,N3,e,P',Og}:=aD Pj;cases e;generalize pbF g (wmF t p (h:Int)) (p+1) (a-h)=O at Og hb⊢;have N2:N3.length=O.length:=by rw[Og.length,A1]
     have s24:=s3.trans s4;have hf4:=s24 _ _ hf2;have P8:rl≠fo:=by rintro rfl;rw[s3 _ _ hf2] at OS;cases OS
     show{rl,0,{_,SqL.of P'},bF (xs:=N3) (λj σ H5=>(E2 λv7 v8=>σ=[some v,some (.int p),some (.int ((p:Int)+((g+1:Nat):Int))),some (.int a),some (.ref fo),some (.int h),some (.int (chF (t.getD p 0+(h:Int)) h)),v7,v8])/\ae H H5/\H5 rl=some (.lst N3)/\aE H4 H5/\∃vs,H5 fo=some (.lst vs)/\Iss H5 ((pr++(O.take j).map λx=>(x.1,chF (t.getD p 0+(h:Int)) h*x.2)).map prD) vs) {{3},s2.trans s24,P',aE.of_same (ae.refl H4),vs2,hf4,by simpa using OP.mono s24} (λj σ H5 _ h=>SqL.of h.2.2.1) ?_ ?_}
     .rintro j y σ H5 hj ⟨⟨v7,v8,rfl⟩,s5,O5,t5,QA,RN,Ql⟩;have{x,Nl,hy}:=bC Og hj;have hjl:j<O.length:=(AF.mp Nl).1;have{q,u6,0,hq,hu6}:=rk (mN t5 hy);have vl:=Ql.length;rw[A1,AD,A1,Ai] at vl;have hbj:=hb (j+1) (by lia);show{q,1,SqT.of hq,0,3,2,?_};show{1,.inl {0,_,SqL.of RN},1,1,1,2,.inl {4,4},(zB rfl),λq6 H6 n6 s6 h6=>?_};show{fo,QA,1,0,s6 _ _ RN,mM (by lia),{3},(s5.trans s6).put nf,by rw[av P8];show s6 _ _ O5,(t5.trans (aE.of_same s6)).trans (aE.upd (s6 _ _ RN)),_,ak,?_};have ez:(pr++(O.take (j+1)).map λx=>(x.1,chF (t.getD p 0+(h:Int)) h*x.2))=(pr++(O.take j).map λx=>(x.1,chF (t.getD p 0+(h:Int)) h*x.2))++[(x.1,chF (t.getD p 0+(h:Int)) h*x.2)]:=by
       rw[AX,Nl,Option.toList_some,A7,B8];rfl
      rw[ez,A7];show(yE ((aE.of_same s6).trans (aE.upd (s6 _ _ RN))) Ql).append ?_;show ap (mN (aE.upd (s6 _ _ RN)) (rj (x:=(x.1,chF (t.getD p 0+(h:Int)) h*x.2)) h6 (hu6.mono s6))) ax
     .rintro σ H5 ⟨⟨v7,v8,rfl⟩,s5,O5,t5,QA,RN,Ql⟩;rw[N2,AS] at Ql;show{{_,_,3},s5,QA,RN,Ql}
    .rintro σ H2 ⟨⟨v5,v6,v7,v8,rfl⟩,s2,vs2,hf2,OP⟩;show{1,kk fo H2 s2 nf (aA hf2 OP)}
def L7:OKQ T.X36 P w base 9 spHMO:=by
 show FbO T.X36 fO λ_ _ _ _ H vs Q E hr h=>?_;have{d,v,mk,0,d1,d5,hv,{mok,mlen},RC,kk}:=h;show{_,(ai (pSA (i:=2) fO.nd (HX (kN hr) (c9 fK (by rfl) T.n_tuple DX (ab (ah gD (bd (ab ag af)) (pv 0)) af)) ag))
  (ai (aN AL rfl (bh (Hy (Ht hr) hr.hd (by rfl) T.n_sorted (by rfl) T.n_set (ab (pv 1) af))) (pGA (i:=3) fO.nd) (ai (pSA (i:=4) fO.nd Fw)
  (ai (aN AL rfl (HU (pv 2)) (pGA (i:=5) fO.nd) (aj (aN AL rfl (bh (pcq (yU T 6) hr T.X35 (ab (pv 5) (ab (ah aI (ao aO (pv 3) ag (λ_ _=>rfl)) ag) (ab (ah aI (ao aO (pv 3) ag (λ_ _=>rfl)) ag) (ab (cy Ad PySem.F.slot_list_count PySem.F.type_list_count (G0 hr) (pv 1) (ab (pv 3) af)) af)))))) (bV rfl (aL (pGA (i:=6) fO.nd) (aL (pGA (i:=7) fO.nd) bJ))) (aj (Fu (kN hr) (pv 4) (pv 6) (ah aH (Fz (kN hr) (pv 4) (pv 6) ag {0,0,0,0}) (ah bo (Ft (kN hr) (pv 2) (pv 5) (λ_ _=>rfl)) (pv 7))) rfl)))))
  (aj (pSA (i:=2) fO.nd (pv 4))))))
  (aj (am (HZ rfl (by rfl) T.n_sum (pv 2)))))),?_}
 have{wa,Qy,0,hwa,hwi}:=aD hv;have wlen:Qy.length=mk.length:=by rw[hwi.length,A1]
 show λkd nkd=>?_;have s0:ae H (upd H kd (.dT [])):=ae.new nkd;have RO:upd H kd (.dT []) kd=some (.dT []):=ak;generalize upd H kd (.dT [])=H0 at s0 RO⊢;show{(zB rfl),λl1 H1 n1 s1 h1=>?_};show{1,.i 0,d,aA h1 (ap bj ax),0,4,4,AZ (aF (by lia)),λl2 H2 n2 s2 h2=>?_};show{.ref l2,1,h2,λt3 H3 n3 s3 h3=>?_};have NB:=(s1.trans s2).trans s3;have hkd3:=NB _ _ RO;rw[Ag] at h3;have ht3:H3 t3=some (.tup ((bH (List.replicate d 0)).map kV)):=by
  rw[<-CM] at h3;have{a,e,ha}:=bK (xs:=List.replicate d 0) h3;cases e;rw[lX];show ha
 show{hkd3,bH (List.replicate d 0),t3,0,ht3,?_};have e0:aZ ([]:Sk (Sk Key×V)) (bH (List.replicate d 0)) (.int 1)=bn [(List.replicate d 0,1)]:=w8 [] _ _;rw[e0];have sH:ae H (upd H3 kd (.dT (bn [(List.replicate d 0,1)]))):=(s0.trans NB).put nkd;have QU:upd H3 kd (.dT (bn [(List.replicate d 0,1)])) kd=some (.dT (bn [(List.replicate d 0,1)])):=ak;generalize upd H3 kd (.dT (bn [(List.replicate d 0,1)]))=H4 at sH QU⊢;clear h1 h2 h3 ht3 hkd3 NB s1 s2 s3 n1 n2 n3 RO s0 e0 H0 H1 H2 H3;have tab0:TabOk d 0 [(List.replicate d 0,(1:Int))]:=by
  show{7,λx hx=>?_};rw[AT.mp hx];show{7,7,λi=>?_};rw[A5,Cv];split<;>simp
 show{1,.ref wa,mk.map bT,(3),0,by rw[<-wA];show hv.mono sH,5,Ly,RC,λN' l0 H5 nd mem so Pk s5 hq=>?_};have ey:=JH nd mem so;subst ey;rw[<-wA] at hq;clear nd mem so;have hhm:bE [(List.replicate d 0,(1:Int))] (TF (λm=>mk.count m) (dk mk))=hmF d mk:=by
  simp[bE,hmF]
 have hS:∀m∈dk mk,m∈mk:=λm hm=>qj.mp hm;have hSn:=LL mk;generalize hcn:(λm=>mk.count m)=cnt at hhm;generalize hmF d mk=tot at hhm kk;generalize dk mk=S at hq hhm hS hSn;have{_,Nm,e,NN,NK}:=aD hq;cases e;have Nz:Nm.length=S.length:=by rw[NK.length,A1]
 show{l0,0,{_,SqL.of NN},bF (xs:=Nm) (λi σ H6=>(E3 λkd D n=>(E5 λv3 v4 v5 v6 v7=>σ=[some (.int d),some (.ref wa),some (.ref kd),v3,v4,v5,v6,v7])/\H6 kd=some (.dT (bn D))/\TabOk d n D/\n=((S.take i).map cnt).sum/\bE D (TF cnt (S.drop i))=tot/\H kd=none)/\ae H H6/\H6 l0=some (.lst Nm)/\aE H5 H6) {{kd,_,(0),{none,none,none,none,none,0},s5 _ _ QU,tab0,0,hhm,nkd},sH.trans s5,NN,aE.of_same (ae.refl H5)} (λi σ H6 _ h=>SqL.of h.2.2.1) ?_ ?_}
 .rintro i y σ H6 hi ⟨⟨kd,D,n,⟨v3,v4,v5,v6,v7,rfl⟩,Qa,tab,hn,Ps,nkd⟩,s6,hl6,t6⟩;have{x,Nl,hy}:=bC NK hi;have QZ:i<S.length:=(AF.mp Nl).1;have exi:S[i]=x:=(AF.mp Nl).2;have{ya,0,QC}:=fQ hy;have{o1,o2,o3}:=mok x (hS x (AR Nl));have QP:((S.take (i+1)).map cnt).sum=n+cnt x:=by
   rw[AX,Nl,A7,BQ,<-hn];simp
  have hn15:n+cnt x<=15:=by
   have:=xa mk (S.take (i+1)) (hSn.sublist (List.take_sublist _ _));rw[hcn,QP] at this;lia
  rw[As QZ,exi,LM] at Ps;obtain⟨p,hp⟩:∃p:Nat,x.1-1=(p:Int):={(x.1-1).toNat,4};obtain⟨g,hg⟩:∃g:Nat,x.2.1-x.1-1=(g:Int):={(x.2.1-x.1-1).toNat,4};rw[hp,hg,Ag,Ag] at Ps;have rok:qm p d n (n+cnt x) (spR g (cnt x)):=λr hr=>by
   have{e1,e2}:=ql hr;show{4,4}
  have{tab',sum'}:=qp rok (TF cnt (S.drop (i+1))) tab.key (acc:=[]) {7,λx hx=>nomatch hx};show λf nf=>?_;have s7:ae H6 (upd H6 f (.dT [])):=ae.new nf;have hf7:upd H6 f (.dT []) f=some (.dT (bn [])):=ak;have Qk:H f=none:=s6.free nf;have fkd:f≠kd:=by rintro rfl;rw[Qa] at nf;cases nf
  generalize upd H6 f (.dT [])=H7 at s7 hf7⊢;show{1,kd,bn D,0,.inl (s7 _ _ Qa),λo H8 hk8 Qb=>?_};have l8:LTS H7 H8:=LTS.rd (.inl (s7 _ _ Qa)) Qb;have s8:ae H H8:=λb u e=>by rw[Qb b (by rintro rfl;rw[nkd] at e;cases e)];show s7 _ _ (s6 _ _ e)
  show HV (λj σ H9=>(E3 λv5 v6 v7=>σ=[some (.int d),some (.ref wa),some (.ref kd),some (.ref ya),some (.ref f),v5,v6,v7])/\ae H H9/\H9 kd=some (.frz o (.dT (bn D)))/\H9 l0=some (.lst Nm)/\aE H5 H9/\H9 f=some (.dT (bn (stP p (spR g (cnt x)) (D.take j) [])))) {{_,3},s8,hk8,l8.1 _ _ (s7 _ _ hl6),(t6.trans (aE.of_same s7)).trans l8.2,by rw[Qb f fkd];show hf7} (λj σ H9 _ h=>h.2.2.1) ?_ ?_
  .rintro j k c b σ H9 hj ⟨⟨v5,v6,v7,rfl⟩,s9,hk9,hl9,t9,Q4⟩ hb;unfold bn at hj;rw[AC] at hj;have{{t,cv},hD,ekc}:=A'.mp hj;simp only[Prod.mk.injEq] at ekc;have{0,0}:=ekc;rw[lX] at hb;have hDm:(t,cv)∈D:=AR hD;obtain⟨k1,k2,k3⟩:t.length=d/\t.sum=(n:Int)/\∀i:Nat,0<=t.getD i 0:=tab.key _ hDm;have hx9:Is H9 (lf x) (.ref ya):=jU (t9 _ _ QC);have hw9:=hwi.mono s9;rw[LN hD];have Q5:=(qp rok (λ_=>0) (xs:=D.take j) (λy hy=>tab.key y (Ca hy)) (acc:=[]) {7,λx hx=>nomatch hx}).1;generalize stP p (spR g (cnt x)) (D.take j) []=ac at Q4 Q5⊢;show{1,1,_,(0),_,hx9,0,0,λu1 NA=>?_};rw[aB NA];show{2,1,_,(1),_,hx9,0,0,λu2 NY=>?_};rw[aB NY];show{2,1,.inl {0,_,SqL.of (s9 _ _ hwa)},1,wa,Qy,.ref ya,(1),1,0,SqL.of (s9 _ _ hwa),LK hw9 hx9,?_};rw[wlen,JS];show{.ref b,t,p,g,cnt x,?_,eD hb,4,5,4,{4,k3,4},λrl H10 Pu OS Pj=>?_}
   .change [V.ref b,V.int (x.1-1),V.int (x.2.1-2),V.int (mk.count x:Nat)]=_;rw[hp,show x.2.1-2=(p:Int)+(g:Int) by lia,<-hcn]
   rw[wQ (by lia),BN] at Pj;have{_,N3,e,Q6,Og}:=aD Pj;cases e;have RB:∀r∈spR g (cnt x),r.length=g+1/\r.sum=cnt x:=λr hr=>ql hr;generalize spR g (cnt x)=rs at Og rok RB⊢;have N2:N3.length=rs.length:=by rw[Og.length,A1]
   have hk10:=Pu _ _ hk9;have hf10:=Pu _ _ Q4;have rlf:rl≠f:=by rintro rfl;rw[Q4] at OS;cases OS
   have l0f:l0≠f:=by rintro rfl;rw[hl9] at Q4;cases Q4
   show{rl,0,{_,SqL.of Q6},bF (xs:=N3) (λm σ H11=>(E2 λv6 v7=>σ=[some (.int d),some (.ref wa),some (.ref kd),some (.ref ya),some (.ref f),some (.ref b),v6,v7])/\ae H H11/\H11 kd=some (.frz o (.dT (bn D)))/\H11 l0=some (.lst Nm)/\aE H10 H11/\H11 rl=some (.lst N3)/\H11 f=some (.dT (bn (inP t cv p (rs.take m) ac)))) {{3},s9.trans Pu,hk10,Pu _ _ hl9,aE.of_same (ae.refl H10),Q6,hf10} (λm σ H11 _ h=>SqL.of h.2.2.2.2.2.1) ?_ ?_}
   .rintro m z σ H11 hm ⟨⟨v6,v7,rfl⟩,RP,QE,RR,t11,Q7,O6⟩;have{r,Py,hz}:=bC Og hm;have{q,u6,0,hq,hu6}:=rk (mN t11 hz);have{ua,0,hua}:=bK hu6;have{r1,r2}:=RB r (AR Py);have hua':H11 ua=some (.tup ((bH (cq t p r)).map kV)):=by rw[lX];show hua
    have hb11:H11 b=some (.tup ((bH t).map kV)):=by rw[lX];show t11 _ _ (Pu _ _ hb)
    have tabm:=(qo (v:=cv) {k1,k2,k3} (λ_=>0) (rs:=rs.take m) (λr hr=>rok r (Ca hr)) Q5).1;show{q,1,SqT.of hq,0,3,2,?_};show{1,f,0,.inr {_,.inl O6},1,_,fJ.t O6 hua',?_};rw[JP];show{1,1,kd,.int cv,0,.inr {bn D,bH t,b,.inr {o,QE},0,hb11,(JQ tab.nd hDm).symm},1,2,.inr (LJ k3 (by lia) (by lia)),2,1,1,f,1,jn.t O6 hua' ?_,?_}
    .rw[w6];show mM (tabm.size d5 hn15)
    .rw[show inP t cv p (rs.take (m+1)) ac=iH (inP t cv p (rs.take m) ac) (cq t p r) (cv*ce t p r) from yF _ _ rs m r Py];rw[w8];show{{3},RP.put Qk,by rw[av fkd.symm];show QE,by rw[av l0f];show RR,t11.trans (LO O6),by rw[av rlf];show Q7,ak}
   .rintro σ H11 ⟨⟨v6,v7,rfl⟩,RP,QE,RR,t11,Q7,O6⟩;rw[N2,AS] at O6;show{{_,3},RP,QE,RR,(t9.trans (aE.of_same Pu)).trans t11,O6}
  .rintro σ H9 ⟨⟨v5,v6,v7,rfl⟩,s9,hk9,hl9,t9,Q4⟩;rw[w6,AS] at Q4;show{1,{f,_,n+cnt x,{_,_,_,3},Q4,tab',QP.symm,?_,Qk},s9,hl9,t9};rw[sum',Ps];simp[bE]
 .rintro σ H6 ⟨⟨kd,D,n,⟨v3,v4,v5,v6,v7,rfl⟩,Qa,tab,hn,Ps,nkd⟩,s6,hl6,t6⟩;show{1,kd,bn D,D.map (·.2),0,.inl Qa,JR D,?_};rw[Nz,List.drop_length] at Ps;have:(D.map (·.2)).sum=tot:=by rw[<-JO,<-Ps];rfl
  rw[this];show kk H6 s6
def yV:OKQ T.X37 P w base 10 spHM:=by
 show FbO T.X37 Jd λ_ _ _ _ H vs Q E hr h=>?_;have{d,dv,ps,0,d1,d5,hd,hs,RC,kk}:=h;show{_,(ai (aX (pcq (L4 T) hr T.X33 (ab (pv 0) (ab (pv 1) af))))
  (aj (am (pcq (L7 T) hr T.X36 (ab (pv 0) (ab (ah dR (pv 1) (pcq (L6 T) hr T.X34 (ab (pv 0) (ab (pv 1) af)))) af)))))),?_}
 have{hM,RC}:=LD RC;have pl:=hM.2;rw[AD] at pl;show{1,1,d,dv,ps,0,d1,d5,hd,hs,λH1 s1=>?_};show{1,1,1,1,d,dv,ps,0,d1,d5,hd.mono s1,hs,4,λl2 H2 s2 n2 h2=>?_};show{_,_,(hd.mono s1).mono s2,h2,AZ (aF (by rw[A1,A1];lia)),λl3 H3 n3 s3 h3=>?_};rw[<-A7] at h3;show{d,.ref l3,1,d1,d5,h3,hM,RC,λH4 s4=>kk H4 (((s1.trans s2).trans s3).trans s4)}
def L8:OKQ T.X32 P w base 1 spWorth:=by
 show FbO T.X32 lC λ_ _ _ _ H vs Q E hr h=>?_;have{dv,ps,d,0,hd,hok,kk}:=h;show{_,(ai (pSA (i:=1) lC.nd ag)
  (ai (aN AL rfl (bh (pv 0)) (pGA (i:=2) lC.nd) (aj (gj (i:=1) lC.nd rfl (by trivial) (ah si (ao aO (pv 2) ag (λ_ _=>rfl)) ag) nD)))
  (aj (am (pv 1))))),?_}
 have{da,Np,0,OF,Oy}:=aD hd;have Qz:Np.length=ps.length:=by rw[Oy.length,A1]
 show{1,da,0,{_,SqL.of OF},bF (xs:=Np) (λi σ H2=>(∃v2,σ=[some (.ref da),some (.int (fU (ps.take i))),v2])/\H2=H) {{none,0},0} (λi σ H2 _ h=>by rw[h.2];show SqL.of OF) ?_ ?_}
 .rintro i x σ H2 hi ⟨⟨v2,rfl⟩,rfl⟩;have{p,NR,hy}:=bC Oy hi;have{_,w1,w2}:=hok p (AR NR);have b1:p.2.2.natAbs<2^64:=by lia
  have b2:p.2.2^(2:Int).toNat<2^64:=by
   change p.2.2^2<2^64;have:p.2.2*p.2.2<=2^20*2^20:=Cc w2 w2 (by lia) (by decide);rw[Int.pow_succ,Int.pow_succ,Int.pow_zero,Int.one_mul];lia
  have b3: -(2^64)<p.2.2^(2:Int).toNat:=by
   change _<p.2.2^2;have h0:0<=p.2.2*p.2.2:=Bn (by lia) (by lia);have h1:p.2.2^2=p.2.2*p.2.2:=by rw[Int.pow_succ,Int.pow_succ,Int.pow_zero,Int.one_mul]
   rw[h1];lia
  show{1,1,_,(2),_,hy,0,0,λu hu=>?_};rw[aB hu];show{2,{5,5,b1},2,.inr {b3,b2},{some x,?_},0};rw[AX,NR];unfold fU;rw[Bz];rfl
 .rintro σ H2 ⟨⟨v2,rfl⟩,rfl⟩;rw[Qz,AS];show{1,kk}
def L9:OKQ T.X38 P w base 12 (spCtF jY):=by
 show FbO T.X38 Je λ_ _ _ _ H vs Q E hr h=>?_;have{d,k,0,hW,kk}:=h;show{_,(ai (aX (pcq (mP T) hr T.X3 (ab (pv 0) (ab (pv 1) af))))
  (aj (am (aS (gy rfl) (by rfl) T.n_sum Dl (ab (dO (XN:=["d","k"]) (sc:=al lE) (N:=["drawing","d"]) (own:=1) (js:=[0]) rfl (by ac_nf) rfl rfl (bh (pcq (yT T) hr T.X31 (ab (pv 0) (ab (pv 1) af)))) (λ_ _ _ _=>(bZ (i:=0) (show List.Nodup (["drawing","d"]:Sk Str) by ac_nf) rfl (Or.inl rfl) (.inr rfl))) (dN (by decide)) (λ_ _ _ _=>df) (λ_ _ _ _=>(ah bo (pcq (L8 T) hr T.X32 (ab (pv 0) af)) (pcq (yV T) hr T.X37 (ab (pv 1) (ab (pv 0) af)))))) af))))),?_}
 have{g1,g4'}:=yq hW;have g4:∀x∈cc d k,gR d x=true/\mkB d x=true:=λx hx=>(g4' x hx).1;have d15:1<=d/\d<=5:=by unfold Wide at hW;lia
 show{1,1,d,k,0,hW,?_};show{1,1,d,k,0,hW,g1,λL l H1 pL s1 nl hl=>?_};have g4:∀x∈L,gR d x=true/\mkB d x=true:=λx hx=>g4 x (pL.mem_iff.mp hx);have g5:L.length<=1000:=by have:=pL.length_eq;have:=g1.2.1;lia
 rw[show jY d k=(L.map (l6 d)).sum from(LW (l6 d) pL).symm] at kk;clear pL;have hl:=hl.mono bM;have{_,Nm,e,NG,NK}:=aD hl;cases e;have Nz:Nm.length=L.length:=by rw[NK.length,A1]
 show{l,0,{_,SqL.of NG},λacc na=>?_};show gx (xs:=Nm) (own:=1) (js:=[0]) (λi H3=>ae H1 H3/\H3 acc=some (.lst (((L.take i).map (l6 d)).map V.int))) {ae.new na,ak} (λi H3 _ h=>SqL.of (h.1 _ _ NG)) ?_ ?_ dP dg ?_
 .rintro i y H3 hi ⟨s3,M'⟩;have{x,hx,hy}:=bC NK hi;have il:i<L.length:=(AF.mp hx).1;have{g41,g42}:=g4 x (AR hx);have{o1,o2,o3,o4,o5}:=xc g41;have PV:=hy.mono s3;show eB ?_;show{1,y,x,d,0,PV,(λp hp=>{trivial,(o2 p hp).2}),1,1,d,y,x,0,d15.1,d15.2,PV,o1,g42,λH4 s4=>?_};show{2,.inl {4,4},acc,2,s4 _ _ M',aF (by rw[A1,A1,Ai];lia),(s3.trans s4).put na,?_};rw[ak,AX,hx,A7,A7];rfl
 .rintro H3 ⟨s3,M'⟩;rw[Nz,AS] at M';show{acc,1,SqL.of M',kk H3 (s1.trans s3)}
 .rintro σ H R R' k' ⟨v1,e1,dv,ps,d',e2,i1,o1,v2,e3,v3,e4,n,dv2,ps2,e5,a1,a2,i2,sn,sb,kk2⟩;show{v1,e1,dv,ps,d',e2,i1,o1,v2,e3,v3,e4,n,dv2,ps2,e5,a1,a2,i2,sn,sb,λH' s'=>let ⟨i,j,x1,x2,x3,x4⟩:=kk2 H' s';{i,j,x1,x2,x3,k' _ _ x4}}
def yW:OKQ T.X6 P w base 2 spIsR:=by
 show FbO T.X6 wg λNu A outer s H vs Q E hr h=>?_;have{v,t,0,hv,{tn,tl,tt},kk}:=h;show{_,(ai (aR (cG (cZ (aS gs (by rfl) T.n_isinstance Co (ab (pv 0) (ab (gi (v:= .ty "list") (by rfl) T.n_list Dm (by rfl)) af))))) (aj (am eX)) aQ)
  (ai (aN AL rfl (bh (pv 0)) (pGA (i:=1) wg.nd) (aj (aR (cS (cG (cZ (pcq (yR T) hr T.X0 (ab (pv 1) af)))) (eY (aP dY (pv 1) ag (aC _)))).pt (aj (am eX)) aQ)))
  (aj (am (Dy (IS (pv 0)) (g9 (dH fH (ao de (pv 0) (fb fe ag) (λ_ _=>rfl)) ag (aC _)))))))),?_}
 have{a,0,ha}:=f' hv;show{1,_,"list",_,true,0,.lst ha,Lx,true,0,aT ?_};show{1,a,0,{_,SqL.of ha},bF (xs:=t.map V.int) (λi σ H2=>(∃v1,σ=[some (.ref a),v1])/\H2=H) {{none,0},0} (λi σ H2 _ h=>by rw[h.2];show SqL.of ha) ?_ ?_}
 .rintro i y σ H2 hi ⟨⟨v1,rfl⟩,rfl⟩;rw[AC] at hi;have{x,hx,0}:=A'.mp hi;have x0:0<=x:=by
   have:=tn i;rw[A5,hx] at this;show this
  show{1,1,.inl {1},true,0,aT {1,2,1,bB (λh=>absurd h (by lia)) (λ_=>{{1},0})}}
 .rintro σ H2 ⟨⟨v1,rfl⟩,rfl⟩;show{1,a,1,SqL.of ha,1,?_};rcases tt with rfl|⟨s,x,rfl,x0⟩
  .show ck kk
  .have e0:((s++[x]).map V.int).isEmpty=false:=by
    cases s<;>rfl
   rw[e0];show aT {1,(1),0,a,_,-1,.int x,0,0,SqL.of ha,?_,2,?_}
   .unfold atI ixN;rw[A1,AD,A6 (by decide),A8 (by simp;lia)];change((s++[x]).map V.int)[((-1:Int)+((s.length+1:Nat):Int)).toNat]? =_;rw[show((-1:Int)+((s.length+1:Nat):Int)).toNat=s.length by lia,AC,BF (AB _),Nat.sub_self];rfl
   .change Q (.bl (decide (0<x))) H2;rw[Ay x0];show kk
def yX{t:Sk Int}{x:Int}(h:t[i]? =some x):((List.range (i+1)).map λj:Nat=>((j:Int)+1)*t.getD j 0)=((List.range i).map λj:Nat=>((j:Int)+1)*t.getD j 0)++[((i:Int)+1)*x]:=by
 rw[Aw,A7,AK,Dd,A5,h];rfl
def yY(t:Sk Int):((List.range t.length).map λj:Nat=>((j:Int)+1)*t.getD j 0).sum=wtF t:=by
 have go:∀(t:Sk Int) (i:Int),((List.range t.length).map λj:Nat=>((j:Int)+i)*t.getD j 0).sum=wtG i t:=λt=>by
  induction t with
  |nil=>intro i;rfl
  |cons x t ih=>
   intro i;rw[Af,List.range_succ_eq_map,AK,BN,Ab];unfold wtG;rw[<-ih (i+1)];congr 1
   .simp
   .show BB List.sum (BA λj _=>?_);change(((j+1:Nat):Int)+i)*t.getD j 0=_;rw[show((j+1:Nat):Int)+i=(j:Int)+(i+1) by lia]
 show go t 1
def yZ:OKQ T.X7 P w base 1 spRwL:=by
 show FbO T.X7 wj λ_ _ _ _ H vs Q E hr h=>?_;have{v,t,0,hv,tl,kk}:=h;show{_,(aj (am (aS (gy rfl) (by rfl) T.n_sum Dl (ab (dO (XN:=["row"]) (sc:=al jH) (N:=["place","number"]) (own:=2) (js:=[]) rfl (by ac_nf) rfl rfl (ie (by rfl) T.n_enumerate (pv 0)) (λ_ _ _ _=>(nC (K:=K) rfl rfl (aL (bZ (i:=0) (show List.Nodup (["place","number"]:Sk Str) by ac_nf) rfl (Or.inl rfl) (.inr rfl)) (aL (bZ (i:=1) (show List.Nodup (["place","number"]:Sk Str) by ac_nf) rfl (Or.inl rfl) (.inr rfl)) bJ)))) nA (λ_ _ _ _=>df) (λ_ _ _ _=>(ah bo (ah aH (pv 0) ag) (pv 1)))) af)))),?_};have{a,0,ha}:=f' hv;show{1,a,0,{_,SqL.of ha},λacc na=>?_};show IH (xs:=t.map V.int) (own:=2) (js:=[]) (λi H2=>ae H H2/\H2 acc=some (.lst (((List.range i).map λj:Nat=>((j:Int)+1)*t.getD j 0).map V.int))) {ae.new na,ak} (λi H2 _ h=>SqL.of (h.1 _ _ ha)) ?_ ?_ nB dg ?_
 .rintro i y H2 p hi ⟨s2,M'⟩ np;rw[AC] at hi;have{x,hx,0}:=A'.mp hi;have il:i<t.length:=(AF.mp hx).1;have s3:ae H2 (upd H2 p (.tup [.int i,.int x])):=ae.new np;show{p,1,SqT.of ak,0,3,2,?_};show{1,2,1,2,.inl {4,4},acc,2,s3 _ _ M',aF (by rw[A1,A1,Bl];lia),(s2.trans s3).put na,?_};rw[ak,yX hx,A7];rfl
 .rintro H2 ⟨s2,M'⟩;rw[A1] at M';show{acc,1,SqL.of M',?_};rw[yY];show kk H2 s2
 .rintro σ H R R' k ⟨v1,e1,i1,i2,e2,e3,v2,e4,i3,i4,e5,e6,c,h⟩;show{v1,e1,i1,i2,e2,e3,v2,e4,i3,i4,e5,e6,c,k _ _ h}
def y3:OKQ T.X7 P w base 1 spRwT:=by
 show FbO T.X7 wj λ_ _ _ _ H vs Q E hr h=>?_;have{v,t,0,hv,tl,kk}:=h;show{_,(aj (am (aS (gy rfl) (by rfl) T.n_sum Dl (ab (dO (XN:=["row"]) (sc:=al jH) (N:=["place","number"]) (own:=2) (js:=[]) rfl (by ac_nf) rfl rfl (ou (by rfl) T.n_enumerate (pv 0)) (λ_ _ _ _=>(nC (K:=K) rfl rfl (aL (bZ (i:=0) (show List.Nodup (["place","number"]:Sk Str) by ac_nf) rfl (Or.inl rfl) (.inr rfl)) (aL (bZ (i:=1) (show List.Nodup (["place","number"]:Sk Str) by ac_nf) rfl (Or.inl rfl) (.inr rfl)) bJ)))) nA (λ_ _ _ _=>df) (λ_ _ _ _=>(ah bo (ah aH (pv 0) ag) (pv 1)))) af)))),?_};have{a,0,ha}:=bK hv;show{1,a,0,{_,SqT.of ha},λacc na=>?_};show IG (xs:=t.map V.int) (own:=2) (js:=[]) (λi H2=>ae H H2/\H2 acc=some (.lst (((List.range i).map λj:Nat=>((j:Int)+1)*t.getD j 0).map V.int))) {ae.new na,ak} (λi H2 _ h=>SqT.of (h.1 _ _ ha)) ?_ ?_ nB dg ?_
 .rintro i y H2 p hi ⟨s2,M'⟩ np;rw[AC] at hi;have{x,hx,0}:=A'.mp hi;have il:i<t.length:=(AF.mp hx).1;have s3:ae H2 (upd H2 p (.tup [.int i,.int x])):=ae.new np;show{p,1,SqT.of ak,0,3,2,?_};show{1,2,1,2,.inl {4,4},acc,2,s3 _ _ M',aF (by rw[A1,A1,Bl];lia),(s2.trans s3).put na,?_};rw[ak,yX hx,A7];rfl
 .rintro H2 ⟨s2,M'⟩;rw[A1] at M';show{acc,1,SqL.of M',?_};rw[yY];show kk H2 s2
 .rintro σ H R R' k ⟨v1,e1,i1,i2,e2,e3,v2,e4,i3,i4,e5,e6,c,h⟩;show{v1,e1,i1,i2,e2,e3,v2,e4,i3,i4,e5,e6,c,k _ _ h}
def L':OKQ T.X8 P w base 3 spNeR:=by
 show FbO T.X8 IY λ_ _ _ _ H vs Q E hr h=>?_;have{d,v1,v2,a,b,0,h1,h2,r1,r2,e,kk}:=h;show{_,(ai (aR (cS (cG (cZ (pcq (yW T) hr T.X6 (ab (pv 1) af)))) (eY (cG (cZ (pcq (yW T) hr T.X6 (ab (pv 2) af)))))).pt (aj kA) aQ)
  (aj (aR (aP sv (ah aH (pcq (yZ T) hr T.X7 (ab (pv 1) af)) (pcq (yZ T) hr T.X7 (ab (pv 2) af))) (pv 0) (aC _)) (aj kA) aQ))),?_}
 show{1,v1,a,0,h1,r1,true,0,aT {1,v2,b,0,h2,r2,true,0,aT ?_}};show{1,v1,a,0,h1,r1.2.1,λH1 s1=>{1,v2,b,0,h2.mono s1,r2.2.1,λH2 s2=>?_}};show{2,1,0,1,tM (λhz=>absurd e hz) λ_=>kk H2 (s1.trans s2)}
def Ma:OKQ T.X13 P w base 1 spPrd:=by
 show FbO T.X13 lu λ_ _ _ _ H vs Q E hr h=>?_;have{v,ws,0,hv,hw,kk}:=h;show{_,(ai (pSA (i:=1) lu.nd ag)
  (ai (aN AL rfl (bh (pv 0)) (pGA (i:=2) lu.nd) (aj (gj (i:=1) lu.nd rfl (by trivial) (pv 2) nD)))
  (aj (am (pv 1))))),?_}
 have{a,0,ha}:=f' hv;show{1,a,0,{_,SqL.of ha},bF (xs:=ws.map V.int) (λi σ H2=>(∃v2,σ=[some (.ref a),some (.int (cg (ws.take i))),v2])/\H2=H) {{none,0},0} (λi σ H2 _ h=>by rw[h.2];show SqL.of ha) ?_ ?_}
 .rintro i y σ H2 hi ⟨⟨v2,rfl⟩,rfl⟩;rw[AC] at hi;have{x,hx,0}:=A'.mp hi;have{x1,x5}:=hw x (AR hx);show{1,1,2,.inr {4,4},{some (.int x),?_},0};have e:cg (ws.take (i+1))=cg (ws.take i)*x:=by
   rw[AX,hx];unfold cg;rw[Bz];rfl
  rw[e];rfl
 .rintro σ H2 ⟨⟨v2,rfl⟩,rfl⟩;rw[A1,AS];show{1,kk}
def y4:OKQ T.X14 P w base 1 spFil:=by
 show FbO T.X14 I0 λ_ _ _ _ H vs Q E hr h=>?_;have{v,t,n,0,hv,tn,n5,kk}:=h;show{_,(aj (am (c9 fK (by rfl) T.n_tuple DX (ab (ah dR (pv 0) (ah gD (bd (ab ag af)) (ah aI (pv 1) (aS dw (by rfl) T.n_len CZ (ab (pv 0) af))))) af)))),?_};have{a,0,ha}:=f' hv;show{1,(zB rfl),λl1 H1 n1 s1 h1=>?_};show{1,1,a,1,.inl (SqL.of (s1 _ _ ha)),2,.i 0,_,aA h1 (ap bj ax),0,?_,?_,?_,λl2 H2 n2 s2 h2=>?_}
 .rw[A1];lia
 .rw[A1];lia
 .show AZ (aF (by rw[A1];lia))
 show{_,_,hv.mono (s1.trans s2),h2,AZ (aF (by rw[A1,Ah,A1];lia)),λl3 H3 n3 s3 h3=>?_};show{3,h3,λl4 H4 n4 s4 h4=>kk _ H4 (((s1.trans s2).trans s3).trans s4) ?_};have e:t.map D.i++List.replicate (((n:Int))-(((t.map V.int).length:Nat):Int)).toNat (D.i 0)=(bU n t).map D.i:=by
  unfold bU;rw[A1,A7,CM,show((n:Int)-(t.length:Int)).toNat=n-t.length by lia]
 rw[e] at h4;show h4
def Mb:OKQ T.X15 P w base 1 spRwn:=by
 show FbO T.X15 ix λ_ _ _ _ H vs Q E hr h=>?_;have{v,t,0,hv,tn,ts,tl,kk}:=h;show{_,(ai (pSA (i:=1) ix.nd (bd (ab (bv af) af)))
  (ai (aN AL rfl (rZ (pv 0)) (pGA (i:=2) ix.nd) (ai (pSA (i:=3) ix.nd (bd af))
  (ai (aN AL rfl (bh (pv 1)) (pGA (i:=4) ix.nd) (aj (aX (cy Ad CH CG jf (pv 3) (ab (dO (XN:=["row","found","number","longer","begun"]) (sc:=al lv) (N:=["here","begun"]) (own:=1) (js:=[4]) rfl (by ac_nf) rfl rfl (eZ (by rfl) T.n_range (ab (ah aH (pv 2) ag) af)) (λ_ _ _ _=>(bZ (i:=0) (show List.Nodup (["here","begun"]:Sk Str) by ac_nf) rfl (Or.inl rfl) (.inr rfl))) (dN (by decide)) (λ_ _ _ _=>df) (λ_ _ _ _=>(ah nY (pv 1) (bv (ab (pv 0) af))))) af)))))
  (aj (pSA (i:=1) ix.nd (pv 3))))))
  (aj (am (pv 1))))),?_}
 have{a,0,ha}:=bK hv;show{AW _,λe0 H1 ne0 s1 he0=>{(zB rfl),λf0 H2 nf0 s2 hf0=>?_}};have O3:=s1.trans s2;show{1,a,0,{_,SqT.of (O3 _ _ ha)},r6 (xs:=t.map V.int) (λi σ H3=>(E4 λfo v2 v3 v4=>σ=[some (.ref a),some (.ref fo),v2,v3,v4]/\H fo=none/\Is H3 (.l ((rwF (t.take i)).map tI)) (.ref fo))/\ae H H3) {{f0,none,none,none,0,s1.free nf0,aA hf0 (ap (eD (xs:=[]) (s2 _ _ he0)) ax)},O3} (λi σ H3 _ h=>SqT.of (h.2 _ _ ha)) ?_ ?_}
 .rintro i y σ H3 hi ⟨⟨fo,v2,v3,v4,rfl,Oh,Oa⟩,s3⟩;rw[AC] at hi;have{x,hx,0}:=A'.mp hi;have il:i<t.length:=(AF.mp hx).1;have x0:0<=x:=by
   have:=tn i;rw[A5,hx] at this;show this
  have nx:rwF (t.take (i+1))=rwS (rwF (t.take i)) x:=by
   rw[AX,hx];unfold rwF;rw[Bz];rfl
  have big:(rwS (rwF (t.take i)) x).length<=32:=by rw[<-nx];show qt tn ts (i+1)
  have hFl:∀b∈rwF (t.take i),b.length<=5:=λb hb=>by
   have:=(qr (JW tn i) hb).len;rw[Ai] at this;lia
  rw[nx];generalize rwF (t.take i)=F at Oa big hFl;have{_,fvs,e,Ni,hfi}:=aD Oa;cases e;have flen:fvs.length=F.length:=by rw[hfi.length,A1]
  show{AW _,λlo H4 nlo s4 hlo=>?_};have nloH:H lo=none:=s3.free nlo;have fl:fo≠lo:=by rintro rfl;rw[Ni] at nlo;cases nlo
  have part:∀j,(rwS (F.take j) x).length<=32:=λj=>by
   rw[xf] at big⊢;show BG (Nat.mul_le_mul_right _ ?_) big;rw[Ai];lia
  show{1,fo,0,{_,SqL.of (s4 _ _ Ni)},bF (xs:=fvs) (λj σ H5=>(∃v4,σ=[some (.ref a),some (.ref fo),some (.int x),some (.ref lo),v4])/\ae H H5/\H5 fo=some (.lst fvs)/\aE H4 H5/\∃Nm,H5 lo=some (.lst Nm)/\Iss H5 ((rwS (F.take j) x).map tI) Nm) {{1},s3.trans s4,s4 _ _ Ni,aE.of_same (ae.refl _),[],hlo,ax} (λj σ H5 _ h=>SqL.of h.2.2.1) ?_ ?_}
  .rintro j b σ H5 hj ⟨⟨v4,rfl⟩,s5,Ny,t5,Nm,QF,PB⟩;have{bb,hbb,hb}:=bC hfi hj;have hb5:Is H5 (tI bb) b:=gd t5 (hb.mono s4);have nx2:rwS (F.take (j+1)) x=rwS (F.take j) x++(List.range (x+1).toNat).map λh:Nat=>bb++[(h:Int)]:=by
    unfold rwS;rw[AX,hbb,BH];simp
   have pj:=part (j+1);rw[nx2] at pj⊢;rw[AD,A1,Bl] at pj;have ll:Nm.length=(rwS (F.take j) x).length:=by rw[PB.length,A1]
   generalize rwS (F.take j) x=R at PB pj ll;show{1,.inl {0,_,SqL.of QF},1,2,1,4,4,λacc na=>?_};have naH:H acc=none:=s5.free na;show jq (lo:=0) (n:=(x+1).toNat) (own:=1) (js:=[4]) (λm H6=>ae H5 H6/\∃zs,H6 acc=some (.lst zs)/\Iss H6 (((List.range m).map λh:Nat=>bb++[(h:Int)]).map tI) zs) {ae.new na,[],ak,ax} ?_ ?_ dP dg ?_
   .rintro m H6 hm ⟨s6,zs,M',hz⟩;rw[D3];show{1,1,(zB rfl),λq H7 nq s7 hq=>?_};have Pz:=s6.trans s7;show{bb.map .i,[.i (m:Int)],hb5.mono Pz,bt hq (ap bj ax),AZ (aF (by have:=hFl bb (AR hbb);rw[A1];change _+1<=1000;lia)),λu H8 s8 hu=>?_};have Q8:=s8 _ _ (s7 _ _ M');have zl:zs.length=m:=by rw[hz.length,A1,A1,Bl]
    show{acc,zs,1,0,Q8,aF (by lia),(Pz.trans s8).put na,_,ak,?_};have tu:aE H8 (upd H8 acc (.lst (zs++[u]))):=aE.upd Q8;rw[Aw,A7,A7];show(i5 tu ((hz.mono s7).mono s8)).append (ap (gd tu ?_) ax);change Is H8 (.t ((bb++[(m:Int)]).map .i)) u;rw[A7];show hu
   .rintro H6 ⟨s6,zs,M',hz⟩;have zl:zs.length=(x+1).toNat:=by rw[hz.length,A1,A1,Bl]
    have O4:=s6 _ _ QF;show{lo,acc,Nm,zs,0,0,O4,M',AZ (aF (by lia)),{1},(s5.trans s6).put nloH,by rw[av fl];show s6 _ _ Ny,(t5.trans (aE.of_same s6)).trans (aE.upd O4),_,ak,?_};have tu:aE H6 (upd H6 lo (.lst (Nm++zs))):=aE.upd O4;rw[A7];show(i5 tu (PB.mono s6)).append (i5 tu hz)
   .rintro σ H R R' k ⟨v1,e1,v2,e2,e3,h⟩;show{v1,e1,v2,e2,e3,λq H7 nq s7 hq=>?_};have{xs,ys,a1,a2,a3,a4}:=h q H7 nq s7 hq;show{xs,ys,a1,a2,a3,λu H8 s8 hu=>k _ _ (a4 u H8 s8 hu)}
  .rintro σ H5 ⟨⟨v4,rfl⟩,s5,Ny,t5,Nm,QF,PB⟩;rw[flen,AS] at PB;show{1,{lo,_,3,nloH,aA QF PB},s5}
 .rintro σ H3 ⟨⟨fo,v2,v3,v4,rfl,Oh,Oa⟩,s3⟩;rw[A1,AS] at Oa;show{1,kk fo H3 s3 Oh Oa}
def Mc{t:Sk Int}(h:p<t.length):atI (t.map D.i) (p:Int)=some (.i (t.getD p 0)):=by
 show gF (j:=p) rfl ?_;rw[AC,A2 h,A5,A2 h];rfl
def Md{D M:Int}(hM:(if D<(L:Int) then D else(L:Int))=M)(hl:L<=5)(hD: -2000<=D):M<=5/\-2000<=M/\(M-(fi:Int)).toNat=min L D.toNat-fi:=by
 subst hM;split<;>lia
def Me{D:Int}(hi:i<min L D.toNat-fi)(hl:L<=5)(hm:D.toNat+1<=n+1):fi+i<L/\(D-(1+((fi+i:Nat):Int))).toNat+1<=n/\fi+i<=5/\1+((fi+i:Nat):Int)<=D:=by lia
theorem y6:∀n:Nat,FnOk P w K mg base CX0 (n+2) T.f16 T.d16 ["row","weight","first"] (spRby n K)
 |0=>{λvs H Q E h=>(by have{_,_,_,_,_,_,_,_,h,_}:=h;lia),λA outer s H args us vs Q E _ _ _ _ h=>(by have{_,_,_,_,_,_,_,_,h,_}:=h;lia)}
 |n+1=>by
  have ih:=y6 n;show T.X16.F.ok lw (λvs H Q E h=>?_) (λNu A outer s H vs Q E hr h=>?_)
  .have{_,_,_,_,0,_}:=h;rfl
  .have{v,t,wt,fi,0,hv,tn,tl,hm,n8,b1,b2,b3,b4,f5,kk}:=h;show{_,(ai (pSA (i:=3) lw.nd (ah aI (pv 1) (pcq (y3 T) hr T.X7 (ab (pv 0) af) (by lia))))
   (ai (aR (aP bQ (pv 3) ag (aC _)) (aj (am (bd (ab (pv 0) af)))) aQ)
   (ai (pSA (i:=4) lw.nd (bd af))
   (ai (aN AL rfl (gm (by rfl) T.n_range (ab (pv 2) (ab (aS (sI rfl) (by rfl) T.n_min boot_min (ab (aS nz (by rfl) T.n_len CZ (ab (pv 0) af)) (ab (pv 3) af))) af))) (pGA (i:=5) lw.nd) (aj (aX (cy Ad CH CG jf (pv 4) (ab (ee ih hr (by rfl) T.X16.m T.X16.F.kp T.X16.B .nil dM (ab (pcq (kr T) hr T.X12 (ab (pv 0) (ab (pv 5) (ab ag af))) (by lia)) (ab (pv 1) (ab (pv 5) af)))) af)))))
   (aj (am (pv 4))))))),?_}
   show{1,1,v,t,0,hv,tl,λH1 s1=>{2,?_}};unfold rbF at kk;show{1,0,1,bW (λe=>?_) (λe=>?_)}
   .rw[A8 (show wt-wtF t=0 by lia)] at kk;show{1,(zB rfl),λl H2 nl s2 hl=>?_};show kk l H2 (s1.trans s2) (s1.free nl) (aA hl (ap (hv.mono (s1.trans s2)) ax))
   .have e:¬wt-wtF t=0:=by lia
    rw[A6 e] at kk;show{AW _,λfo H2 Oh s2 Oa=>?_};have O3:=s1.trans s2;have nfoH:H fo=none:=s1.free Oh;show{1,1,3,.inr (hv.mono O3),1,3,?_};generalize hM:(if wt-wtF t<(((t.map D.i).length:Nat):Int) then wt-wtF t else(((t.map D.i).length:Nat):Int))=M;rw[A1] at hM;have eM:=Md (fi:=fi) hM tl (by lia);show{3,{4,4,4,4},?_};rw[eM.2.2];have len5:∀i,i<=5->((List.range i).flatMap λj=>rbF n (wmF t (fi+j) 1) wt (fi+j)).length<=i*5^n:=by
     intro i;induction i with
     |zero=>intro _;show AW _
     |succ i ih2=>
      intro hi;rw[Aw,BH,AD,Cf,Bm,List.flatMap_nil,BR];have:=ih2 (by lia);have:=qu (n:=n) (wt:=wt) (row:=wmF t (fi+i) 1) (first:=fi+i) (by rw[dB];show tl);lia
    have p5:5^n<=5^7:=Bu (by decide) (by lia);show dG (lo:=(fi:Int)) (n:=min t.length (wt-wtF t).toNat-fi) (λi σ H3=>(∃v5,σ=[some v,some (.int wt),some (.int fi),some (.int (wt-wtF t)),some (.ref fo),v5])/\ae H H3/\∃zs,H3 fo=some (.lst zs)/\Iss H3 (((List.range i).flatMap λj=>rbF n (wmF t (fi+j) 1) wt (fi+j)).map tI) zs) {{none,0},O3,[],Oa,ax} ?_ ?_
    .rintro i σ H3 hi ⟨⟨v5,rfl⟩,s3,zs,Ni,hz⟩;have{hp,q1,q2,q3}:=Me hi tl hm;have ew:wtF (wmF t (fi+i) 1)=wtF t+(1+((fi+i:Nat):Int)):=by rw[<-Int.mul_one (1+((fi+i:Nat):Int))];show jW hp
     have ed:wt-(wtF t+(1+((fi+i:Nat):Int)))=wt-wtF t-(1+((fi+i:Nat):Int)):=by rw[Int.sub_sub]
     rw[show(fi:Int)+(i:Int)=((fi+i:Nat):Int) by lia];show{1,.inl {0,_,SqL.of Ni},1,1,v,t,fi+i,(1),0,hv.mono s3,hp,tl,λu H4 s4 hu=>?_};show{1,1,u,wmF t (fi+i) 1,wt,fi+i,0,hu,iL hp tn (by have:=tn (fi+i);lia),by rw[dB];show tl,by rw[ew,ed];show q1,4,b1,b2,by rw[ew];clear ew ed;lia,by rw[ew];clear ew ed;lia,q2,λrl H5 s5 OS Pj=>?_};have{_,N3,e,O5,Og}:=aD Pj;cases e;have O7:=s4.trans s5;have Ny:=O7 _ _ Ni;have l1:=len5 (i+1) (by lia);have nx:((List.range (i+1)).flatMap λj=>rbF n (wmF t (fi+j) 1) wt (fi+j))=((List.range i).flatMap λj=>rbF n (wmF t (fi+j) 1) wt (fi+j))++rbF n (wmF t (fi+i) 1) wt (fi+i):=by
      rw[Aw,BH,Bm,List.flatMap_nil,BR]
     rw[nx] at l1⊢;rw[AD] at l1;have l5:(i+1)*5^n<=5*5^7:=D2 (by lia) p5;have d5:5*5^7=390625:=by decide
     have zl:=hz.length;have rl':=Og.length;rw[A1] at zl rl';generalize ((List.range i).flatMap λj=>rbF n (wmF t (fi+j) 1) wt (fi+j))=R at hz l1 zl;generalize rbF n (wmF t (fi+i) 1) wt (fi+i)=R2 at Og l1 rl';show{fo,rl,zs,N3,0,0,Ny,O5,AZ (mM (by clear ew ed q1 q3 hp hi eM hm b1 b2 b3 b4;lia)),{1},(s3.trans O7).put nfoH,_,ak,?_};have tu:aE H5 (upd H5 fo (.lst (zs++N3))):=aE.upd Ny;rw[A7];show(i5 tu (hz.mono O7)).append (i5 tu Og)
    .rintro σ H3 ⟨⟨v5,rfl⟩,s3,zs,Ni,hz⟩;show{1,kk fo H3 s3 nfoH (aA Ni hz)}
def Mf{a:Sk Int}(h:Le a b):∀{i:Nat}{x y:Int},b[i]? =some x->a[i]? =some y->cC (b.take (i+1)) (a.take (i+1))=cC (b.take i) (a.take i)*chF x y.toNat:=by
 induction a generalizing b with
 |nil=>intro i x y _ hy;simp at hy
 |cons z a ih=>
  cases b with
  |nil=>show h.elim
  |cons u b=>
   intro i x y hx hy;cases i with
   |zero=>
    have e1:u=x:=by simpa using hx
    have e2:z=y:=by simpa using hy
    subst e1 e2;simp[cC]
   |succ i=>
    rw[BS,BS,BS,BS];change chF u z.toNat*cC (b.take (i+1)) (a.take (i+1))=chF u z.toNat*cC (b.take i) (a.take i)*_;rw[ih h.2.2 (by simpa using hx) (by simpa using hy),Int.mul_assoc]
def y7{a:Sk Int}(h:Le a b):∀{i:Nat}{x y:Int},b[i]? =some x->a[i]? =some y->0<=y/\y<=x:=by
 induction a generalizing b with
 |nil=>intro i x y _ hy;simp at hy
 |cons z a ih=>
  cases b with
  |nil=>show h.elim
  |cons u b=>
   intro i x y hx hy;cases i with
   |zero=>
    have e1:u=x:=by simpa using hx
    have e2:z=y:=by simpa using hy
    subst e1 e2;show{h.1,h.2.1}
   |succ i=>show ih h.2.2 (by simpa using hx) (by simpa using hy)
def y8{x:Int}(h:Nn b)(hx:b[i]? =some x):x<=b.sum:=by
 induction b generalizing i with
 |nil=>simp at hx
 |cons y b ih=>
  have{p,q}:=Nn.cons.mp h;have s0:=(dD (i:=1) (by decide) q).1;rw[Ab];cases i with
  |zero=>
   have e1:y=x:=by simpa using hx
   lia
  |succ i=>
   have:=ih q (by simpa using hx);lia
def y9:OKQ T.X17 P w base 2 spChs:=by
 show FbO T.X17 jJ λ_ _ _ _ H vs Q E hr h=>?_;have{v1,v2,b,a,0,OG,Pl,le,bs,kk}:=h;show{_,(ai (pSA (i:=2) jJ.nd ag)
  (ai (aN AL rfl (IP (by rfl) T.n_zip (ab (pv 0) (ab (pv 1) af))) (bV rfl (aL (pGA (i:=3) jJ.nd) (aL (pGA (i:=4) jJ.nd) bJ))) (aj (gj (i:=2) jJ.nd rfl (by trivial) (pcq (rC T) hr T.X5 (ab (pv 3) (ab (pv 4) af))) nD)))
  (aj (am (pv 2))))),?_}
 have{ba,0,hb}:=bK OG;have{aa,0,ha}:=bK Pl;have ll:=le.len;show{1,1,ba,aa,0,{_,SqT.of hb},{_,SqT.of ha},IQ (xs:=b.map V.int) (ys:=a.map V.int) (by rw[A1,A1,ll]) (λi σ H2=>(E2 λv3 v4=>σ=[some (.ref ba),some (.ref aa),some (.int (cC (b.take i) (a.take i))),v3,v4])/\ae H H2) {{none,none,0},ae.refl _} (λi σ H2 _ h=>{SqT.of (h.2 _ _ hb),SqT.of (h.2 _ _ ha)}) ?_ ?_}
 .rintro i x y σ H2 p hx hy ⟨⟨v3,v4,rfl⟩,s2⟩ np;rw[AC] at hx hy;have{x,hx1,0}:=A'.mp hx;have{y,hy1,0}:=A'.mp hy;have hx:=hx1;have hy:=hy1;have{y0,yx}:=y7 le hx hy;have x5:=y8 (Le.nn le).2 hx;have s3:ae H2 (upd H2 p (.tup [.int x,.int y])):=ae.new np;show{p,1,SqT.of ak,0,3,2,?_};have{c0,c1}:=xk y0 yx (by lia);have c2:(2:Int)^x.toNat<=2^5:=by
   have:x.toNat=0\/x.toNat=1\/x.toNat=2\/x.toNat=3\/x.toNat=4\/x.toNat=5:=by lia
   rcases this with e|e|e|e|e|e<;>rw[e]<;>decide
  have d5:(2:Int)^5=32:=by decide
  show{1,1,1,x,y.toNat,?_,4,4,?_}
  .change [V.int x,V.int y]=[V.int x,V.int ((y.toNat:Nat):Int)];rw[show((y.toNat:Nat):Int)=y by lia]
  show{2,.inr {4,4},{some (.int x),some (.int y),?_},s2.trans s3};rw[Mf le hx hy];rfl
 .rintro σ H2 ⟨⟨v3,v4,rfl⟩,s2⟩;rw[A1,AS,<-ll,AS];show{1,kk H2 s2}
theorem zc:∀{a b:Sk Int},Le a b->∀{k:Int}{i:Nat}{x y:Int},a[i]? =some x->b[i]? =some y->wgG k (a.take (i+1)) (b.take (i+1))=wgG k (a.take i) (b.take i)++List.replicate (y-x).toNat (k+i)
 |[],_,_,k,i,x,y,hx,_=>by simp at hx
 |z::a,[],h,_,_,_,_,_,_=>h.elim
 |z::a,u::b,h,k,i,x,y,hx,hy=>by
  cases i with
  |zero=>
   have e1:z=x:=by simpa using hx
   have e2:u=y:=by simpa using hy
   subst e1 e2;simp[wgG]
  |succ i=>
   rw[BS,BS,BS,BS];change _++wgG (k+1) (a.take (i+1)) (b.take (i+1))=_++wgG (k+1) (a.take i) (b.take i)++_;rw[zc h.2.2 (by simpa using hx) (by simpa using hy),B8,show k+1+(i:Int)=k+((i+1:Nat):Int) by lia]
theorem rD:∀{a b:Sk Int} (i:Nat),Le a b->Le (a.take i) (b.take i)
 |[],[],i,_=>by rw[List.take_nil];show trivial
 |x::a,y::b,0,_=>trivial
 |x::a,y::b,i+1,h=>{h.1,h.2.1,rD i h.2.2}
def Mg:OKQ T.X18 P w base 1 spWgn:=by
 show FbO T.X18 lx λ_ _ _ _ H vs Q E hr h=>?_;have{v1,v2,f,fr,0,OG,Pl,le,fl5,fs5,kk}:=h;show{_,(ai (pSA (i:=2) lx.nd (bd af))
  (ai (aN AL rfl (ou (by rfl) T.n_enumerate (pv 0)) (bV rfl (aL (pGA (i:=3) lx.nd) (aL (pGA (i:=4) lx.nd) bJ))) (aj (aX (cy Ad CH CG jf (pv 2) (ab (ah gD (bd (ab (ah aH (pv 3) ag) af)) (ah aI (ao aO (pv 1) (pv 3) (λ_ _=>rfl)) (pv 4))) af)))))
  (aj (am (pv 2))))),?_}
 have{fa,0,hf}:=bK OG;have ll:=le.len;show{AW _,λfo H1 Oh s1 Oa=>?_};show{1,fa,0,{_,SqT.of (s1 _ _ hf)},wd (xs:=f.map V.int) (λi σ H2=>(E2 λv3 v4=>σ=[some (.ref fa),some v2,some (.ref fo),v3,v4])/\ae H H2/\H2 fo=some (.lst ((wgG 1 (f.take i) (fr.take i)).map V.int))) {{none,none,0},s1,Oa} (λi σ H2 _ h=>SqT.of (h.2.1 _ _ hf)) ?_ ?_}
 .rintro i y σ H2 p hi ⟨⟨v3,v4,rfl⟩,s2,NT⟩ np;rw[AC] at hi;have{x,hx,0}:=A'.mp hi;have il:i<f.length:=(AF.mp hx).1;have s3:ae H2 (upd H2 p (.tup [.int i,.int x])):=ae.new np;have hy:fr[i]? =some (fr.getD i 0):=by
   rw[A5,A2 (by lia)];rfl
  have{x0,xy}:=y7 le hy hx;have y5:=y8 (Le.nn le).2 hy;have lb:(wgG 1 (f.take i) (fr.take i)).length<=1000:=by
   have l1:=rp (k:=1) (rD i le);have l2:=(dD (i:=1) (by decide) (Le.nn (rD i le)).1).1;have l3:(fr.take i).sum<=fr.sum:=by
    have e:(fr.take i).sum+(fr.drop i).sum=fr.sum:=by rw[<-BQ,Br]
    have nd:Nn (fr.drop i):=λj=>by
     rw[A5,List.getElem?_drop];have:=(Le.nn le).2 (i+j);rwa [A5] at this
    have:=(dD (i:=1) (by decide) nd).1;lia
   lia
  show{p,1,SqT.of ak,0,3,2,?_};have Ni:=s3 _ _ NT;have NB:=s2.trans s3;generalize upd H2 p (.tup [.int i,.int x])=H3 at s3 Ni NB;show{1,.inl {0,_,SqL.of Ni},1,2,(zB rfl),λl1 H4 n1 s4 h1=>?_};show{1,1,fr.map .i,(i:Int),_,(Pl.mono NB).mono s4,0,Mc (by lia),λu hu=>?_};rw[aB hu];show{1,2,.i ((i:Int)+1),_,aA h1 (ap bj ax),0,4,4,AZ (aF (by lia)),λl2 H5 n2 s5 h2=>?_};rw[<-CM] at h2;have{_,e,Nk}:=f' h2;cases e;have Ny:=s5 _ _ (s4 _ _ Ni);show{fo,l2,2,Ny,Nk,AZ (mM (by rw[A1,A1,Ah];lia)),{3},((NB.trans s4).trans s5).put Oh,?_};rw[ak,zc le hx hy,A7,Int.add_comm 1 (i:Int)]
 .rintro σ H2 ⟨⟨v3,v4,rfl⟩,s2,NT⟩;rw[A1,AS,ll,AS] at NT;show{1,kk fo H2 s2 Oh (kh NT)}
def Mh:OKQ T.X19 P w base 2 (spOne gS):=by
 show FbO T.X19 jK λ_ _ _ _ H vs Q E hr h=>?_;have{v1,v2,q,L,0,OG,Pl,aq,d2,kk}:=h;show{_,(ai (pSA (i:=4) jK.nd (bd af))
  (ai (aN AL rfl (ou (by rfl) T.n_enumerate (pv 3)) (bV rfl (aL (pGA (i:=5) jK.nd) (aL (pGA (i:=6) jK.nd) bJ))) (aj (aR (aP fH (pv 6) ag (aC _)) (ai (pSA (i:=7) jK.nd (bv (ab (pv 0) (ab (pv 1) (ab (pcq (kr T) hr T.X12 (ab (pv 2) (ab (pv 5) (ab ag af)))) (ab (pcq (kr T) hr T.X12 (ab (pv 3) (ab (pv 5) (ab (fb fe ag) af)))) af))))))
  (aj (aX (cy Ad BD BC dJ (pv 4) (ab (bv (ab ag (ab (bd (ab (ah aH (pv 5) ag) af)) (ab (pv 7) af)))) af))))) aQ)))
  (aj (am (pv 4))))),?_}
 have{fa,0,hf}:=bK Pl;have hl:=aq.hl;have fl:=aq.fl;have L5:=aq.L5;show{AW _,λfo H1 Oh s1 Oa=>?_};show{1,fa,0,{_,SqT.of (s1 _ _ hf)},wd (xs:=q.f.map V.int) (λi σ H2=>(E3 λv5 v6 v7=>σ=[some (.int q.d),some (.int q.k),some v1,some (.ref fa),some (.ref fo),v5,v6,v7])/\ae H H2/\Acc H H2 fo (((List.range i).flatMap (dC q)).map smD)/\((List.range i).flatMap (dC q)).length<=i) {{none,none,none,0},s1,Acc.start Oa,AB _} (λi σ H2 _ h=>SqT.of (h.2.1 _ _ hf)) ?_ ?_}
 .rintro i y σ H2 p hi ⟨⟨v5,v6,v7,rfl⟩,s2,⟨zs,NT,hz⟩,pl⟩ np;rw[AC] at hi;have{x,hx,0}:=A'.mp hi;have il:i<q.f.length:=(AF.mp hx).1;have ex:q.f.getD i 0=x:=by rw[A5,hx];rfl
  have s3:ae H2 (upd H2 p (.tup [.int i,.int x])):=ae.new np;have nx:(List.range (i+1)).flatMap (dC q)=(List.range i).flatMap (dC q)++dC q i:=by
   rw[Aw,BH,Bm,List.flatMap_nil,BR]
  rw[nx];have zl:=hz.length;rw[A1] at zl;generalize (List.range i).flatMap (dC q)=R at hz pl zl;show{p,1,SqT.of ak,0,3,2,?_};generalize upd H2 p (.tup [.int i,.int x])=H3 at s3;have NB:=s2.trans s3;show{1,2,1,bB (λhg=>?_) (λhg=>?_)}
  .have hg:x>0:=hg;unfold dC;rw[ex,A8 hg];show{1,1,1,1,v1,q.h,i,(1),0,OG.mono NB,4,4,λu1 H4 s4 NA=>?_};show{1,1,(1),0,.ref fa,q.f,i,-1,0,(Pl.mono NB).mono s4,il,4,λu2 H5 s5 NY=>{(zB rfl),λt6 H6 n6 s6 h6=>?_}};have hq6:Is H6 (qD ⟨q.d,q.k,wmF q.h i 1,wmF q.f i (-1)⟩) (.ref t6):=bt h6 (ap bj (ap bj (ap ((NA.mono s5).mono s6) (ap (NY.mono s6) ax))));have s26:=((s3.trans s4).trans s5).trans s6;show{1,.inl {0,_,SqL.of (s26 _ _ NT)},1,2,(zB rfl),λl7 H7 n7 s7 h7=>{1,(zB rfl),λt8 H8 n8 s8 h8=>?_}};have s28:=(s26.trans s7).trans s8;show{fo,zs,1,0,s28 _ _ NT,aF (by lia),{_,3},(s2.trans s28).put Oh,?_,by rw[AD];change _+1<=_;lia};rw[A7];show Acc.add s2 s28 NT hz ?_;show bt (lS s28 h8) (ap bj (ap (yH (s26.free n7) (kh (t:=[(i:Int)+1]) (s8 _ _ h7))) (ap (yI (j0 s28) ((hq6.mono s7).mono s8)) ax)))
  .have hg:¬x>0:=hg;unfold dC;rw[ex,A6 hg,BR];show{{_,3},NB,Acc.mono s3 {zs,NT,hz},4}
 .rintro σ H2 ⟨⟨v5,v6,v7,rfl⟩,s2,M',_⟩;rw[A1] at M';show{1,kk fo H2 s2 Oh (M'.is Oh)}
def zd(h:n<=12600000):n<sizeLine:=by rw[B1];lia
theorem rE{q:Ask4}(hl:q.f.length<=5):∀(F:Sk (Sk Int)),(F.flatMap (dU q)).length<=F.length*390625
 |[]=>AW _
 |x::F=>by
  rw[Bm,AD,Af,Cf];have h1:=rE hl F;have h2:=qu (n:=8) (wt:=q.d-1-wtF x) (row:=q.f) (first:=0) hl;have:(dU q x).length<=390625:=by unfold dU;rw[A1];show h2
  lia
def Mi:OKQ T.X20 P w base 11 (spOne iK):=by
 show FbO T.X20 jL λ_ _ _ _ H vs Q E hr h=>?_;have{v1,v2,q,L,0,OG,Pl,aq,d2,kk}:=h;show{_,(ai (pSA (i:=4) jL.nd (bd af))
  (ai (aN AL rfl (bh (pcq (Mb T) hr T.X15 (ab (pv 2) af))) (pGA (i:=5) jL.nd) (aj (aN AL rfl (bh (pcq (y6 T 8) hr T.X16 (ab (pv 3) (ab (ah aI (ah aI (pv 0) ag) (pcq (y3 T) hr T.X7 (ab (pv 5) af))) (ab ag af))))) (pGA (i:=6) jL.nd) (ai (pSA (i:=7) jL.nd (bv (ab (ah aI (pv 0) ag) (ab (ah aH (ah aI (ah aI (ah aH (pv 1) (aS (we rfl) (by rfl) T.n_sum Dl (ab (pv 6) af))) (aS (we rfl) (by rfl) T.n_sum Dl (ab (pv 3) af))) (pv 0)) ag) (ab (pv 5) (ab (pv 6) af))))))
  (aj (aX (cy Ad BD BC dJ (pv 4) (ab (bv (ab (ah bo (pcq (y9 T) hr T.X17 (ab (pv 2) (ab (pv 5) af))) (pcq (y9 T) hr T.X17 (ab (pv 6) (ab (pv 3) af)))) (ab (pcq (Mg T) hr T.X18 (ab (pv 3) (ab (pv 6) af))) (ab (pv 7) af)))) af))))))))
  (aj (am (pv 4))))),?_}
 have{fa,0,hf}:=bK Pl;have hl:=aq.hl;have fl:=aq.fl;have L5:=aq.L5;have sm:=aq.sums;have dL:=aq.dL;have wq:=aq.wt;have wh:=cQ (i:=1) (by decide) aq.hn;have wf:=cQ (i:=1) (by decide) aq.fn;show{AW _,λfo H1 Oh s1 Oa=>?_};show{1,v1,q.h,0,OG.mono s1,aq.hn,4,4,λkl H2 s2 nkl hkl=>?_};have O3:=s1.trans s2;have{_,M7,e,hkl2,hki}:=aD hkl;cases e;have klen:M7.length=(rwF q.h).length:=by rw[hki.length,A1]
 have k32:(rwF q.h).length<=32:=by have:=qt aq.hn (by lia) q.h.length;rwa [AS] at this
 have kfo:kl≠fo:=by rintro rfl;rw[Oa] at nkl;cases nkl
 unfold iK at kk;show{kl,0,{_,SqL.of hkl2},bF (xs:=M7) (λi σ H3=>(E3 λv5 v6 v7=>σ=[some (.int q.d),some (.int q.k),some v1,some (.ref fa),some (.ref fo),v5,v6,v7])/\ae H H3/\H3 kl=some (.lst M7)/\aE H2 H3/\Acc H H3 fo ((((rwF q.h).take i).flatMap (dU q)).map smD)) {{none,none,none,0},O3,hkl2,aE.of_same (ae.refl _),(Acc.start Oa).mono s2} (λi σ H3 _ h=>SqL.of h.2.2.1) ?_ ?_}
 .rintro i y σ H3 hi ⟨⟨v5,v6,v7,rfl⟩,s3,RS,t3,⟨zs,Ni,hz⟩⟩;have{kp,hkp,hy}:=bC hki hi;have il:i<(rwF q.h).length:=(AF.mp hkp).1;have Qw:=AR hkp;have lk:=qr aq.hn Qw;have wk0:=cQ (i:=1) (by decide) (Le.nn lk).1;have wk1:=lk.wt (i:=1) (by decide);have nx:((rwF q.h).take (i+1)).flatMap (dU q)=((rwF q.h).take i).flatMap (dU q)++dU q kp:=by
   rw[AX,hkp,BH];simp
  have bnd:=rE (q:=q) (by lia) ((rwF q.h).take (i+1));rw[nx] at bnd⊢;rw[AD,Ai] at bnd;have zl:=hz.length;rw[A1] at zl;generalize ((rwF q.h).take i).flatMap (dU q)=R at hz bnd zl;have PV:Is H3 (tI kp) y:=gd t3 hy;show{1,1,2,1,y,kp,0,PV,by have:=lk.len;lia,λH4 s4=>{2,?_}};have RJ:=s3.trans s4;unfold dU at bnd⊢;rw[A1] at bnd;have few:∀fr∈rbF 8 q.f (q.d-1-wtF kp) 0,AskOk L ⟨q.d-1,q.k+fr.sum-q.f.sum-q.d+1,kp,fr⟩/\6*(q.d-1)+fr.sum+1<=muF q/\Le kp q.h/\Le q.f fr/\fr.sum<=5:=λfr hfr=>aq.few d2 Qw hfr;show{.ref fa,q.f,q.d-1-wtF kp,(0),0,Pl.mono RJ,aq.fn,4,by unfold wtF at*;lia,5,by unfold wtF at*;lia,by unfold wtF at*;lia,by unfold wtF at*;lia,by unfold wtF at*;lia,5,λrl H5 s5 OS Pj=>?_};have{_,N3,e,O5,Og}:=aD Pj;cases e;have N2:N3.length=(rbF 8 q.f (q.d-1-wtF kp) 0).length:=by rw[Og.length,A1]
  have O7:=s4.trans s5;have Ny:=O7 _ _ Ni;have rfo:rl≠fo:=by rintro rfl;rw[s4 _ _ Ni] at OS;cases OS
  have rkl:kl≠rl:=by rintro rfl;rw[s4 _ _ RS] at OS;cases OS
  generalize rbF 8 q.f (q.d-1-wtF kp) 0=O at Og few N2 bnd;show{rl,0,{_,SqL.of O5},bF (xs:=N3) (λj σ H6=>(E2 λv6 v7=>σ=[some (.int q.d),some (.int q.k),some v1,some (.ref fa),some (.ref fo),some y,v6,v7])/\ae H H6/\H6 kl=some (.lst M7)/\H6 rl=some (.lst N3)/\aE H5 H6/\Acc H H6 fo ((R++(O.take j).map (iJ q kp)).map smD)) {{3},s3.trans O7,O7 _ _ RS,O5,aE.of_same (ae.refl _),by simpa using Acc.mono O7 {zs,Ni,hz}} (λj σ H6 _ h=>SqL.of h.2.2.2.1) ?_ ?_}
  .rintro j b σ H6 hj ⟨⟨v6,v7,rfl⟩,s6,RT,P7,t6,⟨ws,P6,hw⟩⟩;have{fr,hfr,hb}:=bC Og hj;have jl:j<O.length:=(AF.mp hfr).1;have{f1,f2,f3,f4,f5}:=few fr (AR hfr);have hb6:Is H6 (tI fr) b:=gd t6 hb;have hy6:Is H6 (tI kp) y:=gd t6 (PV.mono O7);have wl:=hw.length;rw[A1,AD,A1,Ai] at wl;have nx2:(O.take (j+1)).map (iJ q kp)=(O.take j).map (iJ q kp)++[iJ q kp fr]:=by
    rw[AX,hfr,A7];rfl
   rw[nx2,<-B8];have{ba,0,hba}:=bK hb6;show{1,2,1,1,ba,fr,0,SqT.of hba,2,1,fa,q.f,0,SqT.of (s6 _ _ hf),2,1,2,2,1,1,(zB rfl),λt7 H7 n7 s7 h7=>?_};have hq7:Is H7 (qD ⟨q.d-1,q.k+fr.sum-q.f.sum-q.d+1,kp,fr⟩) (.ref t7):=bt h7 (ap bj (ap bj (ap (hy6.mono s7) (ap (hb6.mono s7) ax))));have RU:=s6.trans s7;show{1,.inl {0,_,SqL.of (s7 _ _ P6)},1,1,v1,y,q.h,kp,0,OG.mono RU,hy6.mono s7,f3,4,λH8 s8=>?_};show{1,1,.ref ba,.ref fa,fr,q.f,0,(hb6.mono s7).mono s8,(Pl.mono RU).mono s8,f4,f5,λH9 s9=>?_};have c1:=ma f3 (by lia);have c2:=ma f4 f5;show{2,.inl {4,4},1,1,.ref fa,.ref ba,q.f,fr,0,((Pl.mono RU).mono s8).mono s9,((hb6.mono s7).mono s8).mono s9,f4,by have:=f4.len;lia,f5,λl10 H10 Pu n10 h10=>?_};show{1,(zB rfl),λt11 H11 n11 RP h11=>?_};have s610:=((s7.trans s8).trans s9).trans Pu;have OC:=s610.trans RP;have n10':H6 l10=none:=((s7.trans s8).trans s9).free n10;show{fo,ws,1,0,OC _ _ P6,zd (by lia),{3},(s6.trans OC).put Oh,by rw[av kfo];show OC _ _ RT,by rw[av rfo];show OC _ _ P7,(t6.trans (aE.of_same OC)).trans (aE.upd (OC _ _ P6)),?_};rw[A7];show Acc.add s6 OC P6 hw ?_;show bt (lS OC h11) (ap bj (ap (yH n10' (h10.mono RP)) (ap (yI (j0 OC) ((((hq7.mono s8).mono s9).mono Pu).mono RP)) ax)))
  .rintro σ H6 ⟨⟨v6,v7,rfl⟩,s6,RT,P7,t6,M'⟩;rw[N2,AS] at M';show{{_,3},s6,RT,(t3.trans (aE.of_same O7)).trans t6,M'}
 .rintro σ H3 ⟨⟨v5,v6,v7,rfl⟩,s3,RS,t3,M'⟩;rw[klen,AS] at M';show{1,kk fo H3 s3 Oh (M'.is Oh)}
def Mj(a:AskOk L q):(gS q).length<=5/\(iK q).length<=12500000:=by
 have h5:=a.L5;have fl:=a.fl;have k32:(rwF q.h).length<=32:=by have:=qt a.hn a.sums.2.1 q.h.length;rwa [AS] at this
 show{?_,BG (rE (by lia) _) (by lia)};unfold gS;show BG (ki (m:=1) λp _=>?_) (by rw[Bl];lia);unfold dC;split<;>simp
def ze:OKQ T.X21 P w base 12 spSms:=by
 show FbO T.X21 jM λ_ _ _ _ H vs Q E hr h=>?_;have{v,q,L,0,hv,aq,d2,kk}:=h;show{_,(ai (pSA (i:=1) jM.nd (ao aO (pv 0) ag (λ_ _=>rfl)))
  (ai (pSA (i:=2) jM.nd (ao aO (pv 0) ag (λ_ _=>rfl)))
  (ai (pSA (i:=3) jM.nd (ao aO (pv 0) ag (λ_ _=>rfl)))
  (ai (pSA (i:=4) jM.nd (ao aO (pv 0) ag (λ_ _=>rfl)))
  (aj (am (ah hG (pcq (Mh T) hr T.X19 (ab (pv 1) (ab (pv 2) (ab (pv 3) (ab (pv 4) af))))) (pcq (Mi T) hr T.X20 (ab (pv 1) (ab (pv 2) (ab (pv 3) (ab (pv 4) af)))))))))))),?_}
 show{1,_,(0),_,hv,0,0,λu1 k1=>?_};rw[aB k1];show{1,_,(1),_,hv,0,0,λu2 k2=>?_};rw[aB k2];show{1,_,(2),_,hv,0,0,λu3 k3=>?_};show{1,_,(3),_,hv,0,0,λu4 k4=>?_};show{1,1,1,1,u3,u4,q,L,0,k3,k4,aq,d2,λl1 H1 s1 n1 h1=>?_};show{1,1,1,1,u3,u4,q,L,0,k3.mono s1,k4.mono s1,aq,d2,λl2 H2 s2 n2 h2=>?_};have{_,xs,e,g1,i1}:=aD h1;cases e;have{_,zs,e,g2,i2}:=aD h2;cases e;have NG:H2 l1=some (.lst xs):=s2 _ _ (bM _ _ g1);have Nk:H2 l2=some (.lst zs):=bM _ _ g2;have sl:=Mj aq;have xl:=i1.length;have zl:=i2.length;rw[A1] at xl zl;show{l1,l2,xs,zs,0,0,NG,Nk,AZ (zd (by lia)),λp np=>?_};have s3:ae H2 (upd H2 p (.lst (xs++zs))):=ae.new np;have hp:upd H2 p (.lst (xs++zs)) p=some (.lst (xs++zs)):=ak;generalize upd H2 p (.lst (xs++zs))=H3 at s3 hp;have npH:H p=none:=(s1.trans s2).free np;show kk p H3 ((s1.trans s2).trans s3) npH (aA (by rw[cN npH];show hp) ?_);unfold cf;rw[A7];show(i1.mono (fR (s2.trans s3))).append ((i2.mono (p8 s1)).mono (fR s3))
theorem zf:∀n:Nat,FnOk P w K mg base CX0 (n+13) T.f22 T.d22 ["asked","known"] (spCnt P w n)
 |0=>{λvs H Q E h=>(by have{_,_,_,_,_,_,_,a,h,_}:=h;have:=a.mu;lia),λA outer s H args us vs Q E _ _ _ _ h=>(by have{_,_,_,_,_,_,_,a,h,_}:=h;have:=a.mu;lia)}
 |n+1=>by
  have ih:=zf n;show T.X22.F.ok iy (λvs H Q E h=>?_) (λNu A outer s H vs Q E hr h=>?_)
  .have{_,_,_,_,_,0,_}:=h;rfl
  .have{v,kn,q,L,R,0,hv,aq,hn,hD,hK,kk}:=h;show{_,(ai (aR (aP dY (ao aO (pv 0) ag (λ_ _=>rfl)) ag (aC _)) (aj (am ag)) aQ)
   (ai (aR (aP bQ (ao aO (pv 0) ag (λ_ _=>rfl)) ag (aC _)) (aj (am (rW (aP bQ (ao aO (pv 0) ag (λ_ _=>rfl)) ag (aC _)) ag ag))) aQ)
   (ai (aR (kx (vX (cA hr) (pv 0) (pv 1)) rfl) (ai (pSA (i:=2) iy.nd ag)
   (ai (aN AL rfl (bh (pcq (ze T) hr T.X21 (ab (pv 0) af) (by lia))) (bV rfl (aL (pGA (i:=3) iy.nd) (aL (pGA (i:=4) iy.nd) (aL (pGA (i:=5) iy.nd) bJ)))) (aj (gj (i:=2) iy.nd rfl (by trivial) (ah bo (ah bo (pv 3) (pcq (Ma T) hr T.X13 (ab (pv 4) af) (by lia))) (ee ih hr (by rfl) T.X22.m T.X22.F.kp T.X22.B .nil dM (ab (pv 5) (ab (pv 1) af)))) gk)))
   (aj (vY (cA hr) (pv 1) (pv 0) (pv 2) rfl)))) aQ)
   (aj (am (vV (cA hr) (pv 1) (pv 0) (λ_ _=>rfl))))))),?_}
   show{1,_,(1),_,hv,0,0,λu1 k1=>?_};rw[aB k1];show{2,1,bB (λhz=>?_) (λhz=>?_)}
   .have hz:q.k<0:=hz;rw[xo hz] at kk;show kk R H (But.of_same (ae.refl _)) hD hK
   have hz:¬q.k<0:=hz;show{1,_,(0),_,hv,0,0,λu2 k2=>?_};rw[aB k2];show{0,1,bW (λh1=>?_) (λh1=>?_)}
   .rw[xp hz h1] at kk;show{1,_,(1),_,hv,0,0,λu3 k3=>?_};rw[aB k3];show{0,1,bW (λh2=>?_) (λh2=>?_)}
    .rw[A8 h2] at kk;show kk R H (But.of_same (ae.refl _)) hD hK
    .rw[A6 h2] at kk;show kk R H (But.of_same (ae.refl _)) hD hK
   have d2:2<=q.d:=by have:=aq.d1;lia
   have hk:=i0 hv;show{1,1,kn,tK R,kq q,0,hD,hk,1,?_};rw[gT];by_cases OA:kq q∈R.map (·.1)
   .rw[A8 OA];show aT {1,1,kn,tK R,kq q,.int (cF q),0,hD,hk,by rw[gT,A8 OA,hK.get OA],kk R H (But.of_same (ae.refl _)) hD hK}
   .rw[A6 OA];show ck ?_;show{1,v,q,L,0,hv,aq,d2,λl0 H2 s2 Pk NN=>?_};have hS:∀x∈cf q,AskOk L x.2.2/\muF x.2.2+1<=muF q/\(0<=x.1/\x.1<=1024)/\(∀w∈x.2.1,1<=w/\w<=5)/\x.2.1.length<=5:=λx hx=>{(aq.less d2 hx).1,(aq.less d2 hx).2,LR aq d2 hx};have hW:=xq aq hz h1;generalize cf q=S at hS hW NN;have{_,Nm,e,O8,O9}:=aD NN;cases e;have Nk:H2 l0=some (.lst Nm):=bM _ _ O8;have NK:Iss H2 (S.map smD) Nm:=O9.mono bM;have Nz:Nm.length=S.length:=by rw[NK.length,A1]
    have O':=hD.mono s2;have Pa:l0≠kn:=by
     have{_,_,xs,_,e}:=hD;rintro rfl;rw[e] at Pk;cases Pk
    show{l0,0,{_,SqL.of Nk},bF (xs:=Nm) (λi σ H3=>(E3 λv3 v4 v5=>σ=[some v,some (.ref kn),some (.int (((S.take i).map λx=>x.1*cg x.2.1*cF x.2.2).sum)),v3,v4,v5])/\But kn H2 H3/\∃R',DM P w H3 kn (tK R')/\KnQ L R') {{none,none,none,0},But.of_same (ae.refl _),R,O',hK} (λi σ H3 _ h=>SqL.of (h.2.1 _ _ Nk Pa)) ?_ ?_}
    .rintro i y σ H3 hi ⟨⟨v3,v4,v5,rfl⟩,Nj,R3,NM,Ob⟩;have{x,Nl,hy}:=bC NK hi;have{x1,x2,x3,x4,x5}:=hS x (AR Nl);have RV:Is H3 (smD x) y:=hy.lts (dr O' Nj);have{t,tvs,0,ht,NU}:=bu RV;have{u1,us,0,NA,NU}:=aM NU;have{u2,us,0,NY,NU}:=aM NU;have{u3,us,0,RM,NU}:=aM NU;rw[bm NU,aB NA] at ht;have{p0,p1}:=yL x4;have p2:(5:Int)^x.2.1.length<=3125:=by
      have:x.2.1.length=0\/x.2.1.length=1\/x.2.1.length=2\/x.2.1.length=3\/x.2.1.length=4\/x.2.1.length=5:=by lia
      rcases this with e|e|e|e|e|e<;>rw[e]<;>decide
     have m0:=Bn x3.1 p0;have m1:=Cc x3.2 (Int.le_trans p1 p2) p0 (by decide);show{t,1,SqT.of ht,0,3,3,2,?_};show{1,1,1,u2,x.2.1,0,NY,x4,2,.inl {4,4},1,1,u3,kn,x.2.2,L,R3,0,RM,x1,4,NM,Ob,λR4 H4 NF Oi hK4=>?_};show{2,.inl {4,4},2,{some (.int x.1),some u2,some u3,?_},Nj.trans NF,R4,Oi,hK4};rw[AX,Nl,A7,BQ];simp
    .rintro σ H3 ⟨⟨v3,v4,v5,rfl⟩,Nj,R3,NM,Ob⟩;rw[Nz,AS,<-hW];have Oc:But kn H H3:=(But.of_same s2).trans Nj;have hv3:Is H3 (qD q) v:=(hv.mono s2).lts (dr O' Nj);have Oq:=Ob.len aq.L5;show{1,1,1,kn,tK R3,kq q,0,NM,i0 hv3,by rw[xK,B1];lia,λH4 Oi k4=>?_};rw[qI Ob.1] at Oi;have NF:But kn H3 H4:=λc o e n=>by rw[k4 c n];show e
     have hv4:=hv3.lts (dr NM NF);have{g1,g2}:=rn (k:=kq q) (v:=cF q) (R:=R3);show{1,1,kn,_,kq q,.int (cF q),0,Oi,i0 hv4,by rw[gT,A8 g2,g1],kk _ H4 (Oc.trans NF) Oi (Ob.put aq (by lia))}
def zg{a:Sk Int}(h:Nn a)(hl:a.length<=n):(bU n a).length=n/\Nn (bU n a)/\wtF (bU n a)=wtF a:=by
 have nr:∀(m:Nat) {t:Sk Int},Nn t->Nn (t++List.replicate m 0):=λm=>by
  induction m with
  |zero=>intro t h;simpa using h
  |succ m ih=>intro t h;rw[DK,<-B8];show JU (ih h) (by decide)
 show{?_,nr _ h,qx};unfold bU;rw[AD,Ah];lia
def rF{a:Sk Int}(hw:Wide d k)(ra:cD a)(rb:cD b)(e:wtF a+wtF b=d)(la:a.length<=d)(lb:b.length<=d):AskOk d {d,k,bU d a,bU d b}:=by
 have{a1,a2,a3}:=zg ra.1 la;have{b1,b2,b3}:=zg rb.1 lb;unfold Wide at hw;show{a1,b1,a2,b2,by rw[a3,b3];show e,by change(1:Int)<=(d:Int);lia,Bk _,4,by change(k:Int)<=6;lia}
def zh:OKQ T.X23 P w base 4 spAsk:=by
 show FbO T.X23 I8 λ_ _ _ _ H vs Q E hr h=>?_;have{d,k,v1,v2,a,b,0,hw,h1,h2,ra,rb,e,la,lb,kk}:=h;show{_,(ai (aX (pcq (mP T) hr T.X3 (ab (pv 0) (ab (pv 1) af))))
  (ai (aX (pcq (L' T) hr T.X8 (ab (pv 0) (ab (pv 2) (ab (pv 3) af)))))
  (aj (am (bv (ab (pv 0) (ab (pv 1) (ab (pcq (y4 T) hr T.X14 (ab (pv 2) (ab (pv 0) af))) (ab (pcq (y4 T) hr T.X14 (ab (pv 3) (ab (pv 0) af))) af))))))))),?_}
 have d5:d<=5:=by unfold Wide at hw;lia
 show{1,1,d,k,0,hw,?_};show{1,1,1,d,v1,v2,a,b,0,h1,h2,ra,rb,e,λH1 s1=>?_};show{1,1,1,1,v1,a,d,0,h1.mono s1,la,d5,λu1 H2 s2 NA=>?_};show{1,1,v2,b,d,0,(h2.mono s1).mono s2,lb,d5,λu2 H3 s3 NY=>?_};show{(zB rfl),λt H4 nt s4 ht=>kk _ H4 (((s1.trans s2).trans s3).trans s4) ?_};show bt ht (ap bj (ap bj (ap ((NA.mono s3).mono s4) (ap (NY.mono s4) ax))))
def Mk:OKQ T.X24 P w base 54 spByE:=by
 show FbO T.X24 I9 λ_ _ _ _ H vs Q E hr h=>?_;have{d,k,v1,v2,a,b,0,hw,h1,h2,ra,rb,e,la,lb,kk}:=h;show{_,(aj (am (pcq (zf T 40) hr T.X22 (ab (pcq (zh T) hr T.X23 (ab (pv 0) (ab (pv 1) (ab (pv 2) (ab (pv 3) af))))) (ab vZ af))))),?_};have aq:=rF hw ra rb e la lb;show{1,1,1,1,d,k,v1,v2,a,b,0,hw,h1,h2,ra,rb,e,la,lb,λu H1 s1 hu=>?_};intro kn H2 Qc hD k2;have s2:ae H1 H2:=λb o e=>by rw[k2 b (by rintro rfl;rw[Qc] at e;cases e)];show e
 have RW:H kn=none:=s1.free Qc;show{u,kn,_,d,[],0,hu.mono s2,aq,by have:=aq.mu;lia,hD,{7,λx hx=>nomatch hx},λR' H3 Nj NM Ob=>kk H3 ?_};show But.same (s1.trans s2) RW Nj
def zi:FnOk P w K mg base (CX0) 4 T.f48 T.d48 ["d"] (spEdQ upE):=by
 show FbO T.X48 Jl λ_ _ _ _ H vs Q E hr h=>?_;have{d,0,i1,i2,kk}:=h;show{_,(ai (aX (pcq (km T) hr T.X4 (ab (pv 0) af)))
  (aj (am (dO (XN:=["d"]) (sc:=al lI) (N:=["x","d"]) (own:=1) (js:=[0]) rfl (by ac_nf) rfl rfl (eZ (by rfl) T.n_range (ab (ah aH (pv 0) ag) af)) (λ_ _ _ _=>(bZ (i:=0) (show List.Nodup (["x","d"]:Sk Str) by ac_nf) rfl (Or.inl rfl) (.inr rfl))) (dN (by decide)) (λ_ _ _ _=>df) (λ_ _ _ _=>(bv (ab (pv 0) (ab (ah aI (pv 1) (pv 0)) af)))))))),?_}
 show{1,(d:Int),0,4,4,?_};show{1,2,1,4,4,λacc na=>?_};have en:((d:Int)+1).toNat=d+1:=by lia
 rw[en];show jq (lo:=0) (n:=d+1) (own:=1) (js:=[0]) (λi H2=>ae H H2/\b8 H2 acc (((List.range i).map λi:Nat=>((i:Int),(d:Int)-(i:Int))).map pt)) {ae.new na,b8.start} ?_ ?_ dP dg ?_
 .rintro i H2 hi ⟨s2,vs,M',NS⟩;show eB ?_;show{1,1,1,2,(zB rfl),λt H3 nt s3 ht3=>?_};show{acc,vs,1,0,s3 _ _ M',aF (by rw[NS.length];simp;lia),(s2.trans s3).put na,?_};rw[Aw,A7,A7,D3] at*
  show jv (NS.mono (dQ s3)) (gC (p:=((i:Int),(d:Int)-i)) (by rw[eC (bi M' nt).symm];show ht3))
 .rintro H2 ⟨s2,g⟩;show kk acc H2 s2 na g.is
 .rintro σ H R R' k ⟨v1,e1,v2,e2,v3,e3,i2,j2,e4,e5,e6,h⟩;show{v1,e1,v2,e2,v3,e3,i2,j2,e4,e5,e6,λp H2 np s2 hp=>k _ _ (h p H2 np s2 hp)}
def zj:FnOk P w K mg base (CX0) 4 T.f49 T.d49 ["d"] (spEdQ loE):=by
 show FbO T.X49 wu λ_ _ _ _ H vs Q E hr h=>?_;have{d,0,i1,i2,kk}:=h;show{_,(ai (aX (pcq (km T) hr T.X4 (ab (pv 0) af)))
  (ai (nj (i:=1) wu.nd rfl (by trivial) (.inl rfl) (XN:=["d","down"]) (sc:=al jQ) (N:=["step","d"]) (own:=1) (js:=[0]) rfl (by ac_nf) rfl rfl (eZ (by rfl) T.n_range (ab (ah aH (pv 0) ag) af)) (λ_ _ _ _=>(bZ (i:=0) (show List.Nodup (["step","d"]:Sk Str) by ac_nf) rfl (Or.inl rfl) (.inr rfl))) (dN (by decide)) (λ_ _ _ _=>df) (λ_ _ _ _=>(bv (ab ag (ab (ah aI (pv 1) (pv 0)) af)))))
  (aj (am (ah dR (pv 1) (dO (XN:=["d","down"]) (sc:=al jQ) (N:=["x"]) (own:=1) (js:=[]) rfl (by ac_nf) rfl rfl (gm (by rfl) T.n_range (ab ag (ab (ah aH (pv 0) ag) af))) (λ_ _ _ _=>(bZ (i:=0) (show List.Nodup (["x"]:Sk Str) by ac_nf) rfl (Or.inl rfl) (.inr rfl))) (dN (by decide)) (λ_ _ _ _=>df) (λ_ _ _ _=>(bv (ab (pv 0) (ab ag af)))))))))),?_}
 show{1,(d:Int),0,4,4,?_};show{1,2,1,4,4,λacc na=>?_};have en:((d:Int)+1).toNat=d+1:=by lia
 rw[en];show jq (lo:=0) (n:=d+1) (own:=1) (js:=[0]) (λi H2=>ae H H2/\b8 H2 acc (((List.range i).map λi:Nat=>((0:Int),(d:Int)-(i:Int))).map pt)) {ae.new na,b8.start} ?_ ?_ dP dg ?_
 .rintro i H2 hi ⟨s2,vs,M',NS⟩;show eB ?_;show{1,1,2,(zB rfl),λt H3 nt s3 ht3=>?_};show{acc,vs,1,0,s3 _ _ M',aF (by rw[NS.length];simp;lia),(s2.trans s3).put na,?_};rw[Aw,A7,A7,D3] at*
  show jv (NS.mono (dQ s3)) (gC (p:=((0:Int),(d:Int)-i)) (by rw[eC (bi M' nt).symm];show ht3))
 .rintro H2 ⟨s2,g2⟩;show{1,1,2,(1),1,{4,4,4,4},λacc2 na2=>?_};have en2:((d:Int)+1-1).toNat=d:=by lia
  rw[en2];show jq (lo:=1) (n:=d) (own:=1) (js:=[]) (λi H3=>ae H2 H3/\b8 H3 acc2 (((List.range i).map λi:Nat=>((1:Int)+(i:Int),(0:Int))).map pt)) {ae.new na2,b8.start} ?_ ?_ dP dg ?_
  .rintro i H3 hi ⟨s3,vs,M',NS⟩;show eB ?_;show{1,(zB rfl),λt H4 nt s4 ht4=>?_};show{acc2,vs,1,0,s4 _ _ M',aF (by rw[NS.length];simp;lia),(s3.trans s4).put na2,?_};rw[Aw,A7,A7] at*
   show jv (NS.mono (dQ s4)) (gC (p:=((1:Int)+(i:Int),(0:Int))) (by rw[eC (bi M' nt).symm];show ht4))
  .rintro H3 ⟨s3,g3⟩;show{_,_,(g2.mono s3).is,g3.is,AZ (aF (by simp;lia)),λp H4 np s4 hp4=>?_};rw[<-A7] at hp4;show kk p H4 ((s2.trans s3).trans s4) ((s2.trans s3).free np) hp4
  .rintro σ H R R' k ⟨v1,e1,e6,h⟩;show{v1,e1,e6,λp H2 np s2 hp=>k _ _ (h p H2 np s2 hp)}
 .rintro σ H R R' k ⟨v1,e1,v2,e2,i2,j2,e4,e5,e6,h⟩;show{v1,e1,v2,e2,i2,j2,e4,e5,e6,λp H2 np s2 hp=>k _ _ (h p H2 np s2 hp)}
def Ml:FnOk P w K mg base (CX0) 4 T.f45 T.d45 ["d"] (spEdQ bw):=by
 show FbO T.X45 lH λ_ _ _ _ H vs Q E hr h=>?_;have{d,0,i1,i2,kk}:=h;show{_,(ai (aX (pcq (km T) hr T.X4 (ab (pv 0) af)))
  (ai (pSA (i:=1) lH.nd (bd af))
  (ai (aN AL rfl (eZ (by rfl) T.n_range (ab (ah aH (pv 0) ag) af)) (pGA (i:=2) lH.nd) (aj (aN AL rfl (Gi (by rfl) T.n_range (ab (ah aI (pv 0) (pv 2)) (ab (fb fe ag) (ab (fb fe ag) af)))) (pGA (i:=3) lH.nd) (aj (aX (cy Ad BD BC dJ (pv 1) (ab (bv (ab (pv 2) (ab (pv 3) af))) af)))))))
  (aj (am (pv 1)))))),?_}
 show{1,(d:Int),0,4,4,?_};show{(zB rfl),λl H1 nl s1 NG=>?_};have en:((d:Int)+1).toNat=d+1:=by lia
 show{1,2,1,4,4,?_};rw[en];show dG (n:=d+1) (λi σ H2=>(E2 λv2 v3=>σ=[some (.int d),some (.ref l),v2,v3])/\ae H H2/\b8 H2 l ((fz d i).map pt)) {{none,none,0},s1,[],NG,ax} ?_ ?_
 .rintro i σ H2 hi ⟨⟨v2,v3,rfl⟩,s2,g2⟩;show{1,1,2,(1),0,(1),0,3,{4,4,5,5},?_};have en2:((d:Int)-(0+(i:Int))- -1).toNat=d+1-i:=by lia
  rw[en2];show Gj (n:=d+1-i) (λj σ H3=>(∃v3,σ=[some (.int d),some (.ref l),some (.int (0+i)),v3])/\ae H H3/\b8 H3 l ((fz d i++fy d i j).map pt)) {{v3,0},s2,by simpa[fy] using g2} ?_ ?_
  .rintro j σ H3 hj ⟨⟨v3,rfl⟩,s3,vs,Oq,NS⟩;show{1,.inl {0,_,SqL.of Oq},1,1,(zB rfl),λt H4 nt s4 ht4=>?_};have hln:=J2 d i (by lia) (by lia);show{l,vs,1,0,s4 _ _ Oq,aF (by rw[NS.length,A1,AD,xz];lia),{1},(s3.trans s4).put nl,?_};rw[J1,<-B8,A7];show jv (NS.mono (dQ s4)) (gC (p:=((i:Int),(d:Int)-(i:Int)-(j:Int))) ?_);rw[eC (bi Oq nt).symm,ht4,D3]
  .rintro σ H3 ⟨⟨v3,rfl⟩,s3,g3⟩;rw[<-xx] at g3;show{{3},s3,g3}
 .rintro σ H2 ⟨⟨v2,v3,rfl⟩,s2,g2⟩;show{1,kk l H2 s2 nl g2.is}
def zm:OKQ T.X47 P w base 1 spCrn:=by
 show FbO T.X47 Jk λ_ _ _ _ H vs Q E hr h=>?_;have{a,b,c,p,q,r,0,ha,hb,hc,i1,i2,i3,kk}:=h;show{_,(aj (am (ah aI (ah bo (ah aI (ao aO (pv 1) ag (λ_ _=>rfl)) (ao aO (pv 0) ag (λ_ _=>rfl))) (ah aI (ao aO (pv 2) ag (λ_ _=>rfl)) (ao aO (pv 1) ag (λ_ _=>rfl)))) (ah bo (ah aI (ao aO (pv 1) ag (λ_ _=>rfl)) (ao aO (pv 0) ag (λ_ _=>rfl))) (ah aI (ao aO (pv 2) ag (λ_ _=>rfl)) (ao aO (pv 1) ag (λ_ _=>rfl))))))),?_};unfold inB at i1 i2 i3;simp only[A9,AQ] at i1 i2 i3;show{1,_,(0),_,hb,0,0,λu hu=>?_};rw[aB hu];show{1,_,(0),_,ha,0,0,λu hu=>?_};rw[aB hu];show{2,1,_,(1),_,hc,0,0,λu hu=>?_};rw[aB hu];show{1,_,(1),_,hb,0,0,λu hu=>?_};rw[aB hu];show{2,2,.inr {4,4},1,_,(1),_,hb,0,0,λu hu=>?_};rw[aB hu];show{1,_,(1),_,ha,0,0,λu hu=>?_};rw[aB hu];show{2,1,_,(0),_,hc,0,0,λu hu=>?_};rw[aB hu];show{1,_,(0),_,hb,0,0,λu hu=>?_};rw[aB hu];show{2,2,.inr {4,4},2,kk}
def Mm:OKQ T.X46 P w base 1 spIsP:=by
 show FbO T.X46 Jj λ_ _ _ _ H vs Q E hr h=>?_;have{d,v,p,0,hv,kk}:=h;show{_,(aj (am (fG (dH jc (ao aO (pv 1) ag (λ_ _=>rfl)) ag (aC _)) (fG (dH jc (ao aO (pv 1) ag (λ_ _=>rfl)) ag (aC _)) (g9 (dH kJ (ah aH (ao aO (pv 1) ag (λ_ _=>rfl)) (ao aO (pv 1) ag (λ_ _=>rfl))) (pv 0) (aC _))))))),?_};unfold bq at kk;show{1,_,(0),_,hv,0,0,λu hu=>?_};rw[aB hu];show{2,1,bB (λc1=>?_) (λc1=>?_)}
 .rw[Ay (show p.1>=0 from c1),Bool.true_and] at kk;show{1,_,(1),_,hv,0,0,λu hu=>?_};rw[aB hu];show{2,1,bB (λc2=>?_) (λc2=>?_)}
  .rw[Ay (show p.2>=0 from c2),Bool.true_and] at kk;show{1,_,(0),_,hv,0,0,λu hu=>?_};rw[aB hu];show{1,_,(1),_,hv,0,0,λu hu=>?_};rw[aB hu];show{2,1,2,kk}
  .rw[An (show¬p.2>=0 from c2),D5] at kk;show kk
 .rw[An (show¬p.1>=0 from c1),D5] at kk;show kk
def Mn:OKQ T.X50 P w base 2 spTurn:=by
 show FbO T.X50 ww λ_ _ _ _ H vs Q E hr h=>?_;have{v,ps,sd,0,hv,hB,hs,kk}:=h;show{_,(ai (aN AL rfl (gm (by rfl) T.n_range (ab ag (ab (ah aI (aS nz (by rfl) T.n_len CZ (ab (pv 0) af)) ag) af))) (pGA (i:=2) ww.nd) (aj (aR (aP fH (ah bo (pcq (zm T) hr T.X47 (ab (ao fh (pv 0) (ah aI (pv 2) ag) (λ_ _=>rfl)) (ab (ao fh (pv 0) (pv 2) (λ_ _=>rfl)) (ab (ao fh (pv 0) (ah aH (pv 2) ag) (λ_ _=>rfl)) af)))) (pv 1)) ag (aC _)) (aj (am (pv 2))) aQ)))
  (aj (am rS))),?_}
 have{p1,p2}:=xC hB;have hb:∀j,j<ps.length->inB (ps.getD j zP)=true:=λj hj=>by
  unfold psB at hB;simp only[A9,AV] at hB;show hB.1 _ (dW hj)
 have sb: -1<=sd/\sd<=1:=by unfold Sd at hs;lia
 show{1,3,.inl hv,2,(1),1,{5,5,by rw[A1];lia,by rw[A1];lia},?_};rw[show((((ps.map pt).length:Nat):Int)-1-1).toNat=ps.length-2 by rw[A1];lia];show dG (lo:=1) (n:=ps.length-2) (λi σ H2=>(∃v2,σ=[some v,some (.int sd),v2])/\H2=H/\∀j,j<i->decide (crn (ps.getD j zP) (ps.getD (j+1) zP) (ps.getD (j+2) zP)*sd>0)=false) {{none,0},0,λj hj=>absurd hj (by lia)} ?_ ?_
 .rintro i σ H2 hi ⟨⟨v2,rfl⟩,rfl,hn⟩;have a0:=fA (ps:=ps) (j:=i) (by lia);have a1:=fA (ps:=ps) (j:=i+1) (by lia);have a2:=fA (ps:=ps) (j:=i+2) (by lia);show{1,1,2,_,_,_,hv,0,by rw[show(1+(i:Int))-1=((i:Nat):Int) by lia];show a0,λu0 h0=>?_};show{1,1,_,_,_,hv,0,by rw[show(1+(i:Int))=((i+1:Nat):Int) by lia];show a1,λu1 h1=>?_};show{1,1,2,_,_,_,hv,0,by rw[show(1+(i:Int))+1=((i+2:Nat):Int) by lia];show a2,λu2 h2=>?_};show{u0,u1,u2,_,3,h0,h1,h2,hb _ (by lia),hb _ (by lia),hb _ (by lia),1,2,.inr {4,4},2,1,bB (λc=>?_) (λc=>?_)}
  .show{1,?_};have e:bz ps sd=some (i+1):=by
    unfold bz;rw[xD hi hn (Ay c)];rfl
   rw[e] at kk;have:yM (some (i+1))=.int (1+(i:Int)):=by change V.int (((i+1:Nat):Int))=_;congr 1;lia
   rw[this] at kk;show kk
  .show{{1},0,λj hj=>?_};by_cases e:j=i
   .rw[e];show An c
   .show hn j (by lia)
 .rintro σ H2 ⟨⟨v2,rfl⟩,rfl,hn⟩;have e:bz ps sd=none:=by
   unfold bz;rw[Kb hn];rfl
  rw[e] at kk;show kk
def zn:OKQ T.X51 P w base 3 spSteps:=by
 show FbO T.X51 gK λNu A outer s H vs Q E hr h=>?_;have{d,v,ps,sd,0,hv,hB,hs,kk}:=h;show{_,(ai (pSA (i:=3) gK.nd (pcq (Mn T) hr T.X50 (ab (pv 1) (ab (pv 2) af))))
  (ai (aR (aP Ez (pv 3) rS (aC _)) (aj (am (bd af))) aQ)
  (ai (pSA (i:=4) gK.nd (ao fh (pv 1) (ah aI (pv 3) ag) (λ_ _=>rfl)))
  (ai (pSA (i:=5) gK.nd (ao fh (pv 1) (pv 3) (λ_ _=>rfl)))
  (ai (pSA (i:=6) gK.nd (ao fh (pv 1) (ah aH (pv 3) ag) (λ_ _=>rfl)))
  (ai (pSA (i:=7) gK.nd (bd (ab (bv (ab (bv (ab (pv 4) (ab (pv 5) (ab (pv 6) af)))) (ab (ah dR (dI fg (pv 1) em (du (pv 3))) (dI fg (pv 1) (du (ah aH (pv 3) ag)) em)) af))) af)))
  (ai (pSA (i:=8) gK.nd (bv (ab (ah aI (ah aH (ao aO (pv 4) ag (λ_ _=>rfl)) (ao aO (pv 6) ag (λ_ _=>rfl))) (ao aO (pv 5) ag (λ_ _=>rfl))) (ab (ah aI (ah aH (ao aO (pv 4) ag (λ_ _=>rfl)) (ao aO (pv 6) ag (λ_ _=>rfl))) (ao aO (pv 5) ag (λ_ _=>rfl))) af))))
  (ai (aR (cZ (pcq (Mm T) hr T.X46 (ab (pv 0) (ab (pv 8) af)))) (aj (aX (cy Ad BD BC dJ (pv 7) (ab (bv (ab (bv (ab (pv 4) (ab (pv 5) (ab (pv 6) (ab (pv 8) af))))) (ab (ah dR (ah dR (dI fg (pv 1) em (du (pv 3))) (bd (ab (pv 8) af))) (dI fg (pv 1) (du (ah aH (pv 3) ag)) em)) af))) af)))) aQ)
  (aj (am (pv 7))))))))))),?_}
 have{p1,p2}:=xC hB;show{1,1,v,ps,sd,0,hv,hB,hs,?_};unfold aY at kk;cases hT:bz ps sd with
 |none=>
  rw[hT] at kk;show{1,0,1,ck {AW _,λl H1 n1 s1 h1=>kk l H1 s1 n1 (aA (by rw[cN n1];show h1) ax)}}
 |some p=>
  rw[hT] at kk;dsimp only at kk;have{t1,t2}:=j4 hT;show{1,0,1,aT ?_};change _;have a0:=fA (ps:=ps) (j:=p-1) (by lia);have a1:=fA (ps:=ps) (j:=p) (by lia);have a2:=fA (ps:=ps) (j:=p+1) (by lia);show{1,1,2,_,_,_,hv,0,by rw[show((p:Int)-1)=((p-1:Nat):Int) by lia];show a0,λua ha=>?_};show{1,1,_,_,_,hv,0,a1,λub hb=>?_};show{1,1,2,_,_,_,hv,0,by rw[show((p:Int)+1)=((p+1:Nat):Int) by lia];show a2,λuc hc=>?_};generalize ps.getD (p-1) zP=pa at kk ha;generalize ps.getD p zP=pb at kk hb;generalize ps.getD (p+1) zP=pc at kk hc;have{da,Np,0,OF,Oy}:=aD hv;have Qz:Np.length=ps.length:=by rw[Oy.length,A1]
  show{1,1,1,(zB rfl),λt1' H1 n1 s1 h1=>?_};show{1,1,(p:Int),0,da,1,SqL.of (s1 _ _ OF),?_};rw[rg];intro l2 n2;have s2:ae H1 (upd H1 l2 (.lst (Np.take p))):=ae.new n2;have h2:(upd H1 l2 (.lst (Np.take p))) l2=some (.lst (Np.take p)):=ak;generalize upd H1 l2 (.lst (Np.take p))=H2 at s2 h2⊢;show{1,1,2,(p:Int)+1,0,da,1,SqL.of (s2 _ _ (s1 _ _ OF)),?_};rw[show((p:Int)+1)=((p+1:Nat):Int) by lia,mL (by lia)];intro l3 n3;have s3:ae H2 (upd H2 l3 (.lst (Np.drop (p+1)))):=ae.new n3;have h3:(upd H2 l3 (.lst (Np.drop (p+1)))) l3=some (.lst (Np.drop (p+1))):=ak;generalize upd H2 l3 (.lst (Np.drop (p+1)))=H3 at s3 h3⊢;have NB:ae H H3:=(s1.trans s2).trans s3;have i2:Is H3 (pts (ps.take p)) (.ref l2):=aA (s3 _ _ h2) (by rw[List.map_take];show(Oy.take p).mono NB);have i3:Is H3 (pts (ps.drop (p+1))) (.ref l3):=aA h3 (by rw[DH];show(Oy.drop (p+1)).mono NB);show{_,_,i2,i3,AZ (aF (by rw[A1,A1,Ai,Bs];lia)),λq4 H4 n4 s4 h4=>{(zB rfl),λt5 H5 n5 s5 h5=>{(zB rfl),λfo H6 n6 s6 h6=>?_}}};rw[<-A7] at h4;have RX:ae H H6:=((NB.trans s4).trans s5).trans s6;have Oh:H fo=none:=((NB.trans s4).trans s5).free n6;have Qm:ae H H5:=(NB.trans s4).trans s5;have is1:Is (nw H H5) (ge ([pa,pb,pc],ps.take p++ps.drop (p+1))) (.ref t5):=by
   show bt (by rw[cN ((NB.trans s4).free n5)];show h5) (ap ?_ (ap (xB Qm (NB.free n4) (Is.mono (s:=s5) h4)) ax));show xA (j0 Qm) (bt (s5 _ _ (s4 _ _ (s3 _ _ (s2 _ _ h1)))) (ap (ha.mono Qm) (ap (hb.mono Qm) (ap (hc.mono Qm) ax))))
  show{1,_,(0),_,ha.mono RX,0,0,λu hu=>?_};rw[aB hu];show{1,_,(0),_,hc.mono RX,0,0,λu hu=>?_};rw[aB hu];show{2,1,_,(0),_,hb.mono RX,0,0,λu hu=>?_};rw[aB hu];show{2,1,_,(1),_,ha.mono RX,0,0,λu hu=>?_};rw[aB hu];show{1,_,(1),_,hc.mono RX,0,0,λu hu=>?_};rw[aB hu];show{2,1,_,(1),_,hb.mono RX,0,0,λu hu=>?_};rw[aB hu];show{2,(zB rfl),λt7 H7 n7 s7 h7=>?_};have hf:Is H7 (pt (aJ pa pb pc)) (.ref t7):=gC h7;have RU:=RX.trans s7;show{1,1,d,3,hf,bq d (aJ pa pb pc),0,?_};cases hP:bq d (aJ pa pb pc) with
  |false=>
   rw[hP] at kk;show aT {1,kk fo H7 RU Oh ?_};show aA (by rw[cN Oh];show s7 _ _ h6) (ap (is1.mono (fR (s6.trans s7))) ax)
  |true=>
   rw[hP] at kk;show ck {1,.inl {0,_,SqL.of (s7 _ _ h6)},1,1,1,1,(zB rfl),λt8 H8 n8 s8 h8=>?_};have s08:=RU.trans s8;show{1,1,(p:Int),0,da,1,SqL.of (s08 _ _ OF),?_};rw[rg];intro l9 n9;have s9:ae H8 (upd H8 l9 (.lst (Np.take p))):=ae.new n9;have h9:(upd H8 l9 (.lst (Np.take p))) l9=some (.lst (Np.take p)):=ak;generalize upd H8 l9 (.lst (Np.take p))=H9 at s9 h9⊢;have s09:=s08.trans s9;show{1,(zB rfl),λla Ha na sa hla=>?_};have s0a:=s09.trans sa;show{_,[pt (aJ pa pb pc)],aA (sa _ _ h9) (by rw[List.map_take];show(Oy.take p).mono s0a:Iss Ha ((ps.take p).map pt) (Np.take p)),aA hla (ap (((hf.mono s8).mono s9).mono sa) ax),AZ (aF (by rw[A1,Ai];change _+1<=1000;lia)),λlb Hb nb sb hlb=>?_};have s0b:=s0a.trans sb;show{1,1,2,(p:Int)+1,0,da,1,SqL.of (s0b _ _ OF),?_};rw[show((p:Int)+1)=((p+1:Nat):Int) by lia,mL (by lia)];intro lc nc;have sc:ae Hb (upd Hb lc (.lst (Np.drop (p+1)))):=ae.new nc;have hlc:(upd Hb lc (.lst (Np.drop (p+1)))) lc=some (.lst (Np.drop (p+1))):=ak;generalize upd Hb lc (.lst (Np.drop (p+1)))=Hc at sc hlc⊢;have s0c:=s0b.trans sc;show{_,_,hlb.mono sc,aA hlc (by rw[DH];show(Oy.drop (p+1)).mono s0c:Iss Hc ((ps.drop (p+1)).map pt) (Np.drop (p+1))),AZ (aF (by rw[AD,A1,A1,Ai,Bs];change _+1+_<=1000;lia)),λld Hd nd sd' hld=>{(zB rfl),λte He ne se he=>?_}};have s0d:=s0c.trans sd';have s0e:=s0d.trans se;have s8e:ae H8 He:=((((s9.trans sa).trans sb).trans sc).trans sd').trans se;have s7e:=s8.trans s8e;show{fo,2,s7e _ _ (s7 _ _ h6),aF (by change 1<=1000;decide),?_};have hld':Is Hd (pts (ps.take p++[aJ pa pb pc]++ps.drop (p+1))) (.ref ld):=by
    have:=hld;change Is Hd (.l ((ps.take p++[aJ pa pb pc]++ps.drop (p+1)).map pt)) (.ref ld);rw[A7,A7];show this
   have is2:Is (nw H7 He) (ge ([pa,pb,pc,aJ pa pb pc],ps.take p++[aJ pa pb pc]++ps.drop (p+1))) (.ref te):=by
    have s7d:ae H7 Hd:=((((s8.trans s9).trans sa).trans sb).trans sc).trans sd';have s7c:ae H7 Hc:=(((s8.trans s9).trans sa).trans sb).trans sc;show bt (by rw[cN (s7d.free ne)];show he) (ap ?_ (ap (xB s7e (s7c.free nd) (hld'.mono se)) ax));show xA (j0 s7e) (bt (s8e _ _ h8) (ap (ha.mono s0e) (ap (hb.mono s0e) (ap (hc.mono s0e) (ap (hf.mono s7e) ax)))))
   have acc:=Acc.add (xs:=[ge ([pa,pb,pc],ps.take p++ps.drop (p+1))]) RU s7e (s7 _ _ h6) (ap (is1.mono (Ka n6 (s6.trans s7))) ax) is2;show{1,kk fo _ (s0e.put Oh) Oh (acc.is Oh)}
def zo:OKQ T.X52 P w base 2 spPw:=by
 show FbO T.X52 Jm λ_ _ _ _ H vs Q E hr h=>?_;have{v,c,0,hv,hB,hl,kk}:=h;show{_,(ai (aR (aP bQ (aS nz (by rfl) T.n_len CZ (ab (pv 0) af)) ag (aC _)) (aj (am (aS mX (by rfl) T.n_abs boot_abs (ab (pcq (zm T) hr T.X47 (ab (ao aO (pv 0) ag (λ_ _=>rfl)) (ab (ao aO (pv 0) ag (λ_ _=>rfl)) (ab (ao aO (pv 0) ag (λ_ _=>rfl)) af)))) af)))) aQ)
  (aj (am ag))),?_}
 unfold pwF at kk;show{1,3,.inr hv,0,1,bW (λe=>?_) (λe=>?_)}
 .rw[A1] at e;have e3:c.length=3:=by lia
  rw[A8 e3] at kk;have a0:=fA (ps:=c) (j:=0) (by lia);have a1:=fA (ps:=c) (j:=1) (by lia);have a2:=fA (ps:=c) (j:=2) (by lia);show{1,_,(0),_,hv,0,a0,λu0 h0=>{1,_,(1),_,hv,0,a1,λu1 h1=>{1,_,(2),_,hv,0,a2,λu2 h2=>?_}}};show{u0,u1,u2,_,3,h0,h1,h2,hB _ (dW (by lia)),hB _ (dW (by lia)),hB _ (dW (by lia)),1,kk}
 .rw[A1] at e;rw[A6 (by lia)] at kk;show kk
theorem rG:∀n:Nat,FnOk P w K mg base CX0 (n+4) T.f55 T.d55 ["d","way","side","known"] (spWoG P w n)
 |0=>{λvs H Q E h=>(by have{_,_,_,_,_,_,_,_,_,_,SD,_,d4,_,ok,h,_}:=h;have:=(SD.lo _ ok).1;lia),λA outer s H args us vs Q E _ _ _ _ h=>(by have{_,_,_,_,_,_,_,_,_,_,SD,_,d4,_,ok,h,_}:=h;have:=(SD.lo _ ok).1;lia)}
 |n+1=>by
  have ih:=rG n;show T.X55.F.ok iB (λvs H Q E h=>?_) (λNu A outer s H vs Q E hr h=>?_)
  .have{_,_,_,_,_,_,_,_,_,0,_}:=h;rfl
  .have{d,v,kn,ps,R,sg,e0,Wq,mu,0,SD,d1,d4,hv,ok,hn,hD,hK,kk}:=h;show{_,(ai (pSA (i:=4) iB.nd (c9 fK (by rfl) T.n_tuple DX (ab (pv 1) af)))
   (ai (aR (kx (vT (cA hr) (pv 4) (pv 3)) rfl) (ai (pSA (i:=5) iB.nd ag)
   (ai (aN AL rfl (bh (pcq (zn T) hr T.X51 (ab (pv 0) (ab (pv 1) (ab (pv 2) af))) (by lia))) (bV rfl (aL (pGA (i:=6) iB.nd) (aL (pGA (i:=7) iB.nd) bJ))) (aj (gj (i:=5) iB.nd rfl (by trivial) (ah bo (pcq (zo T) hr T.X52 (ab (pv 6) af) (by lia)) (ee ih hr (by rfl) T.X55.m T.X55.F.kp T.X55.B .nil dM (ab (pv 0) (ab (pv 7) (ab (pv 2) (ab (pv 3) af)))))) gk)))
   (aj (vU (cA hr) (pv 3) (pv 4) (pv 5) rfl)))) aQ)
   (aj (am (vS (cA hr) (pv 3) (pv 4) (λ_ _=>rfl)))))),?_}
   show{1,3,hv,λkey H1 nk s1 hk=>?_};have QG:Is H1 (nK (wk ps)) (.ref key):=i6 hk;have OT:=hD.mono s1;have b1:But kn H H1:=But.of_same s1;show{1,1,kn,tK R,wk ps,0,OT,QG,1,?_};rw[gT];by_cases OA:wk ps∈R.map (·.1)
   .rw[A8 OA];show aT {1,1,kn,tK R,wk ps,.int (Wq ps),0,OT,QG,by rw[gT,A8 OA,hK.get OA],kk R H1 b1 OT hK}
   .rw[A6 OA];show ck ?_;show{1,1,1,d,v,ps,sg,0,hv.mono s1,xP d4 ok,SD.sd,λl0 H2 s2 Pk NN=>?_};have hS:∀x∈aY d ps sg,az d x.2/\mu x.2+1<=mu ps/\(∀p∈x.1,inB p=true)/\(x.1.length=3\/x.1.length=4):=λx hx=>{(SD.st ps x ok hx).1,(SD.st ps x ok hx).2,yN d4 ok hx};have NC:ps≠e0:=λe=>OA (by rw[e];show hK.2.2);have hW:Wq ps=((aY d ps sg).map λx=>pwF x.1*Wq x.2).sum:=by rw[SD.eq _ ok,A6 NC]
    generalize aY d ps sg=S at hS hW NN;have{_,Nm,e,O8,O9}:=aD NN;cases e;have Nk:H2 l0=some (.lst Nm):=bM _ _ O8;have NK:Iss H2 (S.map ge) Nm:=O9.mono bM;have Nz:Nm.length=S.length:=by rw[NK.length,A1]
    have O':=OT.mono s2;have Pa:l0≠kn:=by
     have{_,_,xs,_,e}:=OT;rintro rfl;rw[e] at Pk;cases Pk
    show{l0,0,{_,SqL.of Nk},bF (xs:=Nm) (λi σ H3=>(E2 λv6 v7=>σ=[some (.int d),some v,some (.int sg),some (.ref kn),some (.ref key),some (.int (((S.take i).map λx=>pwF x.1*Wq x.2).sum)),v6,v7])/\But kn H2 H3/\∃R',DN P w H3 kn (tK R')/\KnG d e0 Wq R') {{none,none,0},But.of_same (ae.refl _),R,O',hK} (λi σ H3 _ h=>SqL.of (h.2.1 _ _ Nk Pa)) ?_ ?_}
    .rintro i y σ H3 hi ⟨⟨v6,v7,rfl⟩,Nj,R3,NM,Ob⟩;have{x,Nl,hy}:=bC NK hi;have{x1,x2,x3,x4}:=hS x (AR Nl);have RV:Is H3 (ge x) y:=hy.lts (bI O' Nj);have{t,tvs,0,ht,NU}:=bu RV;have{u1,us,0,NA,NU}:=aM NU;have{u2,us,0,NY,NU}:=aM NU;rw[bm NU] at ht;show{t,1,SqT.of ht,0,3,2,?_};show{1,1,u1,x.1,0,NA,x3,x4,1,1,1,1,d,u2,kn,x.2,R3,sg,e0,Wq,mu,0,SD,d1,d4,NY,x1,4,NM,Ob,λR4 H4 NF Oi hK4=>?_};show{2,.inl (LV x3 x4),2,{some u1,some u2,?_},Nj.trans NF,R4,Oi,hK4};rw[AX,Nl,A7,BQ];simp
    .rintro σ H3 ⟨⟨v6,v7,rfl⟩,Nj,R3,NM,Ob⟩;rw[Nz,AS,<-hW];have Oc:But kn H H3:=(But.of_same (s1.trans s2)).trans Nj;have Qi:Is H3 (nK (wk ps)) (.ref key):=(QG.mono s2).lts (bI O' Nj);have Oq:=Ob.len d4;show{1,1,1,kn,tK R3,wk ps,0,NM,Qi,by rw[xK,B1];lia,λH4 Oi k4=>?_};rw[qI Ob.1] at Oi;have NF:But kn H3 H4:=λc o e n=>by rw[k4 c n];show e
     have hk4:=Qi.lts (bI NM NF);have{g1,g2}:=rn (k:=wk ps) (v:=Wq ps) (R:=R3);show{1,1,kn,_,wk ps,.int (Wq ps),0,Oi,hk4,by rw[gT,A8 g2,g1],kk _ H4 (Oc.trans NF) Oi (Ob.put ok)}
def Mo:FnOk P w K mg base (CX0) 5 T.f56 T.d56 ["d"] (spKnG P w upE wW):=by
 show FbO T.X56 Jn λ_ _ _ _ H vs Q E hr h=>?_;have{d,0,d1,d4,kk}:=h;show{_,(aj (am (lp (cA hr) (c9 fK (by rfl) T.n_tuple DX (ab (pcq (zi T) hr T.X48 (ab (pv 0) af)) af)) ag))),?_};show λkn H0 Qc RY k0=>?_;show{1,d,0,d1,4,λl H1 s1 nl hl=>?_};obtain⟨m,rfl⟩:∃m,m=d:={d,0};show{3,hl,λkey H2 nk s2 hk=>{(RY.mono s1).mono s2,wk (upE m),i6 hk,λH3 NM k3=>?_}};have hup:=(j6 d4).1;have w1:wW m (upE m)=1:=by rw[xJ d4 hup,A8 rfl]
 show kk kn [(wk (upE m),1)] H3 (λb o e=>?_) Qc NM {7,λx hx=>?_,7}
 .have bk:b≠kn:=by rintro rfl;rw[Qc] at e;cases e
  rw[k3 b bk];show s2 _ _ (s1 _ _ (by rw[k0 b bk];show e))
 .rw[AT.mp hx];show{upE m,hup,by rw[w1]}
def Mp:FnOk P w K mg base (CX0) 5 T.f57 T.d57 ["d"] (spKnG P w loE vW):=by
 show FbO T.X57 Jo λ_ _ _ _ H vs Q E hr h=>?_;have{d,0,d1,d4,kk}:=h;show{_,(aj (am (lp (cA hr) (c9 fK (by rfl) T.n_tuple DX (ab (pcq (zj T) hr T.X49 (ab (pv 0) af)) af)) ag))),?_};show λkn H0 Qc RY k0=>?_;show{1,d,0,d1,4,λl H1 s1 nl hl=>?_};obtain⟨m,rfl⟩:∃m,m=d:={d,0};show{3,hl,λkey H2 nk s2 hk=>{(RY.mono s1).mono s2,wk (loE m),i6 hk,λH3 NM k3=>?_}};have hup:=(j8 d4).1;have w1:vW m (loE m)=1:=by rw[xT d4 hup,A8 rfl]
 show kk kn [(wk (loE m),1)] H3 (λb o e=>?_) Qc NM {7,λx hx=>?_,7}
 .have bk:b≠kn:=by rintro rfl;rw[Qc] at e;cases e
  rw[k3 b bk];show s2 _ _ (s1 _ _ (by rw[k0 b bk];show e))
 .rw[AT.mp hx];show{loE m,hup,by rw[w1]}
def zp(h:1<=rs.length):bR rs (some 1) none=rs.drop 1:=by
 unfold bR;rw[show(1:Int)=((1:Nat):Int) from rfl,HT.sIx_nat,HT.sIx_none,DS h,C5 (by simp)]
theorem zq:∀n:Nat,OKQ T.X53 P w base n (spLv n K)
 |0=>{λvs H Q E h=>by have{_,_,_,_,_,h,_}:=h;lia,λA outer s H args us vs Q E _ _ _ _ h=>by have{_,_,_,_,_,h,_}:=h;lia}
 |n+1=>by
  have ih:=zq n;show T.X53.F.ok wx (λvs H Q E h=>?_) (λNu A outer s H vs Q E hr h=>?_)
  .have{_,_,_,0,_}:=h;rfl
  .have{a,rs,k,0,hS,hn,hL,kk}:=h;show{_,(ai (aR (aP fH (pv 1) (aS dw (by rfl) T.n_len CZ (ab (pv 0) af)) (aC _)) (aj (am (dZ af))) aQ)
   (ai (aR (aP bQ (pv 1) ag (aC _)) (aj (am (dZ (ab (c9 m4 (by rfl) T.n_list Dm (ab (pv 0) af)) af)))) aQ)
   (ai (nj (i:=2) wx.nd rfl (by trivial) (.inl rfl) (XN:=["row","k","with_first"]) (sc:=al lJ) (N:=["rest","row"]) (own:=1) (js:=[0]) rfl (by ac_nf) rfl rfl (bh (ee ih hr (by rfl) T.X53.m T.X53.F.kp T.X53.B .nil dM (ab (dI fg (pv 0) (du ag) em) (ab (pv 1) af)))) (λ_ _ _ _=>(bZ (i:=0) (show List.Nodup (["rest","row"]:Sk Str) by ac_nf) rfl (Or.inl rfl) (.inr rfl))) (dN (by decide)) (λ_ _ _ _=>df) (λ_ _ _ _=>(ah hG (dZ (ab (ao (FK (K:=K) rfl) (pv 1) ag (λ_ _=>rfl)) af)) (pv 0))))
   (aj (am (ah hG (pv 2) (ee ih hr (by rfl) T.X53.m T.X53.F.kp T.X53.B .nil dM (ab (dI fg (pv 0) (du ag) em) (ab (ah aI (pv 1) ag) af))))))))),?_}
   show{1,1,a,1,.inl hS,2,1,bB (λhk=>?_) (λhk=>?_)}
   .show{AW _,λl nl=>?_};show kk l [] _ (ae.new nl) nl ak (by rw[qy rs k (by lia)];show bX.nil)
   show{1,0,1,bW (λhz=>?_) (λhz=>?_)}
   .show{1,a,1,.inl hS,λb nb=>?_};have sb:ae H (upd H b (.lst rs)):=ae.new nb;show{(zB rfl),λl nl=>?_};show kk l [.ref b] _ (sb.put (sb.free nl)) (sb.free nl) ak ?_;have ez:k=0:=by lia
    have e0:lvA rs k=[rs]:=by rw[ez];cases rs<;>rfl
    rw[e0];show bX.one nb (by rw[av (bi ak nl)];show ak)
   obtain⟨x,rs,rfl⟩:E2 λx rs'=>rs=x::rs':=by
    cases rs with
    |nil=>simp at hk;lia
    |cons x rs=>show{x,rs,0}
   obtain⟨k,rfl⟩:∃k',k=k'+1:={k-1,4};simp only[Af] at hn hL;show{1,(1),0,a,1,hS,?_};rw[zp (by simp)];intro b nb;have sb:ae H (upd H b (.lst ((x::rs).drop 1))):=ae.new nb;show{1,b,rs,k+1,0,SqL.of ak,4,4,λl1 us H1 s1 nl1 NG L1=>?_};have sA:=sb.trans s1;have nl1H:H l1=none:=sb.free nl1;have L1:=L1.mono sb (ae.refl _);clear s1 nl1;show{l1,0,{_,SqL.of NG},λacc na=>?_};show gx (xs:=us) (own:=1) (js:=[0]) (λi H2=>ae H1 H2/\∃vs,H2 acc=some (.lst vs)/\bX (upd H acc (.lst [])) H2 (((lvA rs (k+1)).take i).map (x:: ·)) vs) {ae.new na,[],ak,by simpa using bX.nil} (λi H2 _ h=>h.1.seq (SqL.of NG)) ?_ ?_ dP dg ?_
   .rintro i v H2 hi ⟨s2,vs,M',L2⟩;have hiu:i<us.length:=(AF.mp hi).1;have hiw:i<(lvA rs (k+1)).length:=by rw[<-L1.1];show hiu
    have{a1,e1,_,e3}:=L1.2 i _ (A2 hiw);rw[hi] at e1;cases e1;have hw:=md rs (k+1) _ (DC hiw);have hl:=jZ rs (k+1);have hp:2^rs.length<=2^20:=Bu (by decide) (by lia);have Nm:vs.length<=i:=by rw[L2.1,A1,Ai];lia
    show eB ?_;show{1,a,_,_,x,0,0,(sA.trans s2).seq hS,jd (j:=0) rfl,(zB rfl),λc nc=>?_};have sc:ae H2 (upd H2 c (.lst [x])):=ae.new nc;show{1,c,a1,2,ak,sc _ _ (s2 _ _ e3),by rw[B1];simp;lia,λd nd=>?_};have sd:ae (upd H2 c (.lst [x])) (upd (upd H2 c (.lst [x])) d (.lst ([x]++(lvA rs (k+1))[i]))):=ae.new nd;have hacc2:=sd _ _ (sc _ _ M');have ndH:H d=none:=(sA.trans s2).free (sc.free nd);have had:d≠acc:=(bi (sc _ _ M') nd).symm;show{acc,2,hacc2,by rw[B1];lia,((s2.trans sc).trans sd).put na,_,ak,?_};rw[AX,A2 hiw,A7];show bX.append ?_ (bX.one (by rw[av had];show ndH) (by rw[av had,ak];rfl));show{L2.1,λj ws e=>?_};have{a3,f1,f2,f3}:=L2.2 j ws e;show{a3,f1,f2,?_};have:a3≠acc:=λz=>by
     rw[z,ak] at f2;cases f2
    rw[av this];show sd _ _ (sc _ _ f3)
   .rintro H2 ⟨s2,vs,M',L2⟩;rw[L1.1,AS] at L2;have sB:=sA.trans s2;show{1,1,(1),0,a,1,sB.seq hS,?_};rw[zp (by simp)];intro b2 nb2;have QY:ae H2 (upd H2 b2 (.lst ((x::rs).drop 1))):=ae.new nb2;show{1,2,?_};show{b2,rs,k,by change [V.ref b2,V.int (((k+1:Nat):Int)-1)]=_;rw[show(((k+1:Nat):Int))-1=(k:Int) by lia],SqL.of ak,4,4,λl2 us2 H3 s3 nl2 Nk L3=>?_};have sC:=QY.trans s3;have hl1':=jZ rs (k+1);have hl2':=jZ rs k;have hp:2^rs.length<=2^20:=Bu (by decide) (by lia);show{acc,l2,vs,us2,0,0,sC _ _ M',Nk,by rw[B1,L2.1,L3.1,A1];lia,λq nq=>?_};have sq:ae H3 (upd H3 q (.lst (vs++us2))):=ae.new nq;show kk q _ _ ((sB.trans sC).trans sq) ((sB.trans sC).free nq) ak ?_;rw[lvA];show bX.append (L2.mono (ae.new (sA.free na)) (sC.trans sq)) (L3.mono (sB.trans QY) sq)
   .rintro σ H R R' k' ⟨v1,e1,p1,x1,i1,y1,e2,e3,e4,e5,z,hq⟩;show{v1,e1,p1,x1,i1,y1,e2,e3,e4,e5,z,λc nc=>?_};have{v2,f1,l,b,xs,zs,f2,f3,f4,f5,f6,hq}:=hq c nc;show{v2,f1,l,b,xs,zs,f2,f3,f4,f5,f6,λd nd=>k' _ _ (hq d nd)}
def Mq(h:2<=rs.length):bR rs (some 1) (some (-1))=(rs.drop 1).dropLast:=by
 have e1:HT.sIx rs.length 0 (some 1)=1:=by
  change(if(1:Int)<0 then((1:Int)+(rs.length:Int)).toNat else min (1:Int).toNat rs.length)=1;rw[A6 (by decide)];change min 1 rs.length=1;lia
 have e2:HT.sIx rs.length rs.length (some (-1))=rs.length-1:=by
  change(if(-1:Int)<0 then((-1:Int)+(rs.length:Int)).toNat else min (-1:Int).toNat rs.length)=rs.length-1;rw[A8 (by decide)];lia
 unfold bR;rw[e1,e2,List.dropLast_eq_take,Bs]
theorem zr{H:Hp}{acc:Se}{zs:Sk V}(ha:H acc=some (.lst zs)):∀{ps:Sk Pt}{vs:Sk V},Iss H (ps.map pt) vs->Iss (hid H acc) (ps.map pt) vs
 |[],_,h=>by rw[bm h];show ax
 |p::ps,_,h=>by
  have{u,us,0,h1,h2}:=aM h;have{a,0,hp}:=kW h1;show ap (gC (by rw[eC (by rintro rfl;rw[ha] at hp;cases hp)];show hp)) (zr ha h2)
def Mr{c:Se}{zs:Sk V}(ha:H acc=some (.lst zs))(ne:c≠acc)(h:Is H (pts ps) (.ref c)):Is (hid H acc) (pts ps) (.ref c):=by
 have{_,ws,e,hc,r}:=ju h;cases e;show aA (by rw[eC ne];show hc) (zr ha r)
def i7(H:Hp)(Wq:Sk (Sk Pt))(Z:Sk (Sk V)):Prop:=Wq.length=Z.length/\∀(i:Nat) w,Wq[i]? =some w->∃z,Z[i]? =some z/\Iss H (w.map pt) z
def i7.app{Wq W':Sk (Sk Pt)}{Z Z':Sk (Sk V)}(h:i7 H Wq Z)(k:i7 H W' Z'):i7 H (Wq++W') (Z++Z'):=by
 show{by rw[AD,AD,h.1,k.1],λi w e=>?_};rcases Be i Wq.length with q|q
 .rw[Ba q] at e;rw[Ba (by rw[<-h.1];show q)];show h.2 i w e
 .rw[BF q] at e;rw[BF (by rw[<-h.1];show q),<-h.1];show k.2 _ w e
theorem mR{H:Hp}:∀(row:Sk Pt) (rs:Sk V) (k:Nat),Iss H (row.map pt) rs->i7 H (lvA row k) (lvA rs k)
 |row,rs,0,h=>by
  have e1:∀{α:Type} (l:Sk α),lvA l 0=[l]:=λl=>by cases l<;>rfl
  rw[e1,e1];show{0,λi w e=>?_}
  match i,e with
  |0,e=>cases e;show{rs,0,h}
  |i+1,e=>simp at e
 |[],rs,k+1,h=>by
  rw[bm h];show{0,λi w e=>by simp[lvA] at e}
 |p::row,rs,k+1,h=>by
  have{u,us,0,h1,h2}:=aM h;rw[lvA,lvA];show i7.app ?_ (mR row us k h2);have{l,g}:=mR row us (k+1) h2;show{by rw[A1,A1,l],λi w e=>?_};rw[AC] at e;have{w',hw',0}:=A'.mp e;have{z,hz,hi}:=g i w' hw';show{u::z,by rw[AC,hz];rfl,ap h1 hi}
def Ms{row:Sk Pt}(h:Iss H (row.map pt) rs)(i:Nat)(w:Sk Pt)(e:(lvA row k)[i]? =some w):∃ws,(lvA rs k)[i]? =some ws/\Iss H (w.map pt) ws:=(mR row rs k h).2 i w e
def Mt{row:Sk Pt}(h:Iss H (row.map pt) rs):(lvA rs k).length=(lvA row k).length:=(mR row rs k h).1.symm
def Mu(h1:1<=d)(h4:d<=4):(bw d)[0]? =some (p0 d):=by
 have:d=1\/d=2\/d=3\/d=4:=by lia
 rcases this with rfl|rfl|rfl|rfl<;>ac_nf
def Mv(h1:1<=d)(h4:d<=4):atI ((bw d).map pt) (-1)=some (pt (pl d)):=by
 have e:(bw d)[(bw d).length-1]? =some (pl d)/\1<=(bw d).length:=by
  have:d=1\/d=2\/d=3\/d=4:=by lia
  rcases this with rfl|rfl|rfl|rfl<;>ac_nf
 unfold atI ixN;rw[A1,A6 (by decide),A8 (by lia)];change((bw d).map pt)[((-1:Int)+((bw d).length:Int)).toNat]? =some (pt (pl d));rw[show((-1:Int)+((bw d).length:Int)).toNat=(bw d).length-1 by lia,AC,e.1];rfl
def zt:OKQ T.X54 P w base 22 spWayP:=by
 show FbO T.X54 wy λ_ _ _ _ H vs Q E hr h=>?_;have{n,k,0,hN,{h64,hsw},k2}:=h;show{_,(ai (aX (pcq (rA T) hr T.X2 (ab (pv 0) (ab (pv 1) af))))
  (ai (pSA (i:=2) wy.nd (pcq (Ml T) hr T.X45 (ab (pv 0) af)))
  (aj (am (aS (uI hr) (by rfl) T.n_sorted boot_sorted (ab (dO (XN:=["d","k","row"]) (sc:=al lK) (N:=["between","row"]) (own:=1) (js:=[2]) rfl (by ac_nf) rfl rfl (bh (pcq (zq T 20) hr T.X53 (ab (dI fg (pv 2) (du ag) (du (fb fe ag))) (ab (pv 1) af)))) (λ_ _ _ _=>(bZ (i:=0) (show List.Nodup (["between","row"]:Sk Str) by ac_nf) rfl (Or.inl rfl) (.inr rfl))) (dN (by decide)) (λ_ _ _ _=>df) (λ_ _ _ _=>(ah dR (ah dR (bd (ab (ao fh (pv 1) ag (λ_ _=>rfl)) af)) (pv 0)) (bd (ab (ao fh (pv 1) (fb fe ag) (λ_ _=>rfl)) af))))) af)))))),?_}
 have d1:1<=n:=hN.1;have d4:n<=4:=by unfold dE at hN;lia
 show{1,1,n,k,0,hN,?_};show{1,n,0,d1,4,λl0 H1 s1 Pk NN=>?_};have{_,rs,e,RB,his}:=ju NN;cases e;have N2:rs.length=(bw n).length:=by rw[his.length,A1]
 have plen:3<=(bw n).length/\(bw n).length<=15:=by
  have:n=1\/n=2\/n=3\/n=4:=by lia
  rcases this with rfl|rfl|rfl|rfl<;>ac_nf
 show{1,(1),0,(1),0,1,l0,rs,0,SqL.of RB,?_};rw[Mq (by lia)];intro b nb;have sb:ae H1 (upd H1 b (.lst ((rs.drop 1).dropLast))):=ae.new nb;have mlen:((rs.drop 1).dropLast).length=rs.length-2:=by simp;lia
 show{1,b,_,k,0,SqL.of ak,4,4,λl1 us H2 s2 nl1 NG L1=>?_};have mis:Iss H1 ((dm n).map pt) ((rs.drop 1).dropLast):=by
  unfold dm;have:=(his.drop 1);rw[<-DH] at this;have t2:=this.take ((rs.drop 1).length-1);rw[<-List.map_take] at t2;rw[List.dropLast_eq_take,List.dropLast_eq_take];rw[Bs] at t2⊢;rw[Bs,<-N2];show t2
 generalize (rs.drop 1).dropLast=ms at mis mlen sb s2 L1 nl1⊢;have Qj:ae H1 H2:=sb.trans s2;have Lis:∀(i:Nat) (w:Sk Pt),(lvA (dm n) k)[i]? =some w->E2 λa ws=>us[i]? =some (.ref a)/\H2 a=some (.lst ws)/\Iss H2 (w.map pt) ws:=λi w hw=>by
  have{ws,e1,e2}:=Ms (k:=k) mis i w hw;have{a,f1,_,f3}:=L1.2 i ws e1;show{a,ws,f1,f3,e2.mono Qj}
 have ulen:us.length=(lvA (dm n) k).length:=by rw[L1.1,Mt mis]
 have RZ:(bp n k).length=(lvA (dm n) k).length:=by unfold bp;rw[A1]
 show{l1,0,{_,SqL.of NG},λacc na=>?_};show gx (xs:=us) (own:=1) (js:=[2]) (λi H3=>ae H2 H3/\b8 H3 acc (((bp n k).take i).map pts)) {ae.new na,b8.start} (λi H3 _ h=>SqL.of (h.1 _ _ NG)) ?_ ?_ dP dg ?_
 .rintro i x H3 hi ⟨s3,vs,M',NS⟩;have QZ:i<(lvA (dm n) k).length:=by rw[<-ulen];show(AF.mp hi).1
  have{a1,ws,f1,f2,f3}:=Lis i _ (A2 QZ);rw[hi] at f1;cases f1;have wl:((lvA (dm n) k)[i]).length<=15:=by
   have:=md (dm n) k _ (DC QZ);have:(dm n).length<=(bw n).length:=by unfold dm;simp;lia
   lia
  have hrow:Is H3 (pts (bw n)) (.ref l0):=(NN.mono Qj).mono s3;have g0:atI ((bw n).map pt) 0=some (pt (p0 n)):=Gm (j:=0) rfl (Mu d1 d4);have gl:atI ((bw n).map pt) (-1)=some (pt (pl n)):=Mv d1 d4;show eB ?_;show{1,_,(0),_,hrow,0,g0,λu hu=>{(zB rfl),λc1 H4 n4 s4 h4=>?_}};show{1,_,_,aA h4 (ap (hu.mono s4) ax),aA (s4 _ _ (s3 _ _ f2)) ((f3.mono s3).mono s4),AZ (aF (by simp;lia)),λc2 H5 n5 s5 h5=>?_};show{1,(1),0,_,_,_,(hrow.mono s4).mono s5,0,gl,λu2 NY=>{(zB rfl),λc3 H6 n6 s6 h6=>?_}};show{_,_,h5.mono s6,aA h6 (ap (NY.mono s6) ax),AZ (aF (by simp;lia)),λc4 H7 n7 s7 h7=>?_};have s37:ae H3 H7:=((s4.trans s5).trans s6).trans s7;show{acc,vs,1,0,s37 _ _ M',aF (by rw[NS.length];simp;lia),(s3.trans s37).put na,?_};rw[AX,show(bp n k)[i]? =some ([p0 n]++(lvA (dm n) k)[i]++[pl n]) by unfold bp;rw[AC,A2 QZ];rfl,A7];have OU:=s6 _ _ (s5 _ _ (s4 _ _ M'));show jv (NS.mono (dQ s37)) (Mr (s7 _ _ OU) (bi OU n7).symm ?_);change Is H7 (.l (([p0 n]++(lvA (dm n) k)[i]++[pl n]).map pt)) _;rw[A7,A7];show h7
 .rintro H3 ⟨s3,g⟩;rw[ulen,<-RZ,AS] at g;have NB:ae H H3:=(s1.trans Qj).trans s3;have{_,vs,e,M',NS}:=aD g.is;cases e;have P4:vs.length=(bp n k).length:=by rw[NS.length,A1]
  show yO M' NS (λx v h=>let ⟨a,ys,e1,e2,_⟩:=ju h;{a,ys,e1,e2}) (λ_ _ _ _ h h'=>GA h h') h64 hsw λp q pp nq=>?_;show k2 (p.map λi=>(bp n k).getD i []) q _ (yP pp) (NB.put (NB.free nq)) (NB.free nq) ?_;show aA ak ((qz [] NS p λi h=>AY.mp (pp.mem_iff.mp h)).mono (ae.new nq))
 .rintro σ H R R' k ⟨v1,e1,xs,i,d,h1,e2,e3,h⟩;show{v1,e1,xs,i,d,h1,e2,e3,λu hu=>?_};have{z,h}:=h u hu;show{z,λp H2 np s2 hp=>?_};have{v2,f1,a1,a2,f2,f3,f4,h}:=h p H2 np s2 hp;show{v2,f1,a1,a2,f2,f3,f4,λp H3 np s3 hp=>?_};have{v3,g1,i3,g2,xs3,j3,d3,g3,g4,g5,h}:=h p H3 np s3 hp;show{v3,g1,i3,g2,xs3,j3,d3,g3,g4,g5,λu hu=>?_};have{z,h}:=h u hu;show{z,λp H4 np s4 hp=>?_};have{a1,a2,f2,f3,f4,h}:=h p H4 np s4 hp;show{a1,a2,f2,f3,f4,λp H5 np s5 hp=>k _ _ (h p H5 np s5 hp)}
def zu{P:Sf}{w:Si}{b:Se}{ka kb:Sk (Sk (Sk Int)×V)}(da:DN P w H a ka)(db:DN P w H b kb)(k:rq a b H H'):LTS H H':=by
 have{_,_,xs,_,e}:=da;have{_,_,ys,_,e2}:=db;show{λc zs h=>k _ _ h (by rintro rfl;rw[e] at h;cases h) (by rintro rfl;rw[e2] at h;cases h),λc zs h=>k _ _ h (by rintro rfl;rw[e] at h;cases h) (by rintro rfl;rw[e2] at h;cases h)}
def Mw:FnOk P w K mg base (CX0) 46 T.f58 T.d58 ["d","k"] spCbW:=by
 show FbO T.X58 iC λ_ _ _ _ H vs Q E hr h=>?_;have{d,k,0,hN,kk}:=h;show{_,(ai (aX (pcq (rA T) hr T.X2 (ab (pv 0) (ab (pv 1) af))))
  (ai (pSA (i:=2) iC.nd (pcq (Mo T) hr T.X56 (ab (pv 0) af)))
  (ai (pSA (i:=3) iC.nd (pcq (Mp T) hr T.X57 (ab (pv 0) af)))
  (ai (pSA (i:=4) iC.nd ag)
  (ai (aN AL rfl (bh (pcq (zt T) hr T.X54 (ab (pv 0) (ab (pv 1) af)))) (pGA (i:=5) iC.nd) (aj (gj (i:=4) iC.nd rfl (by trivial) (ah (FA FB) (pcq (rG T 40) hr T.X55 (ab (pv 0) (ab (pv 5) (ab (g8 (v:= .int (1)) (by rfl) T.m_LEFT {1}) (ab (pv 2) af))))) (pcq (rG T 40) hr T.X55 (ab (pv 0) (ab (pv 5) (ab (g8 (v:= .int (-1)) (by rfl) T.m_RIGHT {1}) (ab (pv 3) af)))))) gk)))
  (aj (am (pv 4)))))))),?_}
 have d1:1<=d:=hN.1;have d4:d<=4:=by unfold dE at hN;lia
 show{1,1,d,k,0,hN,?_};show{1,d,0,d1,d4,λko Ro H1 s1 nko hDo hKo=>?_};show{1,d,0,d1,d4,λku Ru H2 s2 QH hDu hKu=>?_};have hDo2:=hDo.mono s2;have kou:ko≠ku:=by
  have{_,_,xs,_,e}:=id hDo;rintro rfl;rw[e] at QH;cases QH
 have R0:H ku=none:=s1.free QH;show{1,1,d,k,0,hN,(mH hN).1.1,λS l H3 pS s3 nl hl=>?_};have hwk:∀w∈S,az d w:=λw hw=>(mH hN).1.2.1 w (pS.mem_iff.mp hw);rw[show eQ d (bp d k)=eQ d S from(LU pS).symm] at kk;clear pS;have{_,Nm,e,Oq,NK}:=aD hl;cases e;have Nz:Nm.length=S.length:=by rw[NK.length,A1]
 have Qd:=hDo2.mono s3;have Qe:=hDu.mono s3;have lko:l≠ko:=by
  have{_,_,xs,_,e}:=id hDo2;rintro rfl;rw[e] at nl;cases nl
 have lku:l≠ku:=by
  have{_,_,xs,_,e}:=id hDu;rintro rfl;rw[e] at nl;cases nl
 have NB:=(s1.trans s2).trans s3;show{l,0,{_,SqL.of Oq},bF (xs:=Nm) (λj σ H4=>(∃v5,σ=[some (.int d),some (.int k),some (.ref ko),some (.ref ku),some (.int (eQ d (S.take j))),v5])/\rq ko ku H3 H4/\(∃Ro,DN P w H4 ko (tK Ro)/\KnG d (upE d) (wW d) Ro)/\∃Ru,DN P w H4 ku (tK Ru)/\KnG d (loE d) (vW d) Ru) {{none,0},λc o e _ _=>e,{Ro,Qd,hKo},Ru,Qe,hKu} (λj σ H4 _ h=>SqL.of (h.2.1 _ _ Oq lko lku)) ?_ ?_}
 .rintro j y σ H4 hj ⟨⟨v5,rfl⟩,b4,⟨Ro4,Pb,R1⟩,Ru4,R5,R6⟩;have{ps,Nl,hy}:=bC NK hj;have ok:=hwk ps (AR Nl);have hy4:Is H4 (pts ps) y:=hy.lts (zu Qd Qe b4);have m1:=(qJ d4).lo ps ok;have m2:=(qK d4).lo ps ok;show{1,1,1,1,d,y,ko,ps,Ro4,(1),upE d,wW d,1,qJ d4,d1,d4,hy4,ok,4,Pb,R1,λRo5 H5 b5 R7 R8=>?_};have Pw:DN P w H5 ku (tK Ru4):=DN.but R5 Pb b5 (DE kou);have hy5:=hy4.lts (bI Pb b5);show{1,1,1,d,y,ku,ps,Ru4,-1,loE d,vW d,1,qK d4,d1,d4,hy5,ok,4,Pw,R6,λRu6 H6 b6 QI R9=>?_};have QJ:DN P w H6 ko (tK Ro5):=DN.but R7 Pw b6 kou;show{2,{(qJ d4).bits d4 ok,(qK d4).bits d4 ok},2,{some y,?_},λc o e n1 n2=>b6 _ _ (b5 _ _ (b4 c o e n1 n2) n1) n2,{Ro5,QJ,R8},Ru6,QI,R9};unfold eQ;rw[AX,Nl,A7,BQ];simp
 .rintro σ H4 ⟨⟨v5,rfl⟩,b4,_,_⟩;rw[Nz,AS];show{1,kk H4 λc o e=>b4 _ _ (NB _ _ e) (by rintro rfl;rw[nko] at e;cases e) (by rintro rfl;rw[R0] at e;cases e)}
def My:OKQ T.X9 P w base 1 (spWln K):=by
 show FbO T.X9 wo λ_ _ _ _ H vs Q E hr h=>?_;have{a,ns,0,hS,hn,kk}:=h;show{_,(ai (pSA (i:=1) wo.nd (c9 m4 (by rfl) T.n_list Dm (ab (pv 0) af)))
  (ai (kE AL (kz (kK (pv 1) (λ_=>rfl)) (ky (aP bQ (ao de (pv 1) (fb fe ag) (λ_ _=>rfl)) ag (aC _)))).pt (aj (aX (m5 Ad PySem.F.slot_list_pop PySem.F.type_list_pop tj (pv 1)))))
  (aj (am (pv 1))))),?_}
 show{1,a,1,.inl hS,λl hl=>?_};show kG (λσ H2=>E2 fun(cs:Sk Int) (b:Nat)=>σ=[some (.ref a),some (.ref l)]/\ae H H2/\H2 l=some (.lst (cs.map V.int))/\ns=cs++List.replicate b 0)
  (λ_ H2=>match H2 l with|some (.lst xs)=>xs.length|_=>0) {ns,(0),0,ae.new hl,ak,7} ?_ ?_
 .rintro σ H2 ⟨cs,b,rfl,s2,Nk,e⟩;rcases List.eq_nil_or_concat cs with rfl|⟨cs',z,Rg⟩
  .show{1,false,.inl {_,SqL.of Nk,0},aT (aT {1,kk l [] b H2 s2 hl Nk e (.inl rfl)})}
  .rw[List.concat_eq_append] at Rg;subst Rg;show{1,true,.inl {_,SqL.of Nk,7},ck ?_};show{1,(1),0,l,_,_,.int z,0,0,SqL.of Nk,by rw[A7];show EW _ _,0,1,?_};show bW (λhz=>?_) (λhz=>?_)
   .show{1,.inl {0,_,SqL.of Nk},l,_,.int z,0,0,Nk,7,?_};show{{cs',b+1,0,s2.put hl,by rw[ak,A7];simp,Kr e hz},?_};change(match upd H2 l _ l with|some (.lst xs)=>xs.length|_=>0)<(match H2 l with|some (.lst xs)=>xs.length|_=>0);rw[ak,Nk];simp
   .show{1,kk l _ b H2 s2 hl Nk e (.inr (by simpa using hz))}
 .intro σ H Q1 Q2 k h;have{v,e1,b,t1,h}:=h;show{v,e1,b,t1,?_};cases b with
  |false=>show aT (k _ _ (by simpa using h))
  |true=>
   rw[A8 rfl] at h;have{v2,e2,i,e3,p,xs,j,y,e4,e5,e6,e7,e8,b2,e9,h}:=h;show ck {v2,e2,i,e3,p,xs,j,y,e4,e5,e6,e7,e8,b2,e9,k _ _ h}
def gZ:OKQ T.X39 P w base 2 (spShade K):=by
 show FbO T.X39 lF λ_ _ _ _ H vs Q E hr h=>?_;have{Nc,a,ns,0,hS,hn,kk}:=h;show{_,(ai (pSA (i:=2) lF.nd (pcq (My T) hr T.X9 (ab (pv 1) af)))
  (ai (aR (cG (kK (pv 2) (λ_=>rfl))) (aj (am (mY (ab ag (ab (dZ af) af))))) aQ)
  (ai (pSA (i:=3) lF.nd ag)
  (ai (kE AL (aP bQ (ao de (pv 2) (pv 3) (λ_ _=>rfl)) ag (aC _)) (aj (gj (i:=3) lF.nd rfl (by trivial) ag gk)))
  (aj (am (mY (ab (ah aH (pv 0) (pv 3)) (ab (dI fg (pv 2) (du (pv 3)) em) af))))))))),?_}
 show{1,a,ns,0,hS,hn,λl ks b H2 s2 nl Nk e hk=>?_};by_cases hks:ks=[]
 .subst hks;show{1,false,.inl {_,SqL.of Nk,0},ck ?_};show{AW _,λl2 n2=>{(zB rfl),λt nt=>?_}};show kk.mk (zs:=[]) s2 n2 nt (.inl {0,0,λz hz=>?_});rw[e] at hz;show List.eq_of_mem_replicate (by simpa using hz)
 .have OX:ks.getLast? ≠some 0:=hk.resolve_left hks;show{1,true,.inl {_,SqL.of Nk,by cases ks with|nil=>show absurd rfl hks|cons _ _=>rfl},aT ?_};have Oj:0<ks.length:=Cj.mpr hks;show kG (λσ H3=>∃i:Nat,σ=[some (.int Nc),some (.ref a),some (.ref l),some (.int i)]/\H3=H2/\i<ks.length/\ks.take i=List.replicate i 0)
   (fun(σ:L2.St) _=>match σ[3]? with|some (some (V.int j))=>ks.length-j.toNat|_=>0) {(0),0,0,Oj,0} ?_ ?_
  .rintro σ H3 ⟨i,rfl,rfl,hi,ht⟩;show{1,1,l,_,2,SqL.of Nk,Lv hi,0,1,?_};show bW (λhz=>?_) (λhz=>?_)
   .have OP:=Kq hi OX hz;show{1,2,{i+1,0,0,OP,Kp hi ht hz},?_};change ks.length-((i:Int)+1).toNat<ks.length-(i:Int).toNat;lia
   .show{1,1,2,1,1,1,l,1,SqL.of Nk,?_};rw[Lw (AZ hi)];intro l2 n2;show{(zB rfl),λt nt=>?_};show kk.mk s2 n2 nt (xV e OX hi ht hz)
  .intro σ H Q1 Q2 k h;have{v1,e1,v2,e2,p,xs,j,y,e4,e5,e6,e7,e8,b2,e9,h}:=h;show{v1,e1,v2,e2,p,xs,j,y,e4,e5,e6,e7,e8,b2,e9,k _ _ h}
def Mz:OKQ T.X42 P w base 3 (spTurned K):=by
 show FbO T.X42 Jg λ_ _ _ _ H vs Q E hr h=>?_;have{t,p,lo,zs,0,hT,hP,hn,kk}:=h;show{_,(aj (am (pcq (gZ T) hr T.X39 (ab (ah aI (ah aI ag (ao bA (pv 0) ag (λ_ _=>rfl))) (aS dw (by rfl) T.n_len CZ (ab (ao bA (pv 0) ag (λ_ _=>rfl)) af))) (ab (tU rfl (by rfl) T.n_list (by rfl) T.n_reversed (ao bA (pv 0) ag (λ_ _=>rfl))) af))))),?_};show{1,t,_,2,hT,by rfl,2,1,t,_,2,hT,by rfl,p,1,.inl hP,2,?_};show{1,t,_,2,hT,by rfl,p,1,hP,λl nl=>?_};show{_,l,zs.reverse,0,SqL.of (by rw[ak,List.map_reverse]),by simpa using hn,λt' l' Op ws H' s' OV NZ ND tr=>kk t' l' Op ws H' ((ae.new nl).trans s') ((ae.new nl).free OV) NZ ND ?_};simpa using tr
def MA:OKQ T.X43 P w base 1 (spAtOne K):=by
 show FbO T.X43 Jh λ_ _ _ _ H vs Q E hr h=>?_;have{t,p,lo,zs,0,hT,hP,kk}:=h;show{_,(aj (am (aS (gy rfl) (by rfl) T.n_sum Dl (ab (ao bA (pv 0) ag (λ_ _=>rfl)) af)))),?_};show{1,t,_,2,hT,by rfl,p,zs,0,hP,kk}
def MB:OKQ T.X10 P w base 1 (spList dn (λ_ _=>True) K):=by
 show FbO T.X10 jI λ_ _ _ _ H vs Q E hr h=>?_;have{a,c,xs,ys,0,hA,hC,la,lc,_,kk}:=h;show{_,(ai (pSA (i:=2) jI.nd (ah jg (dZ (ab ag af)) (aS (ED rfl) (by rfl) T.n_max boot_max (ab (aS dw (by rfl) T.n_len CZ (ab (pv 0) af)) (ab (aS dw (by rfl) T.n_len CZ (ab (pv 1) af)) af)))))
  (ai (aN AL rfl (rZ (mY (ab (pv 0) (ab (pv 1) af)))) (pGA (i:=3) jI.nd) (aj (aN AL rfl (ie (by rfl) T.n_enumerate (pv 3)) (bV rfl (aL (pGA (i:=4) jI.nd) (aL (pGA (i:=5) jI.nd) bJ))) (aj (kD (pv 2) (pv 4) kS (pv 5) gk je)))))
  (aj (am (pv 2))))),?_}
 show{(zB rfl),λl0 n0=>?_};have s0:ae H (upd H l0 (.lst [.int 0])):=ae.new n0;show{1,a,1,.inl (s0.seq hA),1,c,1,.inl (s0.seq hC),3,?_};rw[A1,A1];have hm:(if(ys.length:Int)>(xs.length:Int) then(ys.length:Int) else(xs.length:Int))=((max xs.length ys.length:Nat):Int):=by split<;>lia
 rw[hm];have hmx:max xs.length ys.length<=400:=by lia
 show{l0,2,ak,4,4,?_,?_}
 .rw[Ag,Bc,Nat.one_mul];show AZ (aF (by lia))
 rw[Ag,mJ];intro lt nt;have sT:ae H (upd (upd H l0 (.lst [.int 0])) lt (.lst ((List.replicate (max xs.length ys.length) (0:Int)).map V.int))):=s0.put (s0.free nt);have nlt:H lt=none:=s0.free nt;have Nb:(upd (upd H l0 (.lst [.int 0])) lt (.lst ((List.replicate (max xs.length ys.length) (0:Int)).map V.int))) lt=some (.lst ((List.replicate (max xs.length ys.length) (0:Int)).map V.int)):=ak;generalize upd (upd H l0 (.lst [.int 0])) lt (.lst ((List.replicate (max xs.length ys.length) (0:Int)).map V.int))=H1 at sT Nb⊢;show{1,1,(zB rfl),λtt ntt=>?_};have nttH:H tt=none:=sT.free ntt;have ntl:tt≠lt:=(bi Nb ntt).symm;show{tt,0,{_,SqT.of ak},r6 (xs:=[.ref a,.ref c]) (λi σ H2=>∃v3 v4 v5:Sn V,σ=[some (.ref a),some (.ref c),some (.ref lt),v3,v4,v5]/\ae H H2/\H2 tt=some (.tup [.ref a,.ref c])/\
  H2 lt=some (.lst ((if i=0 then List.replicate (max xs.length ys.length) (0:Int) else if i=1 then aV (List.replicate (max xs.length ys.length) 0) 0 xs else dn xs ys).map V.int)))
  {none,none,none,0,sT.put nttH,ak,by rw[av ntl.symm];show Nb} (λi σ H2 _ No=>by have{_,_,_,_,_,h,_}:=No;show SqT.of h) ?_ ?_}
 .rintro i x σ H2 hi ⟨v3,v4,v5,rfl,s2,htt,NJ⟩;obtain⟨z,zs,ts,rfl,hz,lz,e0,e1⟩:E3 fun(z:Se) (zs ts:Sk Int)=>x=.ref z/\SqL K H z (zs.map V.int)/\zs.length<=ts.length/\(if i=0 then List.replicate (max xs.length ys.length) (0:Int) else if i=1 then aV (List.replicate (max xs.length ys.length) 0) 0 xs else dn xs ys)=ts/\
    (if i+1=0 then List.replicate (max xs.length ys.length) (0:Int) else if i+1=1 then aV (List.replicate (max xs.length ys.length) 0) 0 xs else dn xs ys)=aV ts 0 zs:=by
   match i,hi with
   |0,hi=>
    cases hi;show{a,xs,1,hA,by simp;lia,0,0}
   |1,hi=>
    cases hi;show{c,ys,1,hC,by simp[dX];lia,0,0}
  rw[e0] at NJ;rw[e1];show{1,z,0,{_,s2.seq hz},jt (xs:=zs.map V.int) (λj σ H3=>∃v4 v5:Sn V,σ=[some (.ref a),some (.ref c),some (.ref lt),some (.ref z),v4,v5]/\ae H H3/\H3 tt=some (.tup [.ref a,.ref c])/\H3 lt=some (.lst ((aV ts 0 (zs.take j)).map V.int)))
   {v4,v5,0,s2,htt,by rw[List.take_zero,qM];show NJ} (λj σ H3 _ No=>by have{_,_,_,h,_}:=No;show h.seq hz) ?_ ?_}
  .rintro j x σ H3 p hx ⟨v4,v5,rfl,s3,Qf,OD⟩ np;rw[AC] at hx;have{y,hy,0}:=A'.mp hx;have hj:j<zs.length:=(AF.mp hy).1;have nlp:lt≠p:=bi OD np;have Na:(aV ts 0 (zs.take j)).length=ts.length:=dX _ _ _;have Q9:upd H3 p (.tup [.int j,.int y]) lt=some (.lst ((aV ts 0 (zs.take j)).map V.int)):=by rw[av nlp];show OD
   show{p,1,SqT.of ak,0,3,2,?_};show{1,1,lt,_,j,_,.int ((aV ts 0 (zs.take j)).getD j 0),0,0,0,SqL.of Q9,?_,1,2,lt,_,_,j,0,0,Q9,jr (by rw[A1];lia),?_}
   .show yy (by lia)
   .show{3,(s3.put (s3.free np)).put nlt,?_,?_}
    .rw[av (kt Qf OD (by intro z;cases z)),av (bi Qf np)];show Qf
    .rw[ak];have e:=mj ts 0 (zs.take j) y (by rw[Ai];lia);rw[Ai,DS (AZ hj),C4] at e;have e3:zs.take (j+1)=zs.take j++[y]:=by rw[AX,hy];rfl
     rw[e3,<-e,List.map_set]
  .rintro σ H3 ⟨v4,v5,rfl,s3,Qf,OD⟩;rw[A1,AS] at OD;show{_,3,s3,Qf,OD}
 .rintro σ H2 ⟨v3,v4,v5,rfl,s2,htt,NJ⟩;show{1,kk lt H2 s2 nlt NJ}
def MC:OKQ T.X11 P w base 1 (spList (λxs ys=>cv xs ys xs.length) (λxs _=>∀x∈xs,-(10^18)<=x/\x<=10^18) K):=by
 show FbO T.X11 iw λ_ _ _ _ H vs Q E hr h=>?_;have{a,c,xs,ys,0,hA,hC,la,lc,hB,kk}:=h;show{_,(ai (pSA (i:=2) iw.nd (ah jg (dZ (ab ag af)) (ah aH (aS dw (by rfl) T.n_len CZ (ab (pv 0) af)) (aS dw (by rfl) T.n_len CZ (ab (pv 1) af)))))
  (ai (aN AL rfl (ie (by rfl) T.n_enumerate (pv 0)) (bV rfl (aL (pGA (i:=3) iw.nd) (aL (pGA (i:=4) iw.nd) bJ))) (aj (aN AL rfl (ie (by rfl) T.n_enumerate (pv 1)) (bV rfl (aL (pGA (i:=5) iw.nd) (aL (pGA (i:=6) iw.nd) bJ))) (aj (kD (pv 2) (ah aH (pv 3) (pv 5)) kS (ah bo (pv 4) (pv 6)) gk je)))))
  (aj (am (pv 2))))),?_}
 show{(zB rfl),λl0 n0=>?_};have s0:ae H (upd H l0 (.lst [.int 0])):=ae.new n0;show{1,a,1,.inl (s0.seq hA),1,c,1,.inl (s0.seq hC),2,?_};dsimp only;rw[A1,A1,show(xs.length:Int)+(ys.length:Int)=((xs.length+ys.length:Nat):Int) by lia];show{l0,2,ak,4,4,?_,?_}
 .rw[Ag,Bc,Nat.one_mul];show AZ (aF (by lia))
 rw[Ag,mJ];intro lt nt;have sT:ae H (upd (upd H l0 (.lst [.int 0])) lt (.lst ((List.replicate (xs.length+ys.length) (0:Int)).map V.int))):=s0.put (s0.free nt);have nlt:H lt=none:=s0.free nt;have Nb:(upd (upd H l0 (.lst [.int 0])) lt (.lst ((List.replicate (xs.length+ys.length) (0:Int)).map V.int))) lt=some (.lst ((cv xs ys 0).map V.int)):=ak;generalize upd (upd H l0 (.lst [.int 0])) lt (.lst ((List.replicate (xs.length+ys.length) (0:Int)).map V.int))=H1 at sT Nb⊢;show{1,a,0,{_,sT.seq hA},jt (xs:=xs.map V.int) (λi σ H2=>∃v3 v4 v5 v6:Sn V,σ=[some (.ref a),some (.ref c),some (.ref lt),v3,v4,v5,v6]/\ae H H2/\H2 lt=some (.lst ((cv xs ys i).map V.int)))
  {none,none,none,none,0,sT,Nb} (λi σ H2 _ No=>by have{_,_,_,_,_,h,_}:=No;show h.seq hA) ?_ ?_}
 .rintro i x σ H2 p hx ⟨v3,v4,v5,v6,rfl,s2,NJ⟩ np;rw[AC] at hx;have{x,Nl,0}:=A'.mp hx;have hi:i<xs.length:=(AF.mp Nl).1;have ex:xs.getD i 0=x:=by rw[List.getD,Nl];rfl
  have bx:=hB x (AR Nl);show{p,1,SqT.of ak,0,3,2,?_};have s3:ae H (upd H2 p (.tup [.int i,.int x])):=s2.put (s2.free np);have OD:upd H2 p (.tup [.int i,.int x]) lt=some (.lst ((cv xs ys i).map V.int)):=by rw[av (bi NJ np)];show NJ
  generalize upd H2 p (.tup [.int i,.int x])=H3 at s3 OD⊢;have ln:=j9 xs ys i;show{1,c,0,{_,s3.seq hC},jt (xs:=ys.map V.int) (λj σ H4=>∃v5 v6:Sn V,σ=[some (.ref a),some (.ref c),some (.ref lt),some (.int i),some (.int x),v5,v6]/\ae H H4/\H4 lt=some (.lst ((aV (cv xs ys i) i ((ys.take j).map (x* ·))).map V.int)))
   {v5,v6,0,s3,by rw[List.take_zero,Dd,qM];show OD} (λj σ H4 _ No=>by have{_,_,_,h,_}:=No;show h.seq hC) ?_ ?_}
  .rintro j y σ H4 p2 hy ⟨v5,v6,rfl,s4,Qg⟩ np2;rw[AC] at hy;have{y,On,0}:=A'.mp hy;have hj:j<ys.length:=(AF.mp On).1;have Na:(aV (cv xs ys i) i ((ys.take j).map (x* ·))).length=xs.length+ys.length:=by rw[dX,ln]
   have PB:upd H4 p2 (.tup [.int j,.int y]) lt=some (.lst ((aV (cv xs ys i) i ((ys.take j).map (x* ·))).map V.int)):=by rw[av (bi Qg np2)];show Qg
   show{p2,1,SqT.of ak,0,3,2,?_};show{1,1,1,2,lt,_,i+j,_,.int ((aV (cv xs ys i) i ((ys.take j).map (x* ·))).getD (i+j) 0),0,0,4,SqL.of PB,?_,1,1,2,.inl {4,4},2,lt,_,_,i+j,0,0,PB,?_,?_}
   .show yy (by lia)
   .rw[show(i:Int)+(j:Int)=((i+j:Nat):Int) by lia];show jr (by rw[A1];lia)
   .show{3,(s4.put (s4.free np2)).put nlt,?_};rw[ak];have e:=mj (cv xs ys i) i ((ys.take j).map (x* ·)) (x*y) (by rw[A1,Ai];lia);rw[A1,Ai,DS (AZ hj)] at e;have e3:ys.take (j+1)=ys.take j++[y]:=by rw[AX,On];rfl
    rw[e3,A7,List.map_singleton,<-e,List.map_set]
  .rintro σ H4 ⟨v5,v6,rfl,s4,Qg⟩;rw[A1,AS] at Qg;show{_,_,3,s4,?_};rw[cv,ex];show Qg
 .rintro σ H2 ⟨v3,v4,v5,v6,rfl,s2,NJ⟩;rw[A1] at NJ;show{1,kk lt H2 s2 nlt NJ}
def MD:OKQ T.X44 P w base 3 spStretch:=by
 show FbO T.X44 Ji λ_ _ _ _ H vs Q E hr h=>?_;have{w,0,h1,h2,kk}:=h;show{_,(aj (am (pcq (gZ T) hr T.X39 (ab (ah aI ag (pv 0)) (ab (dO (XN:=["w"]) (sc:=al lG) (N:=["place"]) (own:=1) (js:=[]) rfl (by ac_nf) rfl rfl (eZ (by rfl) T.n_range (ab (ah aI (ah bo ag (pv 0)) ag) af)) (λ_ _ _ _=>(bZ (i:=0) (show List.Nodup (["place"]:Sk Str) by ac_nf) rfl (Or.inl rfl) (.inr rfl))) (dN (by decide)) (λ_ _ _ _=>df) (λ_ _ _ _=>(ah aI ag (ah fc (pv 0) ag)))) af))))),?_};show{1,2,1,2,.inl {5,5},2,1,4,4,λacc na=>?_};have en:((2:Int)*(w:Int)-1).toNat=2*w-1:=by lia
 rw[en];show jq (lo:=0) (n:=2*w-1) (own:=1) (js:=[]) (λi H2=>ae H H2/\H2 acc=some (.lst (((List.range i).map λp:Nat=>1-((p:Nat):Int)%2).map V.int))) {ae.new na,ak} ?_ ?_ dP dg ?_
 .rintro i H2 hi ⟨s2,M'⟩;show eB ?_;show{1,2,(show(0:Int)<2 by decide),2,acc,2,M',aF (by simp;lia),s2.put na,?_};rw[ak,Aw,A7,A7,D3];rfl
 .rintro H2 ⟨s2,M'⟩;show{_,acc,cu w,0,SqL.of M',by rw[qO];lia,λt l lo zs H' s' nl ht hl tr=>?_};have{e1,e2}:=(Kv h1).unique tr;subst e1;subst e2;show kk t l _ _ H' (s2.trans s') (s2.free nl) ht hl {0,0}
 .rintro σ H R R' k ⟨v1,e1,i1,j1,e2,e3,c1,i2,j2,e4,e5,h⟩;show{v1,e1,i1,j1,e2,e3,c1,i2,j2,e4,e5,k _ _ h}
def ME:OKQ T.X41 P w base 3 (spTwo Ent br K):=by
 show FbO T.X41 Jf λ_ _ _ _ H vs Q E hr h=>?_;have{t,u,p,q,l1,l2,z1,z2,0,ht,hp,hu,hq,n1,n2,_,_,_,_,hB,kk}:=h;show{_,(aj (am (pcq (gZ T) hr T.X39 (ab (ah aH (ao bA (pv 0) ag (λ_ _=>rfl)) (ao bA (pv 1) ag (λ_ _=>rfl))) (ab (pcq (MC T) hr T.X11 (ab (ao bA (pv 0) ag (λ_ _=>rfl)) (ab (ao bA (pv 1) ag (λ_ _=>rfl)) af))) af))))),?_};show{1,t,_,2,SqT.of ht,by rfl,1,u,_,2,SqT.of hu,by rfl,2,?_};show{1,t,_,2,SqT.of ht,by rfl,1,u,_,2,SqT.of hu,by rfl,?_};show{p,q,z1,z2,0,SqL.of hp,SqL.of hq,4,4,λx hx=>{by have:=hB x hx;lia,by have:=hB x hx;lia},λl H1 s1 nl hl=>?_};show{_,l,cv z1 z2 z1.length,0,SqL.of hl,by rw[j9];lia,λt' l' lo zs H' s' OV NZ ND tr=>?_};show kk t' l' lo zs H' (s1.trans s') (s1.free OV) NZ ND tr.toC
def zw:OKQ T.X40 P w base 3 (spTwo (λ_=>True) aK K):=by
 show FbO T.X40 wp λ_ _ _ _ H vs Q E hr h=>?_;have{t,u,p,q,l1,l2,z1,z2,0,ht,hp,hu,hq,n1,n2,a1,a2,b1,b2,hB,kk}:=h;show{_,(ai (aR (cG (kK (ao bA (pv 0) ag (λ_ _=>rfl)) (λ_=>rfl))) (aj (am (pcq (gZ T) hr T.X39 (ab (ao bA (pv 1) ag (λ_ _=>rfl)) (ab (ao bA (pv 1) ag (λ_ _=>rfl)) af))))) aQ)
  (ai (aR (cG (kK (ao bA (pv 1) ag (λ_ _=>rfl)) (λ_=>rfl))) (aj (am (pcq (gZ T) hr T.X39 (ab (ao bA (pv 0) ag (λ_ _=>rfl)) (ab (ao bA (pv 0) ag (λ_ _=>rfl)) af))))) aQ)
  (ai (pSA (i:=2) wp.nd (aS (sI rfl) (by rfl) T.n_min boot_min (ab (ao bA (pv 0) ag (λ_ _=>rfl)) (ab (ao bA (pv 1) ag (λ_ _=>rfl)) af))))
  (aj (am (pcq (gZ T) hr T.X39 (ab (pv 2) (ab (pcq (MB T) hr T.X10 (ab (ah hG (ah jg (dZ (ab ag af)) (ah aI (ao bA (pv 0) ag (λ_ _=>rfl)) (pv 2))) (ao bA (pv 0) ag (λ_ _=>rfl))) (ab (ah hG (ah jg (dZ (ab ag af)) (ah aI (ao bA (pv 1) ag (λ_ _=>rfl)) (pv 2))) (ao bA (pv 1) ag (λ_ _=>rfl))) af))) af)))))))),?_}
 by_cases P3:z1=[]
 .subst P3;show{1,t,_,_,.ref p,0,0,SqT.of ht,by rfl,false,.inl {_,SqL.of hp,0},ck ?_};show{1,u,_,2,SqT.of hu,by rfl,1,u,_,2,SqT.of hu,by rfl,?_};show{l2,q,z2,0,SqL.of hq,4,λt' l' lo zs H' s' OV NZ ND tr=>kk t' l' lo zs H' s' OV NZ ND tr.toC}
 .have i1:z1.isEmpty=false:=by cases z1 with|nil=>show absurd rfl P3|cons _ _=>rfl
  show{1,t,_,_,.ref p,0,0,SqT.of ht,by rfl,true,.inl {_,SqL.of hp,by cases z1 with|nil=>show absurd rfl P3|cons _ _=>rfl},aT ?_};by_cases hz2:z2=[]
  .subst hz2;show{1,u,_,_,.ref q,0,0,SqT.of hu,by rfl,false,.inl {_,SqL.of hq,0},ck ?_};show{1,t,_,2,SqT.of ht,by rfl,1,t,_,2,SqT.of ht,by rfl,?_};show{l1,p,z1,0,SqL.of hp,4,λt' l' lo zs H' s' OV NZ ND tr=>kk t' l' lo zs H' s' OV NZ ND ?_};unfold aK;rw[A6 (by rw[i1];decide)];show tr.toC
  .have i2:z2.isEmpty=false:=by cases z2 with|nil=>show absurd rfl hz2|cons _ _=>rfl
   show{1,u,_,_,.ref q,0,0,SqT.of hu,by rfl,true,.inl {_,SqL.of hq,by cases z2 with|nil=>show absurd rfl hz2|cons _ _=>rfl},aT ?_};show{1,t,_,2,SqT.of ht,by rfl,1,u,_,2,SqT.of hu,by rfl,3,?_};have fin:∀{lo:Int}{zs:Sk Int},Tr (if l2<l1 then l2 else l1) (dn (List.replicate (l1-(if l2<l1 then l2 else l1)).toNat 0++z1) (List.replicate (l2-(if l2<l1 then l2 else l1)).toNat 0++z2)) lo zs->(lo,zs)=aK (l1,z1) (l2,z2):=fun{lo zs} tr=>by
    unfold aK;rw[A6 (by rw[i1];decide),A6 (by rw[i2];decide)];show tr.toC
   have hlow: -100<=(if l2<l1 then l2 else l1)/\(if l2<l1 then l2 else l1)<=100/\(if l2<l1 then l2 else l1)<=l1/\(if l2<l1 then l2 else l1)<=l2:=by split<;>lia
   generalize (if l2<l1 then l2 else l1)=Nc at fin hlow⊢;show{1,(zB rfl),λc1 nc1=>?_};have s1:ae H (upd H c1 (.lst [.int 0])):=ae.new nc1;have QT:upd H c1 (.lst [.int 0]) c1=some (.lst [.int 0]):=ak;generalize upd H c1 (.lst [.int 0])=H1 at s1 QT⊢;show{1,t,_,2,SqT.of (s1 _ _ ht),by rfl,1,2,c1,2,QT,4,4,?_,?_}
   .rw[Bc,Nat.one_mul];show AZ (aF (by lia))
   rw[mJ];intro c2 nc2;generalize hH2:upd H1 c2 _=H2;have s2:ae H1 H2:=hH2▸ae.new nc2;have Ou:H2 c2=some (.lst ((List.replicate (l1-Nc).toNat (0:Int)).map V.int)):=by rw[<-hH2];show ak
   clear hH2;have s2:=s1.trans s2;show{1,t,_,_,.ref p,0,0,SqT.of (s2 _ _ ht),by rfl,c2,p,2,Ou,s2 _ _ hp,?_,?_}
   .rw[A1,A1,Ah];show AZ (aF (by lia))
   rw[<-A7];intro c3 nc3;generalize hH3:upd H2 c3 _=H3;have s3:ae H2 H3:=hH3▸ae.new nc3;have Sa:H3 c3=some (.lst ((List.replicate (l1-Nc).toNat (0:Int)++z1).map V.int)):=by rw[<-hH3];show ak
   clear hH3;have s3:=s2.trans s3;show{(zB rfl),λd1 nd1=>?_};generalize hH4:upd H3 d1 _=H4;have s4:ae H3 H4:=hH4▸ae.new nd1;have hd1:H4 d1=some (.lst [.int 0]):=by rw[<-hH4];show ak
   clear hH4;have Sa:=s4 _ _ Sa;have s4:=s3.trans s4;show{1,u,_,2,SqT.of (s4 _ _ hu),by rfl,1,2,d1,2,hd1,4,4,?_,?_}
   .rw[Bc,Nat.one_mul];show AZ (aF (by lia))
   rw[mJ];intro d2 nd2;generalize hH5:upd H4 d2 _=H5;have s5:ae H4 H5:=hH5▸ae.new nd2;have Om:H5 d2=some (.lst ((List.replicate (l2-Nc).toNat (0:Int)).map V.int)):=by rw[<-hH5];show ak
   clear hH5;have Sa:=s5 _ _ Sa;have s5:=s4.trans s5;show{1,u,_,_,.ref q,0,0,SqT.of (s5 _ _ hu),by rfl,d2,q,2,Om,s5 _ _ hq,?_,?_}
   .rw[A1,A1,Ah];show AZ (aF (by lia))
   rw[<-A7];intro d3 nd3;generalize hH6:upd H5 d3 _=H6;have s6:ae H5 H6:=hH6▸ae.new nd3;have hd3:H6 d3=some (.lst ((List.replicate (l2-Nc).toNat (0:Int)++z2).map V.int)):=by rw[<-hH6];show ak
   clear hH6;have Sa:=s6 _ _ Sa;have s6:=s5.trans s6;show{c3,d3,3,SqL.of Sa,SqL.of hd3,by simp;lia,by simp;lia,trivial,λl H7 s7 nl hl=>?_};show{Nc,l,1,SqL.of hl,?_,λt' l' lo zs H' s' OV NZ ND tr=>?_}
   .simp[dn,dX];lia
   .have s7:=s6.trans s7;show kk t' l' lo zs H' (s7.trans s') (s7.free OV) NZ ND (fin tr)
theorem i8:OKQ T.X41 P w base 3 (spMx Ent br):=FnOk.imp (ME T) λvs H Q E h=>by
 have{v,u,x,y,0,hv,hu,sx,sy,hB,kk}:=h;have{t,p,0,ht,hp}:=eT hv;have{t2,q,0,RF,hq}:=eT hu;show{t,t2,p,q,x.1,y.1,x.2,y.2,0,ht,hp,RF,hq,sx.1,sy.1,sx.2.1,sx.2.2,sy.2.1,sy.2.2,hB,λt' l' lo zs H' s' OV NZ ND e=>kk _ H' s' (by rw[show br x y=(lo,zs) from e.symm];show gf NZ ND)}
theorem rH:OKQ T.X40 P w base 3 (spMx (λ_=>True) aK):=FnOk.imp (zw T) λvs H Q E h=>by
 have{v,u,x,y,0,hv,hu,sx,sy,hB,kk}:=h;have{t,p,0,ht,hp}:=eT hv;have{t2,q,0,RF,hq}:=eT hu;show{t,t2,p,q,x.1,y.1,x.2,y.2,0,ht,hp,RF,hq,sx.1,sy.1,sx.2.1,sx.2.2,sy.2.1,sy.2.2,hB,λt' l' lo zs H' s' OV NZ ND e=>kk _ H' s' (by rw[show aK x y=(lo,zs) from e.symm];show gf NZ ND)}
theorem zx:OKQ T.X44 P w base 3 spStS:=FnOk.imp (MD T) λvs H Q E h=>by
 have{n,0,h1,h2,kk}:=h;show{n,0,h1,h2,λt' l' lo zs H' s' OV NZ ND e=>kk _ H' s' (by have{e1,e2}:=e;subst e1 e2;show gf (s:=cj n) NZ ND)}
theorem MF:OKQ T.X40 P w base 3 spAdN:=FnOk.imp (zw T) λvs H Q E h=>by
 have{v,u,x,y,0,hv,hu,sx,sy,kk}:=h;have{t,p,0,ht,hp}:=eT hv;have{t2,q,0,RF,hq}:=eT hu;show{t,t2,p,q,x.1,y.1,x.2,y.2,0,ht,hp,RF,hq,sx.1,sy.1,sx.2.1,sx.2.2,sy.2.1,sy.2.2,trivial,λt' l' lo zs H' s' OV NZ ND e=>kk _ H' s' (by rw[show aK x y=(lo,zs) from e.symm];show gf NZ ND) {t',l',lo,0,NZ,OV}}
def rJ:OKQ T.X59 P w base 3 spOfN:=by
 show FbO T.X59 Jp λ_ _ _ _ H vs Q E hr h=>?_;have{n,0,kk}:=h;show{_,(aj (am (pcq (gZ T) hr T.X39 (ab ag (ab (bd (ab (pv 0) af)) af))))),?_};show{1,(zB rfl),λl H1 nl s1 hl=>?_};show{(0),l,[n],0,SqL.of hl,7,λt' l' lo zs H' s' OV NZ ND tr=>kk _ H' (s1.trans s') ?_ {t',l',lo,0,NZ,s1.free OV}};rw[show ofN n=(lo,zs) from tr.toC.symm];show gf NZ ND
theorem gg:OKQ T.X59 P w base 3 spOf:=FnOk.imp (rJ T) λvs H Q E h=>by
 have{n,0,kk}:=h;show{n,0,λv' H' s' h _=>kk v' H' s' h}
def zy(h1:1<=n)(h2:n<=50):Sms (cj n):=by
 have h:=mr h1;unfold Sup at h;unfold Sms;lia
def zA:OKQ T.X60 P w base 4 spStr:=by
 show FbO T.X60 lL λ_ _ _ _ H vs Q E hr h=>?_;have{v,ws,0,hv,hB,kk}:=h;show{_,(ai (pSA (i:=1) lL.nd (pcq (gg T) hr T.X59 (ab ag af)))
  (ai (aN AL rfl (bh (pv 0)) (pGA (i:=2) lL.nd) (aj (pSA (i:=1) lL.nd (pcq (i8 T) hr T.X41 (ab (pv 1) (ab (pcq (zx T) hr T.X44 (ab (pv 2) af)) af))))))
  (aj (am (pv 1))))),?_}
 show{(1),0,λv1 H1 s1 OG=>?_};have{la,Nm,0,hl,NK}:=aD hv;obtain rfl:=ig NK;have NG:=s1 _ _ hl;show{1,la,0,{_,SqL.of NG},bF (xs:=ws.map V.int) (λi σ H2=>(E2 λvp v2=>σ=[some (.ref la),some vp,v2]/\Is H2 (shD ((ws.take i).foldl (λt w=>br t (cj w.toNat)) (ofN 1))) vp)/\ae H1 H2) {{v1,none,0,OG},ae.refl _} (λi σ H2 _ h=>SqL.of (h.2 _ _ NG)) ?_ ?_}
 .rintro i y σ H2 hi ⟨⟨vp,v2,rfl,hvp⟩,s2⟩;rw[AC] at hi;have{wt,hw,0}:=A'.mp hi;have{c1,c2,c3}:=yb hB i wt hw;have c1:=eS c1;have{n,0}:=B4 (show 0<=wt by lia);show{1,1,n,0,4,4,λvt H3 s3 Od=>?_};show{vp,vt,3,hvp.mono s3,Od,c1.1,zy (by lia) (by lia),c1.2,λvm H4 s4 QK=>?_};show{{vm,1,?_},(s2.trans s3).trans s4};rw[iR hw];show QK
 .rintro σ H2 ⟨⟨vp,v2,rfl,hvp⟩,s2⟩;rw[A1,AS] at hvp;show{1,kk vp H2 (s1.trans s2) hvp}
theorem rK:∀n:Nat,FnOk P w K mg base CX0 (n+5) T.f61 T.d61 ["d","way","side","known"] (spWSh P w n)
 |0=>{λvs H Q E h=>(by have{_,_,_,_,_,_,_,_,_,SD,_,_,ok,h,_}:=h;have:=(SD.lo _ ok).1;lia),λA outer s H args us vs Q E _ _ _ _ h=>(by have{_,_,_,_,_,_,_,_,_,SD,_,_,ok,h,_}:=h;have:=(SD.lo _ ok).1;lia)}
 |n+1=>by
  have ih:=rK n;show T.X61.F.ok iD (λvs H Q E h=>?_) (λNu A outer s H vs Q E hr h=>?_)
  .have{_,_,_,_,_,_,_,_,0,_}:=h;rfl
  .have{d,v,kn,ps,M7,sg,e0,mu,0,SD,d4,hv,ok,hn,hD,hK,kk}:=h;show{_,(ai (pSA (i:=4) iD.nd (c9 fK (by rfl) T.n_tuple DX (ab (pv 1) af)))
   (ai (aR (kx (vT (cA hr) (pv 4) (pv 3)) rfl) (ai (pSA (i:=5) iD.nd (pcq (gg T) hr T.X59 (ab ag af) (by lia)))
   (ai (aN AL rfl (bh (pcq (zn T) hr T.X51 (ab (pv 0) (ab (pv 1) (ab (pv 2) af))) (by lia))) (bV rfl (aL (pGA (i:=6) iD.nd) (aL (pGA (i:=7) iD.nd) bJ))) (aj (pSA (i:=5) iD.nd (pcq (rH T) hr T.X40 (ab (pv 5) (ab (pcq (i8 T) hr T.X41 (ab (pcq (zx T) hr T.X44 (ab (pcq (zo T) hr T.X52 (ab (pv 6) af) (by lia)) af) (by lia)) (ab (ee ih hr (by rfl) T.X61.m T.X61.F.kp T.X61.B .nil dM (ab (pv 0) (ab (pv 7) (ab (pv 2) (ab (pv 3) af))))) af)) (by lia)) af)) (by lia)))))
   (aj (vU (cA hr) (pv 3) (pv 4) (pv 5) rfl)))) aQ)
   (aj (am (vS (cA hr) (pv 3) (pv 4) (λ_ _=>rfl)))))),?_}
   show{1,3,hv,λkey H1 nk s1 hk=>?_};have QG:Is H1 (nK (wk ps)) (.ref key):=i6 hk;have OT:=hD.mono s1;have b1:But kn H H1:=But.of_same s1;have hK1:=hK.lts (bI hD b1);show{1,1,kn,M7,wk ps,0,OT,QG,1,?_};cases OA:aU M7 (wk ps) with
   |some u=>show aT {1,1,kn,M7,wk ps,u,0,OT,QG,OA,kk M7 u H1 b1 OT hK1 (hK1.2.2.1 _ _ OA)}
   |none=>
    show ck ?_;show{(0),0,λv0 H1 s1' hv0=>?_};have s1:=s1.trans s1';have QG:=QG.mono s1';have OT:=hD.mono s1;have b1:But kn H H1:=But.of_same s1;have hK1:=hK.lts (bI hD b1);show{1,1,1,d,v,ps,sg,0,hv.mono s1,xP d4 ok,SD.sd,λl0 H2 s2 Pk NN=>?_};have hS:∀x∈aY d ps sg,(az d x.2/\mu x.2+pwF x.1<=mu ps/\1<=pwF x.1)/\(∀p∈x.1,inB p=true)/\(x.1.length=3\/x.1.length=4):=λx hx=>{SD.st ps x ok hx,yN d4 ok hx};have NC:ps≠e0:=λe=>by
     have{u,hu}:=hK.2.2.2;rw[<-e,OA] at hu;cases hu
    have hW:wS d sg e0 ps=(aY d ps sg).foldl (λt x=>aK t (br (cj (pwF x.1).toNat) (wS d sg e0 x.2))) zer:=by rw[SD.eq ok,A6 NC]
    have mps:=SD.lo ps ok;generalize aY d ps sg=S at hS hW NN;have{_,Nm,e,O8,O9}:=aD NN;cases e;have Nk:H2 l0=some (.lst Nm):=bM _ _ O8;have NK:Iss H2 (S.map ge) Nm:=O9.mono bM;have Nz:Nm.length=S.length:=by rw[NK.length,A1]
    have O':=OT.mono s2;have hK2:=hK1.lts (bI OT (But.of_same s2));have Pa:l0≠kn:=by
     have{_,_,xs,_,e}:=OT;rintro rfl;rw[e] at Pk;cases Pk
    have hsup:∀i,Sup 32 65 ((S.take i).foldl (λt x=>aK t (br (cj (pwF x.1).toNat) (wS d sg e0 x.2))) zer):=λi=>by
     show mw (by lia) (by lia) (qR (by lia) (by lia)) λx hx=>?_;have{{a1,a2,a3},_}:=hS x (Ca hx);have{wn,hw}:=B4 (show 0<=pwF x.1 by lia);have q0:=(SD.lo _ a1).1;rw[hw,Ag];show(qQ (by lia) (by lia) q0 (by lia) (mr (w:=wn) (by lia)) (SD.sup 33 a1 (by lia))).mono (by lia) (by lia)
    show{l0,0,{_,SqL.of Nk},bF (xs:=Nm) (λi σ H3=>(E3 λvt v6 v7=>σ=[some (.int d),some v,some (.int sg),some (.ref kn),some (.ref key),some vt,v6,v7]/\Is H3 (shD ((S.take i).foldl (λt x=>aK t (br (cj (pwF x.1).toNat) (wS d sg e0 x.2))) zer)) vt)/\But kn H2 H3/\∃NL,DN P w H3 kn NL/\KnS d e0 (wS d sg e0) H3 NL) {{v0,none,none,0,by rw[my] at hv0;show hv0.mono s2},But.of_same (ae.refl _),M7,O',hK2} (λi σ H3 _ h=>SqL.of (h.2.1 _ _ Nk Pa)) ?_ ?_}
    .rintro i y σ H3 hi ⟨⟨vt,v6,v7,rfl,Od⟩,Nj,Pe,NM,Ob⟩;have{x,Nl,hy}:=bC NK hi;have{{x1,x2,x5},x3,x4}:=hS x (AR Nl);have RV:Is H3 (ge x) y:=hy.lts (bI O' Nj);have{t,tvs,0,ht,NU}:=bu RV;have{u1,us,0,NA,NU}:=aM NU;have{u2,us,0,NY,NU}:=aM NU;rw[bm NU] at ht;have sup1:=hsup i;have sup2:=hsup (i+1);rw[iR Nl] at sup2;have mx:=SD.lo _ x1;show{t,1,SqT.of ht,0,3,2,?_};have{wn,hw}:=B4 (show 0<=pwF x.1 by lia);show{1,1,u1,x.1,0,NA,x3,x4,?_};rw[hw];show{wn,0,4,4,λvs1 H4 s4 hvs1=>?_};have b4:But kn H3 H4:=But.of_same s4;show{1,1,1,1,d,u2,kn,x.2,Pe,sg,e0,mu,0,SD,d4,NY.mono s4,x1,4,NM.mono s4,Ob.lts (bI NM b4),λkvs5 vw H5 Pr hD5 hK5 hvw=>?_};have l45:=bI (NM.mono s4) Pr;have sm1:Sms (cj wn):=zy (by lia) (by lia);show{vs1,vw,3,hvs1.lts l45,hvw,sm1,(SD.sup' x1).sms (by lia) (by lia),λz hz=>?_,λvm H6 s6 QK=>?_}
     .have:=Kx z hz;lia
     show{vt,vm,3,((Od.mono s4).lts l45).mono s6,QK,sup1.sms (by lia) (by lia),?_,trivial,λva H7 s7 Sb=>?_}
     .have q0:=(SD.lo _ x1).1;show(qQ (by lia) (by lia) q0 (by lia) (mr (w:=wn) (by lia)) (SD.sup 33 x1 (by lia))).sms (by lia) (by lia)
     show{{va,3,?_},((Nj.trans b4).trans Pr).trans (But.of_same (s6.trans s7)),kvs5,hD5.mono (s6.trans s7),hK5.lts (bI hD5 (But.of_same (s6.trans s7)))};rw[iR Nl,hw];show Sb
    .rintro σ H3 ⟨⟨vt,v6,v7,rfl,Od⟩,Nj,Pe,NM,Ob⟩;rw[Nz,AS,<-hW] at Od;have Oc:But kn H H3:=(But.of_same (s1.trans s2)).trans Nj;have Qi:Is H3 (nK (wk ps)) (.ref key):=(QG.mono s2).lts (bI O' Nj);have Oq:=Ob.len d4;show{1,1,1,kn,Pe,wk ps,0,NM,Qi,by rw[B1];lia,λH4 Oi k4=>?_};have NF:But kn H3 H4:=λc o e n=>by rw[k4 c n];show e
     have QL:=bI NM NF;have hk4:=Qi.lts QL;show{1,1,kn,_,wk ps,vt,0,Oi,hk4,by rw[jh,A8 rfl],kk _ vt H4 (Oc.trans NF) Oi ((Ob.lts QL).put ok (Od.lts QL)) (Od.lts QL)}
def MG:OKQ T.X62 P w base 46 spSWQ:=by
 show FbO T.X62 iE λ_ _ _ _ H vs Q E hr h=>?_;have{d,k,0,hN,kk}:=h;show{_,(ai (aX (pcq (rA T) hr T.X2 (ab (pv 0) (ab (pv 1) af))))
  (ai (pSA (i:=2) iE.nd (lp (cA hr) (c9 fK (by rfl) T.n_tuple DX (ab (pcq (zi T) hr T.X48 (ab (pv 0) af)) af)) (pcq (gg T) hr T.X59 (ab ag af))))
  (ai (pSA (i:=3) iE.nd (lp (cA hr) (c9 fK (by rfl) T.n_tuple DX (ab (pcq (zj T) hr T.X49 (ab (pv 0) af)) af)) (pcq (gg T) hr T.X59 (ab ag af))))
  (ai (pSA (i:=4) iE.nd (pcq (gg T) hr T.X59 (ab ag af)))
  (ai (aN AL rfl (bh (pcq (zt T) hr T.X54 (ab (pv 0) (ab (pv 1) af)))) (pGA (i:=5) iE.nd) (aj (pSA (i:=4) iE.nd (pcq (rH T) hr T.X40 (ab (pv 4) (ab (pcq (i8 T) hr T.X41 (ab (pcq (rK T 40) hr T.X61 (ab (pv 0) (ab (pv 5) (ab (g8 (v:= .int (1)) (by rfl) T.m_LEFT {1}) (ab (pv 2) af))))) (ab (pcq (rK T 40) hr T.X61 (ab (pv 0) (ab (pv 5) (ab (g8 (v:= .int (-1)) (by rfl) T.m_RIGHT {1}) (ab (pv 3) af))))) af))) af))))))
  (aj (am (pv 4)))))))),?_}
 have d1:1<=d:=hN.1;have d4:d<=4:=by unfold dE at hN;lia
 show{1,1,d,k,0,hN,λko H0 nko RY k0=>?_};show{1,d,0,d1,4,λl H1 s1 nl hl=>?_};show{3,hl,λkey H2 nk s2 hk=>{(1),0,λv1 H3 s3 OG=>{((RY.mono s1).mono s2).mono s3,wk (upE d),i6 (hk.mono s3),λH4 Oi k4=>?_}}};have b4:But ko H3 H4:=λc o e n=>by rw[k4 c n];show e
 have l4:=bI (((RY.mono s1).mono s2).mono s3) b4;have hKo:KnS d (upE d) (wS d 1 (upE d)) H4 [(wk (upE d),v1)]:=KnS.one (j6 d4).1 (by rw[(sdL d4).eq (j6 d4).1,A8 rfl];show OG.lts l4);have S4:∀c o,H c=some o->H4 c=some o:=λc o e=>by
  have n:c≠ko:=by rintro rfl;rw[nko] at e;cases e
  rw[k4 c n];show s3 _ _ (s2 _ _ (s1 _ _ (by rw[k0 c n];show e)))
 clear hl hk OG l4 b4 k4 RY k0;show λku H5 QH hD5 k5=>?_;show{1,d,0,d1,4,λl H6 s6 nl hl=>?_};show{3,hl,λkey H7 nk s7 hk=>{(1),0,λv2 H8 s8 Pl=>{((hD5.mono s6).mono s7).mono s8,wk (loE d),i6 (hk.mono s8),λH9 hD9 k9=>?_}}};have b9:But ku H8 H9:=λc o e n=>by rw[k9 c n];show e
 have l9:=bI (((hD5.mono s6).mono s7).mono s8) b9;have hKu:KnS d (loE d) (wS d (-1) (loE d)) H9 [(wk (loE d),v2)]:=KnS.one (j8 d4).1 (by rw[(sdR d4).eq (j8 d4).1,A8 rfl];show Pl.lts l9);have S9:ae H4 H9:=λc o e=>by
  have n:c≠ku:=by rintro rfl;rw[QH] at e;cases e
  rw[k9 c n];show s8 _ _ (s7 _ _ (s6 _ _ (by rw[k5 c n];show e)))
 have QM:=Oi.mono S9;have hKo9:=hKo.lts (bI Oi (But.of_same S9));have kou:ko≠ku:=by
  have{_,_,xs,_,e}:=id Oi;rintro rfl;rw[e] at QH;cases QH
 have R0:H ku=none:=by
  cases e:H ku with
  |none=>rfl
  |some o=>rw[S4 _ _ e] at QH;cases QH
 have S09:ae H H9:=λc o e=>S9 _ _ (S4 _ _ e);clear hl hk Pl l9 b9 k9 hD5 k5 S4 S9;show{(0),0,λvz H10 Pu hvz=>?_};rw[my] at hvz;have{{w1,w2,_},g1,g2}:=mH hN;show{1,1,d,k,0,hN,w1,λS l H3 pS s3 nl hl=>?_};have eN:S.foldl (λt w=>aK t (fD d w)) zer=v91 d k:=by rw[yo pS,g2]
 have eA:∀w∈S,az d w/\ke d w=true:=λw hw=>{w2 w (pS.mem_iff.mp hw),g1 w (pS.mem_iff.mp hw)};clear w1 w2 g1 g2 pS;have wv:∀w∈S,smS (wS d 1 (upE d) w)=true/\gY (fD d w)=true:=λw hw=>by
  have:=(eA w hw).2;unfold ke at this;show Bool.and_eq_true_iff.mp this
 have a1:=yp (f:=fD d) λw hw=>(wv w hw).2;have{_,Nm,e,Oq,NK}:=aD hl;cases e;have Nz:Nm.length=S.length:=by rw[NK.length,A1]
 have s93:=Pu.trans s3;have Qd:=QM.mono s93;have Qe:=hD9.mono s93;have hKo3:=hKo9.lts (bI QM (But.of_same s93));have hKu3:=hKu.lts (bI QM (But.of_same s93));have lko:l≠ko:=by
  have{_,_,xs,_,e}:=id (QM.mono Pu);rintro rfl;rw[e] at nl;cases nl
 have lku:l≠ku:=by
  have{_,_,xs,_,e}:=id (hD9.mono Pu);rintro rfl;rw[e] at nl;cases nl
 have NB:=S09.trans s93;show{l,0,{_,SqL.of Oq},bF (xs:=Nm) (λj σ H4=>(E2 λvt v5=>σ=[some (.int d),some (.int k),some (.ref ko),some (.ref ku),some vt,v5]/\Is H4 (shD ((S.take j).foldl (λt w=>aK t (fD d w)) zer)) vt)/\rq ko ku H3 H4/\(∃M7,DN P w H4 ko M7/\KnS d (upE d) (wS d 1 (upE d)) H4 M7)/\∃M7,DN P w H4 ku M7/\KnS d (loE d) (wS d (-1) (loE d)) H4 M7) {{vz,none,0,hvz.mono s3},λc o e _ _=>e,{_,Qd,hKo3},_,Qe,hKu3} (λj σ H4 _ h=>SqL.of (h.2.1 _ _ Oq lko lku)) ?_ ?_}
 .rintro j y σ H4 hj ⟨⟨vt,v5,rfl,Od⟩,b4,⟨Ro4,Pb,R1⟩,Ru4,R5,R6⟩;have{ps,Nl,hy}:=bC NK hj;have hm:=AR Nl;have ok:=(eA ps hm).1;have a2:=eS (wv ps hm).1;have a3:Sms (fD d ps):=(qV (wv ps hm).2).sms (by lia) (by lia);have hy4:Is H4 (pts ps) y:=hy.lts (zu Qd Qe b4);have m1:=(sdL d4).lo ps ok;have m2:=(sdR d4).lo ps ok;show{1,1,1,1,d,y,ko,ps,Ro4,(1),upE d,1,sdL d4,d4,hy4,ok,4,Pb,R1,λRo5 vo H5 b5 R7 R8 hvo=>?_};have Pw:DN P w H5 ku Ru4:=DN.but R5 Pb b5 (DE kou);have l45:=bI Pb b5;have hy5:=hy4.lts l45;show{1,1,1,d,y,ku,ps,Ru4,-1,loE d,1,sdR d4,d4,hy5,ok,4,Pw,R6.lts l45,λRu6 vu H6 b6 QI R9 hvu=>?_};have l56:=bI Pw b6;have QJ:DN P w H6 ko Ro5:=DN.but R7 Pw b6 kou;show{vo,vu,3,hvo.lts l56,hvu,a2.1,((sdR d4).sup' ok).sms (by lia) (by lia),a2.2,λvm H7 s7 QK=>?_};show{vt,vm,3,((Od.lts l45).lts l56).mono s7,QK,a1 j,a3,trivial,λva H8 s8 Sb=>?_};have s78:=s7.trans s8;show{{va,1,by rw[iR Nl];show Sb},λc o e n1 n2=>s78 _ _ (b6 _ _ (b5 _ _ (b4 c o e n1 n2) n1) n2),{Ro5,QJ.mono s78,(R8.lts l56).lts (bI QJ (But.of_same s78))},Ru6,QI.mono s78,R9.lts (bI QI (But.of_same s78))}
 .rintro σ H4 ⟨⟨vt,v5,rfl,Od⟩,b4,_,_⟩;rw[Nz,AS,eN] at Od;show{1,kk vt H4 (λc o e=>b4 _ _ (NB _ _ e) (by rintro rfl;rw[nko] at e;cases e) (by rintro rfl;rw[R0] at e;cases e)) Od}
def zC:OKQ T.X63 P w base 12 spSFQ:=by
 show FbO T.X63 jR λ_ _ _ _ H vs Q E hr h=>?_;have{d,k,0,hW,kk}:=h;show{_,(ai (aX (pcq (mP T) hr T.X3 (ab (pv 0) (ab (pv 1) af))))
  (ai (pSA (i:=2) jR.nd (pcq (rJ T) hr T.X59 (ab ag af)))
  (ai (aN AL rfl (bh (pcq (yT T) hr T.X31 (ab (pv 0) (ab (pv 1) af)))) (pGA (i:=3) jR.nd) (ai (nj (i:=4) jR.nd rfl (by trivial) (.inl rfl) (XN:=["d","k","total","drawing","weights"]) (sc:=al lM) (N:=["lift"]) (own:=1) (js:=[]) rfl (by ac_nf) rfl rfl (bh (pv 3)) (λ_ _ _ _=>(bZ (i:=0) (show List.Nodup (["lift"]:Sk Str) by ac_nf) rfl (Or.inl rfl) (.inr rfl))) (dN (by decide)) (λ_ _ _ _=>df) (λ_ _ _ _=>(ao aO (pv 0) ag (λ_ _=>rfl))))
  (aj (pSA (i:=2) jR.nd (pcq (MF T) hr T.X40 (ab (pv 2) (ab (pcq (i8 T) hr T.X41 (ab (pcq (rJ T) hr T.X59 (ab (pcq (yV T) hr T.X37 (ab (pv 0) (ab (pv 3) af))) af)) (ab (pcq (zA T) hr T.X60 (ab (ah dR (pv 4) (pv 4)) af)) af))) af)))))))
  (aj (am (pv 2)))))),?_}
 show{1,1,d,k,0,hW,?_};have d15:1<=d/\d<=5:=by unfold Wide at hW;lia
 show{(0),0,λvz H1 s1 hvz nvz=>?_};rw[my] at hvz;have{w1,g4'}:=yq hW;have{_,_,_,g2}:=qX hW;show{1,1,d,k,0,hW,w1,λS l H2 pS s2 nl hl=>?_};have hl:=hl.mono bM;have eN:S.foldl (λt x=>aK t (fC d x)) zer=v91 d k:=by rw[yo pS,g2]
 have eA:∀x∈S,(gR d x=true/\mkB d x=true)/\(fB (gX x) (ofN 1)=true/\smS (fZ (gX x))=true)/\smS (ofN (hmD d x))=true/\gY (fC d x)=true:=λx hx=>by
  have{a,b}:=g4' x (pS.mem_iff.mp hx);unfold qW at b;simp only[A9] at b;show{a,b.1.1,b.1.2,b.2}
 clear w1 g4' g2 pS;have a1:=yp (f:=fC d) λx hx=>(eA x hx).2.2.2;have{_,Nm,e,Nk,NK}:=aD hl;cases e;have Nz:Nm.length=S.length:=by rw[NK.length,A1]
 show{l,0,{_,SqL.of Nk},bF (xs:=Nm) (λj σ H3=>(E3 λvt v3 v4=>σ=[some (.int d),some (.int k),some vt,v3,v4]/\Is H3 (shD ((S.take j).foldl (λt x=>aK t (fC d x)) zer)) vt/\eU H H3 vt)/\ae H2 H3) {{vz,none,none,0,hvz.mono s2,nvz.mono s2},ae.refl _} (λj σ H3 _ h=>SqL.of (h.2 _ _ Nk)) ?_ ?_}
 .rintro j y σ H3 hj ⟨⟨vt,v3,v4,rfl,Od,_⟩,s3⟩;have{x,Nl,hy}:=bC NK hj;have{{o1,o2},{a2,a3},a4,a5}:=eA x (AR Nl);have a3:=eS a3;have a4:=eS a4;have a5:Sms (fC d x):=(qV a5).sms (by lia) (by lia);have{o1,_,x20,_,_}:=xc o1;have PV:=hy.mono s3;have{ya,yvs,0,QC,hyi}:=aD PV;have QD:yvs.length=x.length:=by rw[hyi.length,A1]
  show{1,ya,0,{_,SqL.of QC},λacc na=>?_};show gx (xs:=yvs) (own:=1) (js:=[]) (λi H4=>ae H3 H4/\H4 acc=some (.lst ((wsX (x.take i)).map V.int))) {ae.new na,ak} (λi H4 _ h=>SqL.of (h.1 _ _ QC)) ?_ ?_ dP dg ?_
  .rintro i z H4 hi ⟨s4,M'⟩;have{p,NR,hz}:=bC hyi hi;have QZ:i<x.length:=(AF.mp NR).1;have hz4:=hz.mono s4;show eB ?_;show{1,_,(2),_,hz4,0,0,λu hu=>?_};rw[aB hu];show{acc,2,M',aF (by unfold wsX;simp;lia),s4.put na,?_};rw[ak];unfold wsX;rw[AX,NR,A7,A7];rfl
  .rintro H4 ⟨s4,M'⟩;rw[QD,AS] at M';have hyL:Is H4 (lfs x) (.ref ya):=PV.mono s4;show{1,1,1,d,_,x,0,d15.1,d15.2,hyL,o1,o2,λH5 s5=>?_};show{hmD d x,0,λvn H6 s6 hvn _=>?_};have OU:=s6 _ _ (s5 _ _ M');show{1,1,_,_,aA OU (cW (wsX x)),aA OU (cW (wsX x)),AZ (aF (by unfold wsX;simp;lia)),λq H7 nq s7 hq=>?_};show{.ref q,gX x,0,?_,a2,λvs H8 s8 NS=>?_}
   .unfold gX;rw[A7];show hq
   show{vn,vs,3,(hvn.mono s7).mono s8,NS,a4.1,a3.1,a4.2,λvm H9 s9 QK=>?_};have s49:=((((s5.trans s6).trans s7).trans s8).trans s9);show{vt,vm,3,(Od.mono s4).mono s49,QK,a1 j,a5,λva Ha sa Sb nva=>?_};show{{va,3,by rw[iR Nl];show Sb,nva.of ((((s1.trans s2).trans s3).trans s4).trans s49)},((s3.trans s4).trans s49).trans sa}
  .rintro σ H R R' k' ⟨v1,e1,xs,i,dd,h1,e2,e3,h⟩;show{v1,e1,xs,i,dd,h1,e2,e3,λu hu=>k' _ _ (h u hu)}
 .rintro σ H3 ⟨⟨vt,v3,v4,rfl,Od,nvt⟩,s3⟩;rw[Nz,AS,eN] at Od;show{1,kk vt H3 ((s1.trans s2).trans s3) Od nvt}
theorem zD:∀n:Nat,FnOk P w K mg base CX0 (n+13) T.f64 T.d64 ["asked","known"] (spESh P w n)
 |0=>{λvs H Q E h=>(by have{_,_,_,_,_,_,_,a,_,h,_}:=h;have:=a.mu;lia),λA outer s H args us vs Q E _ _ _ _ h=>(by have{_,_,_,_,_,_,_,a,_,h,_}:=h;have:=a.mu;lia)}
 |n+1=>by
  have ih:=zD n;show T.X64.F.ok gL (λvs H Q E h=>?_) (λNu A outer s H vs Q E hr h=>?_)
  .have{_,_,_,_,_,0,_}:=h;rfl
  .have{v,kn,q,L,M7,0,hv,aq,hkL,hn,hD,hK,kk}:=h;show{_,(ai (aR (cS (aP bQ (ao aO (pv 0) ag (λ_ _=>rfl)) ag (aC _)) (eY (aP dY (ao aO (pv 0) ag (λ_ _=>rfl)) ag (aC _)))).pt (aj (am (pcq (gg T) hr T.X59 (ab (rW (aP bQ (ao aO (pv 0) ag (λ_ _=>rfl)) ag (aC _)) ag ag) af) (by lia)))) aQ)
   (ai (aR (kx (vX (cA hr) (pv 0) (pv 1)) rfl) (ai (pSA (i:=2) gL.nd (pcq (gg T) hr T.X59 (ab ag af) (by lia)))
   (ai (aN AL rfl (bh (pcq (ze T) hr T.X21 (ab (pv 0) af) (by lia))) (bV rfl (aL (pGA (i:=3) gL.nd) (aL (pGA (i:=4) gL.nd) (aL (pGA (i:=5) gL.nd) bJ)))) (ai (pSA (i:=6) gL.nd (pcq (i8 T) hr T.X41 (ab (pcq (gg T) hr T.X59 (ab (pv 3) af) (by lia)) (ab (pcq (zA T) hr T.X60 (ab (pv 4) af) (by lia)) af)) (by lia)))
   (aj (pSA (i:=2) gL.nd (pcq (rH T) hr T.X40 (ab (pv 2) (ab (pcq (i8 T) hr T.X41 (ab (pv 6) (ab (ee ih hr (by rfl) T.X64.m T.X64.F.kp T.X64.B .nil dM (ab (pv 5) (ab (pv 1) af))) af)) (by lia)) af)) (by lia))))))
   (aj (vY (cA hr) (pv 1) (pv 0) (pv 2) rfl)))) aQ)
   (aj (am (vV (cA hr) (pv 1) (pv 0) (λ_ _=>rfl)))))),?_}
   show{1,_,(0),_,hv,0,0,λu1 k1=>?_};rw[aB k1];show{0,1,bW (λh1=> ?br1) (λh1=>{1,_,(1),_,hv,0,0,λu2 k2=>?_})}
   rotate_left 1
   rw[aB k2];show{2,1,bB (λhz=> ?br2) (λhz=>?_)};case br1|br2=>
    have hE:q.d=1\/q.k<0:=by first|show .inl h1|show .inr hz
    show{1,_,(1),_,hv,0,0,λu3 k3=>?_};rw[aB k3];show{0,1,bW (λh2=>?_) (λh2=>?_)}
    .show{(1),0,λv' H' s' Rs=>kk M7 v' H' (But.of_same s') (hD.mono s') (hK.lts (dr hD (But.of_same s'))) ?_};rw[iS hE,A8 h2];show Rs
    .show{(0),0,λv' H' s' Rs=>kk M7 v' H' (But.of_same s') (hD.mono s') (hK.lts (dr hD (But.of_same s'))) ?_};rw[iS hE,A6 h2];show Rs
   have hz:¬q.k<0:=hz;have h1:¬q.d=1:=h1;have d2:2<=q.d:=by have:=aq.d1;lia
   have hk:=i0 hv;show{1,1,kn,M7,kq q,0,hD,hk,1,?_};cases OA:aU M7 (kq q) with
   |some u=>show aT {1,1,kn,M7,kq q,u,0,hD,hk,OA,kk M7 u H (But.of_same (ae.refl _)) hD hK (hK.2.2 _ _ OA)}
   |none=>
    show ck ?_;show{(0),0,λv0 H1 s1 hv0=>?_};rw[my] at hv0;have OT:=hD.mono s1;have hK1:=hK.lts (dr hD (But.of_same s1));have OG:=hv.mono s1;show{1,v,q,L,0,OG,aq,d2,λl0 H2 s2 Pk NN=>?_};have hS:∀x∈cf q,AskOk L x.2.2/\muF x.2.2+1<=muF q/\x.2.2.k<=KL L:=λx hx=>{(aq.less d2 hx).1,(aq.less d2 hx).2,Int.le_trans (yu aq d2 hx) hkL};have hW:=qS aq (by lia);have hA:=qU (qZ aq d2 (by lia) hkL).1;generalize cf q=S at hS hW NN hA;have{_,Nm,e,O8,O9}:=aD NN;cases e;have Nk:H2 l0=some (.lst Nm):=bM _ _ O8;have NK:Iss H2 (S.map smD) Nm:=O9.mono bM;have Nz:Nm.length=S.length:=by rw[NK.length,A1]
    have O':=OT.mono s2;have hK2:=hK1.lts (dr OT (But.of_same s2));have Pa:l0≠kn:=by
     have{_,_,xs,_,e}:=id OT;rintro rfl;rw[e] at Pk;cases Pk
    show{l0,0,{_,SqL.of Nk},bF (xs:=Nm) (λi σ H3=>(E5 λvt v3 v4 v5 v6=>σ=[some v,some (.ref kn),some vt,v3,v4,v5,v6]/\Is H3 (shD ((S.take i).foldl (λt x=>aK t (br (sOn x) (sF x.2.2))) zer)) vt)/\But kn H2 H3/\∃NL,DM P w H3 kn NL/\KnE L H3 NL) {{v0,none,none,none,none,0,hv0.mono s2},But.of_same (ae.refl _),M7,O',hK2} (λi σ H3 _ h=>SqL.of (h.2.1 _ _ Nk Pa)) ?_ ?_}
    .rintro i y σ H3 hi ⟨⟨vt,v3,v4,v5,v6,rfl,Od⟩,Nj,Pe,NM,Ob⟩;have{x,Nl,hy}:=bC NK hi;have{x1,x2,x3}:=hS x (AR Nl);have c:=hA i x Nl;unfold iT at c;simp only[A9] at c;have{{{{{{c1,c2},c3},c4},c5},c6},c7}:=c;have c1:=eS c1;have c3:=eS c3;have c4:=eS c4;have c5:=eS c5;have c6:=eS c6;have c7:=eS c7;have RV:Is H3 (smD x) y:=hy.lts (dr O' Nj);have{t,tvs,0,ht,NU}:=bu RV;have{u1,us,0,NA,NU}:=aM NU;have{u2,us,0,NY,NU}:=aM NU;have{u3,us,0,RM,NU}:=aM NU;rw[bm NU,aB NA] at ht;show{t,1,SqT.of ht,0,3,3,2,?_};show{1,x.1,0,λvn H4 s4 hvn=>?_};show{1,u2,x.2.1,0,NY.mono s4,c2,λvs H5 s5 NS=>?_};show{vn,vs,3,hvn.mono s5,NS,c4.1,c3.1,c4.2,λvf H6 s6 hvf=>?_};have s36:=(s4.trans s5).trans s6;have b6:But kn H3 H6:=But.of_same s36;show{1,1,1,1,u3,kn,x.2.2,L,Pe,0,RM.mono s36,x1,x3,4,NM.mono s36,Ob.lts (dr NM b6),λkvs7 vw H7 P9 hD7 hK7 hvw=>?_};have l67:=dr (NM.mono s36) P9;show{vf,vw,3,hvf.lts l67,hvw,c5.1,c6.1,c5.2,λvm H8 s8 QK=>?_};show{vt,vm,3,((Od.mono s36).lts l67).mono s8,QK,c1.1,c7.1,trivial,λva H9 s9 Sb=>?_};have QB:=s8.trans s9;show{{va,_,_,3,?_},((Nj.trans b6).trans P9).trans (But.of_same QB),kvs7,hD7.mono QB,hK7.lts (dr hD7 (But.of_same QB))};rw[iR Nl];show Sb
    .rintro σ H3 ⟨⟨vt,v3,v4,v5,v6,rfl,Od⟩,Nj,Pe,NM,Ob⟩;rw[Nz,AS,<-hW] at Od;have Oc:But kn H H3:=(But.of_same (s1.trans s2)).trans Nj;have hv3:Is H3 (qD q) v:=(OG.mono s2).lts (dr O' Nj);have Oq:=Ob.len aq.L5;show{1,1,1,kn,Pe,kq q,0,NM,i0 hv3,by rw[B1];lia,λH4 Oi k4=>?_};have NF:But kn H3 H4:=λc o e n=>by rw[k4 c n];show e
     have QL:=dr NM NF;have hv4:=hv3.lts QL;show{1,1,kn,_,kq q,vt,0,Oi,i0 hv4,by rw[jh,A8 rfl],kk _ vt H4 (Oc.trans NF) Oi ((Ob.lts QL).put aq (by lia) (Od.lts QL)) (Od.lts QL)}
def MH:OKQ T.X65 P w base 54 spSE:=by
 show FbO T.X65 Jq λ_ _ _ _ H vs Q E hr h=>?_;have{d,k,v1,v2,a,b,0,hw,h1,h2,ra,rb,e,la,lb,kk}:=h;show{_,(aj (am (pcq (zD T 40) hr T.X64 (ab (pcq (zh T) hr T.X23 (ab (pv 0) (ab (pv 1) (ab (pv 2) (ab (pv 3) af))))) (ab vZ af))))),?_};have aq:=rF hw ra rb e la lb;show{1,1,1,1,d,k,v1,v2,a,b,0,hw,h1,h2,ra,rb,e,la,lb,λu H1 s1 hu=>?_};intro kn H2 Qc hD k2;have s2:ae H1 H2:=λb o e=>by rw[k2 b (by rintro rfl;rw[Qc] at e;cases e)];show e
 have RW:H kn=none:=s1.free Qc;show{u,kn,_,d,[],0,hu.mono s2,aq,by unfold Wide at hw;change(k:Int)<=KL d;unfold KL;split<;>lia,by have:=aq.mu;lia,hD,{7,(λx hx=>nomatch hx),λq v e=>nomatch e},λNL v' H3 Nj NM Ob Rs=>kk v' H3 ?_ Rs}
 show But.same (s1.trans s2) RW Nj
def fE(k n:Nat):Sk (Sk Int):=(List.range n).map λa:Nat=>[((a+1:Nat):Int),(k:Int)]
def fF(i:Nat):Sk (Sk Int):=(List.range i).flatMap λk=>fE k 4
def MI(k n:Nat):fE k (n+1)=fE k n++[[((n+1:Nat):Int),(k:Int)]]:=by unfold fE;rw[Aw,A7];rfl
def zE(i:Nat):fF (i+1)=fF i++fE i 4:=by unfold fF;rw[Aw,BH];simp
def zF(k n:Nat):(fE k n).length=n:=by unfold fE;simp
theorem rL:∀i:Nat,(fF i).length=4*i
 |0=>rfl
 |i+1=>by rw[zE,AD,zF,rL i];lia
def Prs(H:Hp)(l:Se)(xs:Sk (Sk Int)):Prop:=∃vs,H l=some (.lst vs)/\Iss H (xs.map tI) vs
def Prs.add{t:Se}{xs:Sk (Sk Int)}{x:Sk Int}(g:Prs H l xs)(s:ae H H2)(nt:H t=none)(ht:H2 t=some (.tup (x.map V.int))):∃vs,H2 l=some (.lst vs)/\vs.length=xs.length/\Prs (upd H2 l (.lst (vs++[.ref t]))) l (xs++[x]):=by
 have{vs,hl,hi}:=g;have tl:t≠l:=by rintro rfl;rw[hl] at nt;cases nt
 show{vs,s _ _ hl,by rw[hi.length,A1],_,ak,?_};rw[A7];show Iss.append ?_ (ap (eD (by rw[av tl];show ht)) ax);have go:∀{xs:Sk (Sk Int)}{vs:Sk V},Iss H (xs.map tI) vs->Iss (upd H2 l (.lst (vs++[.ref t]))) (xs.map tI) vs->True:=λ_ _=>trivial;have mono:∀{ys:Sk (Sk Int)}{us:Sk V}{H':Hp},(∀b zs,H b=some (.tup zs)->H' b=some (.tup zs))->Iss H (ys.map tI) us->Iss H' (ys.map tI) us:=by
  intro ys;induction ys with
  |nil=>intro us H' _ h;rw[bm h];show ax
  |cons y ys ih=>
   intro us H' k h;have{u,us,0,q,r}:=aM h;have{a,0,ha}:=bK q;show ap (eD (k _ _ ha)) (ih k r)
 show mono (λb zs e=>by rw[av (by rintro rfl;rw[hl] at e;cases e)];show s _ _ e) hi
def gh(n:Nat):Sk (Sk Int):=(List.range n).map λa:Nat=>[5,(a:Int)]
def MJ(n:Nat):gh (n+1)=gh n++[[5,(n:Int)]]:=by unfold gh;rw[Aw,A7];rfl
def MK(n:Nat):(gh n).length=n:=by unfold gh;simp
def nT9:Sk (Nat×Nat):=((List.range 7).flatMap λk=>[(1,k),(2,k),(3,k),(4,k)])++[(5,0),(5,1),(5,2),(5,3)]
def ML:fF 7++gh 4=nT9.map λx=>[(x.1:Int),(x.2:Int)]:=by decide
def MM:nT9.length=32:=by decide
def MN:∀x∈nT9,Wide x.1 x.2:=by
 unfold Wide;decide
def MO:Sp:=λvs H Q _=>vs=[]/\∀l H',ae H H'->H l=none->Is H' (.l ((nT9.map λx=>[(x.1:Int),(x.2:Int)]).map tI)) (.ref l)->Q (.ref l) H'
def MP:OKQ T.X68 P w base 1 MO:=by
 show FbO T.X68 jT λ_ _ _ _ H vs Q E hr h=>?_;have{0,kk}:=h;show{_,(ai (pSA (i:=0) jT.nd (bd af))
  (ai (aN AL rfl (eZ (by rfl) T.n_range (ab ag af)) (pGA (i:=1) jT.nd) (aj (aN AL rfl (gm (by rfl) T.n_range (ab ag (ab ag af))) (pGA (i:=2) jT.nd) (aj (aX (cy Ad BD BC dJ (pv 0) (ab (bv (ab (pv 2) (ab (pv 1) af))) af)))))))
  (ai (aN AL rfl (eZ (by rfl) T.n_range (ab ag af)) (pGA (i:=1) jT.nd) (aj (aX (cy Ad BD BC dJ (pv 0) (ab (bv (ab ag (ab (pv 1) af))) af)))))
  (aj (am (pv 0)))))),?_}
 show{AW _,λl H5 nlH RJ PB=>?_};have g0:Prs H5 l (fF 0):={_,PB,ax};clear PB;show{(7),0,5,5,dG (lo:=0) (n:=7) (λi σ H2=>(E2 λv1 v2=>σ=[some (.ref l),v1,v2])/\ae H H2/\Prs H2 l (fF i)) {{none,none,0},RJ,g0} ?_ ?_}
 .rintro i σ H2 hi ⟨⟨v1,v2,rfl⟩,s2,g2⟩;rw[show(0:Int)+(i:Int)=(i:Int) by lia];show{(1),1,{5,5,5,5},?_};rw[show((5:Int)-1).toNat=4 from rfl];show dG (lo:=1) (n:=4) (λj σ H3=>(∃v2,σ=[some (.ref l),some (.int (i:Int)),v2])/\ae H H3/\Prs H3 l (fF i++fE i j)) {{1},s2,by simpa[fE] using g2} ?_ ?_
  .rintro j σ H3 hj ⟨⟨v2,rfl⟩,s3,g3⟩;have{vs0,NN,_}:=id g3;rw[show(1:Int)+(j:Int)=((j+1:Nat):Int) by lia];show{1,.inl {0,_,SqL.of NN},1,1,(zB rfl),λt H4 nt s4 ht=>?_};have{vs,Q9,hvl,g4}:=g3.add s4 nt (x:=[((j+1:Nat):Int),(i:Int)]) ht;show{l,vs,1,0,Q9,aF (by rw[hvl,AD,rL,zF];lia),{1},(s3.trans s4).put nlH,?_};rw[MI i j,<-B8];show g4
  .rintro σ H3 ⟨⟨v2,rfl⟩,s3,g3⟩;rw[<-zE] at g3;show{{3},s3,g3}
 .rintro σ H3 ⟨⟨v1,v2,rfl⟩,s3,g3⟩;show{(4),0,5,5,dG (lo:=0) (n:=4) (λi σ H2=>(∃v1,σ=[some (.ref l),v1,v2])/\ae H H2/\Prs H2 l (fF 7++gh i)) {{1},s3,by simpa[gh] using g3} ?_ ?_}
  .rintro i σ H2 hi ⟨⟨v1,rfl⟩,s2,g2⟩;rw[show(0:Int)+(i:Int)=(i:Int) by lia];have{vs0,NN,_}:=id g2;show{1,.inl {0,_,SqL.of NN},1,(zB rfl),λt H4 nt s4 ht=>?_};have{vs,Q9,hvl,g4}:=g2.add s4 nt (x:=[5,(i:Int)]) ht;show{l,vs,1,0,Q9,aF (by rw[hvl,AD,rL,MK];lia),{1},(s2.trans s4).put nlH,?_};rw[MJ i,<-B8];show g4
  .rintro σ H4 ⟨⟨v1,rfl⟩,s4,vs,Q9,hi4⟩;rw[ML] at hi4;show{1,kk l H4 s4 nlH (aA Q9 hi4)}
theorem mS:∀xs:Sk Int,cK (xs.map D.i)<=1
 |[]=>by simp[cK]
 |x::xs=>by
  have:=mS xs;rw[AK,cK,dep];lia
theorem rM:∀xs:Sk Int,cm (xs.map D.i) (xs.map D.i)
 |[]=>by simp[cm]
 |x::xs=>by
  rw[AK];unfold cm;show{by simp[Kin],rM xs}
def zG(h:Is H (shD s) v)(k:Is H (shD s) u):EqR K H 3 v u true:=by
 have e:=h.eqr (K:=K) (n:=3) (by have:=mS s.2;unfold shD;simp only[dep,cK];lia) (by have:=rM s.2;unfold shD;simp[Kin,cm,this]) k;rw[tV] at e;show e
def zH{t:Sk Int}(hj:j<t.length):atI (t.map V.int) (j:Int)=some (.int (t.getD j 0)):=by
 show gF (j:=j) rfl ?_;rw[AC,A2 hj,A5,A2 hj];rfl
def MQ{t:Sk Int}:(t.map V.int).set j (.int (t.getD j 0+m))=(wmF t j m).map V.int:=by
 unfold wmF;rw[List.map_set]
def zI{t:Sk Int}(hl:t.length=n)(h:Nn t)(n5:n<=5):cD (trF t)/\(trF t).length<=n/\bU n (trF t)=t/\wtF (trF t)=wtF t:=by
 have{h1,h2,h3}:=xv hl;have hw:wtF (trF t)=wtF t:=by
  conv=>rhs;rw[<-h2]
  show qx.symm
 have hn:Nn (trF t):=λi=>by
  by_cases hi:i<(trF t).length
  .have:=h i;rw[<-h2] at this;unfold bU at this
   rwa [A5,Ba hi,<-A5] at this
  .rw[A5,CQ (by lia)];show Bk 0
 show{{hn,4,h3.imp_right λzu75=>?_},h1,h2,hw};have{s,x,e,x0}:=zu75;show{s,x,e,?_};rw[e] at hn;have:=(JY hn).2;lia
inductive spLRo(vs:List V)(H:Hp)(Q:VK)(E':XK):Prop
 |mk (d:Nat) (z:Int):vs=[.int d,.int z]->0<=z->1<=d->d<=5->(∀t l1 l2 hh ff H',ae H H'->H' t=some (.lst [.ref l1,.ref l2])->H' l1=some (.lst (hh.map V.int))->H' l2=some (.lst (ff.map V.int))->cD hh->cD ff->hh.length<=d->ff.length<=d->wtF hh+wtF ff=d->Q (.ref t) H')->spLRo vs H Q E'
theorem zJ{H1:Hp}(s:ae H H1)(n:H l=none)(k:∀b,b≠l->H2 b=H1 b):ae H H2:=λb o e=>by
 rw[k b (by rintro rfl;rw[n] at e;cases e)];show s b o e
def zK{x:Int}:atI ((c++[x]).map V.int) (-1)=some (.int x):=by
 unfold atI ixN;rw[A1,AD,A6 (by decide),A8 (by simp;lia)];change((c++[x]).map V.int)[((-1:Int)+((c.length+1:Nat):Int)).toNat]? =_;rw[show((-1:Int)+((c.length+1:Nat):Int)).toNat=c.length by lia,AC,BF (AB _),Nat.sub_self];rfl
inductive LRf(d:Nat)(t l1 l2:Addr)(m:Int)(H5:Hp):Prop
 |mk (hh ff:List Int):H5 t=some (.lst [.ref l1,.ref l2])->H5 l1=some (.lst (hh.map V.int))->H5 l2=some (.lst (ff.map V.int))->hh.length=d->ff.length=d->Nn hh->Nn ff->wtF hh+wtF ff+m=d->LRf d t l1 l2 m H5
inductive LRi(H:Hp)(d:Nat)(t l1 l2:Addr)(H5:Hp):L2.St->Prop
 |mk (m z:Int) (v5:Option V):ae H H5->0<=z->0<=m->LRf d t l1 l2 m H5->LRi H d t l1 l2 H5 [some (.int d),some (.int z),some (.ref t),some (.int m),v5,none]
inductive LRs(d:Nat)(t l1 l2:Addr)(m:Int)(n:Nat)(r:Int)(H5:Hp):Prop
 |mk (l:Addr) (t0:List Int):(∀p:Addr->Prop,p l1->p l2->p l)->atI [V.ref l1,V.ref l2] r=some (.ref l)->H5 t=some (.lst [.ref l1,.ref l2])->H5 l=some (.lst (t0.map V.int))->n<t0.length->(∀H7:Hp,(∀b,b≠l->H7 b=H5 b)->H7 l=some (.lst ((wmF t0 n 1).map V.int))->LRf d t l1 l2 (m-(1+(n:Int))) H7)->LRs d t l1 l2 m n r H5
inductive LRg(H:Hp)(d:Nat)(z m:Int)(t l1 l2:Addr)(hh ff:List Int)(i:Nat)(H6:Hp):L2.St->Prop
 |mk (v5 v6:Option V):ae H H6->H6 t=some (.lst [.ref l1,.ref l2])->H6 l1=some (.lst ((if i=0 then hh else trF hh).map V.int))->H6 l2=some (.lst ((if i<=1 then ff else trF ff).map V.int))->LRg H d z m t l1 l2 hh ff i H6 [some (.int d),some (.int z),some (.ref t),some (.int m),v5,v6]
inductive LRe(H:Hp)(d:Nat)(z m:Int)(t l1 l2:Addr)(hh ff:List Int)(i:Nat)(H6:Hp)(y:V):Prop
 |mk (l:Addr) (cs:List Int):y=.ref l->H6 l=some (.lst (cs.map V.int))->cs.length<=5->H l=none->(∀v5 v6 H7,ae H H7->(∀b,b≠l->H7 b=H6 b)->H7 l=some (.lst ((trF cs).map V.int))->LRg H d z m t l1 l2 hh ff (i+1) H7 [some (.int d),some (.int z),some (.ref t),some (.int m),v5,v6])->LRe H d z m t l1 l2 hh ff i H6 y
inductive LRc(d:Nat)(z m:Int)(t l:Addr)(v5:Option V)(cs0:List Int)(H6 H7:Hp):L2.St->Prop
 |mk (cs:List Int):(∀b,b≠l->H7 b=H6 b)->H7 l=some (.lst (cs.map V.int))->trF cs=trF cs0->LRc d z m t l v5 cs0 H6 H7 [some (.int d),some (.int z),some (.ref t),some (.int m),v5,some (.ref l)]
def lrs{t:Se}{H5:Hp}(h:LRf d t l1 l2 m H5)(t1:t≠l1)(t2:t≠l2)(Ra:l1≠l2)(ym:(n:Int)<m):LRs d t l1 l2 m n (z%2) H5:=by
 have{hh,ff,ht,h1,h2,hl,fl,hn,fn,hw}:=h;have wa:=cQ (i:=1) (by decide) hn;have wb:=cQ (i:=1) (by decide) fn;unfold wtF at hw;have nd:n<d:=by lia
 have wm:∀{t:Sk Int},t.length=d->wtF (wmF t n 1)=wtF t+(1+(n:Int))*1:=λht=>jW (by rw[ht];show nd);have e:∀{t u:Sk Int},t.length=d->wtF t+wtF u+m=d->wtF (wmF t n 1)+wtF u+(m-(1+(n:Int)))=d:=λht h=>by
  rw[wm ht];lia
 have r2:z%2=0\/z%2=1:=by lia
 rcases r2 with e2|e2
 .show{l1,hh,λ_ a _=>a,by rw[e2];rfl,ht,h1,by rw[hl];show nd,λH7 k g=>{_,ff,by rw[k t t1];show ht,g,by rw[k l2 Ra.symm];show h2,by rw[dB];show hl,fl,iL (by rw[hl];show nd) hn (by have:=hn n;lia),fn,e hl hw}}
 .show{l2,ff,λ_ _ a=>a,by rw[e2];rfl,ht,h2,by rw[fl];show nd,λH7 k g=>{hh,_,by rw[k t t2];show ht,by rw[k l1 Ra];show h1,g,hl,by rw[dB];show fl,hn,iL (by rw[fl];show nd) fn (by have:=fn n;lia),by rw[Int.add_comm (wtF hh)];show e fl (by rw[Int.add_comm (wtF ff)];show hw)}}
def lre{t:Se}{v5 v6:Sn V}{y:V}(h:LRg H d z m t l1 l2 hh ff i H6 [some (.int d),some (.int z),some (.ref t),some (.int m),v5,v6])(hi:[V.ref l1,V.ref l2][i]? =some y)(t1:t≠l1)(t2:t≠l2)(Ra:l1≠l2)(n1:H l1=none)(n2:H l2=none)(hl:hh.length<=5)(fl:ff.length<=5):LRe H d z m t l1 l2 hh ff i H6 y:=by
 cases h with
 |mk _ _ s6 ht6 h16 h26=>
  match i,hi,h16,h26 with
  |0,hi,h16,h26=>
   cases hi;show{l1,hh,0,h16,hl,n1,λv5 v6 H7 s k g=>{v5,v6,s,by rw[k t t1];show ht6,g,by rw[k l2 Ra.symm];show h26}}
  |1,hi,h16,h26=>
   cases hi;show{l2,ff,0,h26,fl,n2,λv5 v6 H7 s k g=>{v5,v6,s,by rw[k t t2];show ht6,by rw[k l1 Ra];show h16,g}}
  |i+2,hi,_,_=>simp at hi
def MR{t:Se}{σ:L2.St}(h:LRg H d z m t l1 l2 hh ff i H6 σ):H6 t=some (.lst [.ref l1,.ref l2]):=by
 cases h with
 |mk _ _ _ a=>show a
theorem nn0 :Nn (List.replicate n 0):=λi=>by
 rw[A5,Cv];by_cases h:i<n
 .rw[A8 h];show Bk _
 .rw[A6 h];show Bk _
def wt0 :wtF (List.replicate n 0)=0:=by
 have:=qx (n:=n) (t:=[]) (i:=1);rw[DT] at this;show this
def MS(h:(n:Int)<m):0<=m-(1+(n:Int)):=by lia
def MT(h:m>0):(m-(1+(n:Int))).toNat<m.toNat:=by lia
theorem MU(h:¬(c.length:Int)>0):c=[]:=BV.mp (by lia)
def MV :((c++[(0:Int)]).map V.int)[((c++[(0:Int)]).map V.int).length-1]? =some (V.int 0):=by
 rw[A1,AD,AC];change((c++[0])[c.length+1-1]?).map _=_;rw[Nat.add_sub_cancel,BF (AB _),Nat.sub_self];rfl
def MW :(((c++[(0:Int)]).map V.int).dropLast).length<((c++[(0:Int)]).map V.int).length:=by
 simp only[A1,AD,List.length_dropLast,Af,CO];lia
def MX(hl:hh.length=d)(fl:ff.length=d)(hn:Nn hh)(fn:Nn ff)(hw:wtF hh+wtF ff+m=d)(m0:0<=m)(hp:¬m>0)(d5:d<=5):cD (trF hh)/\cD (trF ff)/\(trF hh).length<=d/\(trF ff).length<=d/\wtF (trF hh)+wtF (trF ff)=d:=by
 have{r1,r2,r3,r4}:=zI hl hn d5;have{q1,q2,q3,q4}:=zI fl fn d5;show{r1,q1,r2,q2,4}
def MY:OKQ T.X69 P w base 1 spLRo:=by
 show FbO T.X69 fP λ_ _ _ _ H vs Q E hr h=>?_;have{d,z,0,z0,d1,d5,kk}:=h;show{_,(ai (pSA (i:=2) fP.nd (bd (ab (ah gD (bd (ab ag af)) (pv 0)) (ab (ah gD (bd (ab ag af)) (pv 0)) af))))
  (ai (pSA (i:=3) fP.nd (pv 0))
  (ai (kE AL (aP fH (pv 3) ag (aC _)) (ai (pSA (i:=4) fP.nd (ah aH ag (ah fc (pv 1) (pv 3))))
  (ai (pSA (i:=1) fP.nd (ah tT (pv 1) ag))
  (ai (kC (ah aH (ao de (ao de (pv 2) (ah fc (pv 1) ag) (λ_ _=>rfl)) (ah aI (pv 4) ag) (λ_ _=>rfl)) ag) (Eh (ao de (pv 2) (ah fc (pv 1) ag) (λ_ _=>rfl)) (ah aI (pv 4) ag) je))
  (ai (pSA (i:=1) fP.nd (ah tT (pv 1) ag))
  (aj (pSA (i:=3) fP.nd (ah aI (pv 3) (pv 4)))))))))
  (ai (aN AL rfl (bh (pv 2)) (pGA (i:=5) fP.nd) (aj (kE AL (kz (aP fH (aS dw (by rfl) T.n_len CZ (ab (pv 5) af)) ag (aC _)) (ky (aP bQ (ao de (pv 5) (fb fe ag) (λ_ _=>rfl)) ag (aC _)))).pt (aj (aX (m5 Ad PySem.F.slot_list_pop PySem.F.type_list_pop tj (pv 5)))))))
  (aj (am (pv 2))))))),?_}
 have d1000:(d:Int)<=1000:=by lia
 show{(zB rfl),λa1 H1 n1 s1 h1=>{1,.i 0,d,aA h1 (ap bj ax),0,4,4,AZ (aF (by lia)),λl1 H2 nl1 s2 NG=>?_}};show{(zB rfl),λa3 H3 n3 s3 h3=>{1,.i 0,d,aA h3 (ap bj ax),0,4,4,AZ (aF (by lia)),λl2 H4 nl2 s4 Nk=>?_}};show{(zB rfl),λt H5 nt s5 ht=>?_};rw[Ag,<-CM] at NG Nk;have{_,e,g1}:=f' NG;cases e;have{_,e,g2}:=f' Nk;cases e;have O3:=s1.trans s2;have RJ:=(O3.trans s3).trans s4;have Ra:l1≠l2:=by rintro rfl;rw[s3 _ _ g1] at nl2;cases nl2
 have g1:=s4 _ _ (s3 _ _ g1);have t1:t≠l1:=by rintro rfl;rw[g1] at nt;cases nt
 have t2:t≠l2:=by rintro rfl;rw[g2] at nt;cases nt
 have n1H:H l1=none:=s1.free nl1;have n2H:H l2=none:=(O3.trans s3).free nl2;show{1,?_};show kG (λσ H5=>LRi H d t l1 l2 H5 σ)
  (fun(σ:L2.St) _=>match σ[3]? with|some (some (V.int i))=>i.toNat|_=>0) {d,z,none,RJ.trans s5,z0,Int.natCast_nonneg d,_,_,ht,s5 _ _ g1,s5 _ _ g2,7,7,nn0,nn0,by rw[wt0];lia} ?_ ?_
 .rintro σ H5 ⟨m,z,v5,sm,z0,m0,hf⟩;show{1,2,1,bB (λOj=>?_) (λOj=>?_)}
  .have Oj:m>0:=Oj;have y0:0<=z%m:=Int.emod_nonneg _ (Int.ne_of_gt Oj);have ym:z%m<m:=Int.emod_lt_of_pos _ Oj;show{1,1,2,Oj,2,?_};generalize z%m=y at y0 ym;show{1,2,{5,5},?_};have f5:0<=z.fdiv 5:=Int.fdiv_nonneg z0 (by decide);dsimp only;generalize z.fdiv 5=z1 at f5;have{n,0}:=B4 y0;have en:(1+(n:Int)-1)=(n:Int):=by lia
   have{l,t0,pl,at2,ht,NN,nl,fin}:=lrs (z:=z1) hf t1 t2 Ra ym;show{1,1,2,5,t,_,2,SqL.of ht,at2,1,2,l,_,2,SqL.of NN,by rw[en];show zH nl,2,1,1,2,5,t,_,2,SqL.of ht,at2,1,2,l,_,_,n,0,0,NN,by rw[en];show jr (by rw[A1];show nl),?_};rw[MQ];show{1,2,{5,5},1,1,2,{_,z1.fdiv 2,_,sm.put (pl (H · =none) n1H n2H),Int.fdiv_nonneg f5 (by decide),MS ym,fin _ (λb hb=>av hb) ak},?_};show MT Oj
  .have{hh,ff,ht,h1,h2,hl,fl,hn,fn,hw}:=hf;have c5:∀{t:Sk Int},t.length=d->t.length<=5:=λe=>by rw[e];show d5
   show{1,t,0,{_,SqL.of ht},bF (xs:=[V.ref l1,V.ref l2]) (λi σ H6=>LRg H d z m t l1 l2 hh ff i H6 σ) {_,_,sm,ht,h1,h2} (λi σ H6 _ h=>SqL.of (MR h)) ?_ ?_}
   .rintro i y σ H6 hi h;have{v5',v6,s6,ht6,h16,h26}:=id h;have{l,cs0,0,NN,cl0,lnH,fin}:=lre h hi t1 t2 Ra n1H n2H (c5 hl) (c5 fl);show kG (λσ H7=>LRc d z m t l v5' cs0 H6 H7 σ)
     (fun(_:L2.St) H7=>match H7 l with|some (.lst xs)=>xs.length|_=>0) {cs0,λ_ _=>rfl,NN,0} ?_ ?_
    .rintro σ H7 ⟨cs,k7,h7,et⟩;have s7:ae H H7:=zJ s6 lnH k7;show{1,l,1,.inl (SqL.of h7),2,1,bB (λhp=>?_) (λhp=>?_)}
     .have hp:0<cs.length:=by rw[A1] at hp;show Int.natCast_pos.mp hp
      have{c,x,0}:=qw (t:=cs) (List.ne_nil_of_length_pos hp);show{1,(1),0,l,_,-1,.int x,0,0,SqL.of h7,zK,0,1,bW (λhx=>?_) (λhx=>?_)}
      .have hx:x=0:=hx;subst hx;show{1,.inl {0,_,SqL.of h7},l,_,.int 0,0,0,h7,MV,{c,λb hb=>by rw[av hb];show k7 b hb,?_,?_},?_}
       .rw[ak,A7];change some (HO.lst ((c.map V.int++[V.int 0]).dropLast))=_;rw[List.dropLast_concat]
       .rw[<-et,xt]
       .change(match upd H7 l _ l with|some (.lst xs)=>xs.length|_=>0)<(match H7 l with|some (.lst xs)=>xs.length|_=>0);rw[ak,h7];show MW
      .have hx:x≠0:=hx;rw[xu hx] at et;rw[et] at h7;show fin _ _ _ s7 k7 h7
     .have hp:cs=[]:=by
       rw[A1] at hp;show MU hp
      subst hp;rw[show([]:Sk Int)=trF [] from rfl,et] at h7;show aT (fin _ _ _ s7 k7 h7)
    .rintro σ H Q Q' k ⟨v1,e1,p1,ys,e2,e3,i1,i2,e4,e5,b,e6,h⟩;show{v1,e1,p1,ys,e2,e3,i1,i2,e4,e5,b,e6,?_};cases b with
     |false=>show k _ _ h
     |true=>
      have{w1,f1,n1,f2,p2,xs,j,u,g1,g2,g3,g4,g5,b,g6,g}:=h;show{w1,f1,n1,f2,p2,xs,j,u,g1,g2,g3,g4,g5,b,g6,k _ _ g}
   .rintro σ H6 ⟨v5',v6,s6,ht6,h16,h26⟩;have{r1,q1,r2,q2,e}:=MX hl fl hn fn hw m0 Oj d5;show{1,kk t l1 l2 (trF hh) (trF ff) H6 s6 ht6 h16 h26 r1 q1 r2 q2 e}
 .rintro σ H Q Q' k ⟨v1,e1,i1,i2,e2,e3,b,e4,h⟩;show{v1,e1,i1,i2,e2,e3,b,e4,k _ _ h}
def zL:OKQ T.X70 P w base 1 sp_whole:=by
 show FbO T.X70 Js λ_ _ _ _ H vs Q E hr h=>?_;have{v,0,ht,kk}:=h;show{_,(aj (am (fG (aS gs (by rfl) T.n_isinstance Co (ab (pv 0) (ab (gi (v:= .ty "int") (by rfl) T.n_int boot_int (by rfl)) af))) (g9 (rV (aS gs (by rfl) T.n_isinstance Co (ab (pv 0) (ab (gi (v:= .ty "bool") (by rfl) T.n_bool boot_bool (by rfl)) af)))))))),?_};rcases ht with⟨i,rfl⟩|⟨b,rfl⟩|rfl|⟨x,rfl⟩|⟨a,xs,rfl,ha⟩|⟨a,xs,rfl,ha⟩
 .show{1,_,"int",_,true,0,.int i,hV,true,0,ck {1,_,"bool",_,false,0,.int i,tJ,false,0,kk}}
 .show{1,_,"int",_,true,0,.bl b,tL,true,0,ck {1,_,"bool",_,true,0,.bl b,hV,true,0,kk}}
 .show{1,_,"int",_,false,0,.non,t4,false,0,aT kk}
 .show{1,_,"int",_,false,0,.str x,ud,false,0,aT kk}
 .show{1,_,"int",_,false,0,.lst ha,ue,false,0,aT kk}
 .show{1,_,"int",_,false,0,.tup ha,uf,false,0,aT kk}
def zM(h:Is H (.l (xs.map .i)) v)(k:Is H (.l (xs.map .i)) u):EqR K H 2 v u true:=by
 have e:=h.eqr (K:=K) (n:=2) (by have:=mS xs;simp only[dep];lia) (by have:=rM xs;simp[Kin,this]) k;rw[tV] at e;show e
inductive spRi(vs:List V)(H:Hp)(Q:VK)(E':XK):Prop
 |mk (t p:Addr) (s:Sh) (c:Int):vs=[.ref t,.int c]->H t=some (.tup [.int s.1,.ref p])->H p=some (.lst (s.2.map V.int))->iY s c=true->s.2.sum=c->(∀H',ae H H'->Q (.bl true) H')->spRi vs H Q E'
def rN:OKQ T.X71 P w base 5 spRi:=by
 show FbO T.X71 lN λNu A outer s H vs Q E hr h=>?_;have{t,p,v,c,0,ht,hp,hb,hs,kk}:=h;show{_,(ai (aR (cS (cG (cZ (aS gs (by rfl) T.n_isinstance Co (ab (pv 0) (ab (gi (v:= .ty "tuple") (by rfl) T.n_tuple DX (by rfl)) af))))) (cS (aP sv (aS dw (by rfl) T.n_len CZ (ab (pv 0) af)) ag (aC _)) (cS (cG (cZ (pcq (zL T) hr T.X70 (ab (ao bA (pv 0) ag (λ_ _=>rfl)) af)))) (eY (cG (cZ (aS gs (by rfl) T.n_isinstance Co (ab (ao bA (pv 0) ag (λ_ _=>rfl)) (ab (gi (v:= .ty "list") (by rfl) T.n_list Dm (by rfl)) af))))))))).pt (aj (am eX)) aQ)
  (ai (kC (pv 0) (bV rfl (aL (pGA (i:=2) lN.nd) (aL (pGA (i:=3) lN.nd) bJ))))
  (ai (aN AL rfl (bh (pv 3)) (pGA (i:=4) lN.nd) (aj (aR (cS (cG (cZ (pcq (zL T) hr T.X70 (ab (pv 4) af)))) (eY (aP dY (pv 4) ag (aC _)))).pt (aj (am eX)) aQ)))
  (ai (aR (aP bQ (pv 1) ag (aC _)) (aj (am (fG (dH bQ (pv 2) ag (aC _)) (g9 (dH (nu hr) (pv 3) (dZ af) (aC _)))))) aQ)
  (ai (aR (cS (aP (nu hr) (pv 3) (dZ af) (aC _)) (cS (aP bQ (ao de (pv 3) ag (λ_ _=>rfl)) ag (aC _)) (cS (aP bQ (ao de (pv 3) (fb fe ag) (λ_ _=>rfl)) ag (aC _)) (eY (aP (tS hr) (pv 3) (tU rfl (by rfl) T.n_list (by rfl) T.n_reversed (pv 3)) (aC _)))))).pt (aj (am eX)) aQ)
  (aj (am (fG (dH bQ (ah bo ag (pv 2)) (ah aI ag (aS dw (by rfl) T.n_len CZ (ab (pv 3) af))) (aC _)) (fG (dH bQ (aS (gy rfl) (by rfl) T.n_sum Dl (ab (pv 3) af)) (pv 1) (aC _)) (fG (dH bQ (pcq (MA T) hr T.X43 (ab (pv 0) af)) (pv 1) (aC _)) (g9 (dH (nu hr) (pcq (Mz T) hr T.X42 (ab (pv 0) af)) (pv 0) (aC _))))))))))))),?_}
 unfold iY at hb;simp only[A9,AQ,AV] at hb;have{{b1,b2},b3}:=hb;show{1,_,"tuple",_,true,0,.tup ht,hV,true,0,aT {1,t,1,.inr (SqT.of ht),0,1,tM (λh=>absurd rfl h) (λ_=>?_)}};show{1,t,_,2,SqT.of ht,by rfl,1,.inl {1},true,0,aT ?_};show{1,t,_,2,SqT.of ht,by rfl,_,"list",_,true,0,.lst hp,hV,true,0,aT ?_};show{1,t,1,SqT.of ht,0,3,2,?_};show{1,p,0,{_,SqL.of hp},bF (xs:=v.2.map V.int) (λi σ H2=>(∃v4,σ=[some (.ref t),some (.int c),some (.int v.1),some (.ref p),v4])/\H2=H) {{none,0},0} (λi σ H2 _ h=>by rw[h.2];show SqL.of hp) ?_ ?_}
 .rintro i y σ H2 hi ⟨⟨v4,rfl⟩,rfl⟩;rw[AC] at hi;have{x,hx,0}:=A'.mp hi;have:=b1 x (AR hx);show{1,1,.inl {1},true,0,aT {1,2,1,bB (λc=>absurd c (by lia)) (λ_=>{{1},0})}}
 .rintro σ H2 ⟨⟨v4,rfl⟩,rfl⟩;show{1,0,1,bW (λe=>?_) (λe=>?_)}
  .rw[A8 e] at b3;obtain rfl:v=zer:=B6 b3;show{1,0,1,bB (λ_=>{1,5,λq nq=>{(2),true,zM (aA ((ae.new nq) _ _ hp) (cW _)) (aA ak (cW [])),5,kk _ (ae.new nq)}}) (λc=>absurd rfl c)}
  .rw[A6 e] at b3;simp only[A9,AQ] at b3;have{{{{c1,c2},c3},c4},c5}:=b3;have go:∀{H'},ae H2 H'->H' t=some (.tup [.int v.1,.ref p])/\H' p=some (.lst (v.2.map V.int)):=λs=>{s _ _ ht,s _ _ hp};have cp:0<v.2.length:=Cj.mpr c1;show{1,5,λq nq=>{(2),false,?_,5,false,0,aT ?_}}
   .have e:=(aA (go (ae.new nq)).2 (cW _)).eqr (K:=K) (n:=2) (by have:=mS v.2;simp only[dep];lia) (by simp[Kin,cm]) (aA ak ax);rw[FV (by simpa using c1)] at e;show e
   have s1:ae H2 (upd H2 q (.lst [])):=ae.new nq;generalize upd H2 q (.lst [])=H3 at s1⊢;have{g1,g2}:=go s1;show{1,p,_,2,SqL.of g2,zH cp,0,1,bW (λc=>absurd c c2) (λ_=>?_)};have{zs,x,hz}:=qw c1;show{1,(1),0,p,_,2,SqL.of g2,by rw[hz];show zK,0,1,bW (λc=>?_) (λ_=>?_)}
   .rw[<-c3,hz,Ci] at c2;show absurd c c2
   show{1,1,p,1,SqL.of g2,λlr nlr=>{(2),true,zM (aA ((ae.new nlr) _ _ g2) (cW _)) (aA (by rw[ak,<-List.map_reverse,c3]) (cW _)),5,1,aT ?_}};have s2:=s1.trans (ae.new (o:= .lst (v.2.map V.int).reverse) nlr);generalize upd H3 lr (.lst (v.2.map V.int).reverse)=H4 at s2⊢;have{g1,g2}:=go s2;show{1,2,.inl {5,5},1,p,1,.inl (SqL.of g2),2,0,1,bW (λ_=>?_) (λh=>absurd (by rw[A1];show c4) h)};show{1,p,v.2,0,SqL.of g2,1,0,1,bW (λ_=>?_) (λh=>absurd hs h)};show{1,t,p,v.1,v.2,0,SqT.of g1,SqL.of g2,1,0,1,bW (λ_=>?_) (λh=>absurd hs h)};show{1,t,p,v.1,v.2,0,SqT.of g1,SqL.of g2,4,λt' l' Op OY H6 s6 OV NZ ND tr=>?_};show{1,(3),true,zG (s:=v) ?_ (gf (go (s2.trans s6)).1 (go (s2.trans s6)).2),5,kk _ (s2.trans s6)};rw[<-c5,<-tr.toC];show gf NZ ND
def MZ:OKQ T.X72 P w base 59 (sp_law K):=by
 show FbO T.X72 gM λNu A outer s H vs Q E hr h=>?_;have{a,ns,0,hS,hl,kk}:=h;show{_,(ai (kC (ao fh (EK (MP T) (hr.mono (by decide)) (by rfl) T.X68.m T.X68.F.kp T.X68.B .nil dM) (ah fc (pcq (yQ T) hr T.X67 (ab (pv 0) (ab ag af))) ag) (λ_ _=>rfl)) (bV rfl (aL (pGA (i:=1) gM.nd) (aL (pGA (i:=2) gM.nd) bJ))))
  (ai (kC (pcq (MY T) hr T.X69 (ab (pv 1) (ab (pcq (yQ T) hr T.X67 (ab (pv 0) (ab ag af))) af))) (FC rfl (aL (pGA (i:=3) gM.nd) (aL (pGA (i:=4) gM.nd) bJ))))
  (ai (pSA (i:=5) gM.nd (pcq (zC T) hr T.X63 (ab (pv 1) (ab (pv 2) af))))
  (ai (aR (cG (cZ (pcq (rN T) hr T.X71 (ab (pv 5) (ab (pcq (L9 T) hr T.X38 (ab (pv 1) (ab (pv 2) af))) af))))) (aj (am eX)) aQ)
  (ai (FU (aR (aP dY (pv 1) ag (aC _)) (ai (pSA (i:=6) gM.nd (bv (ab (ao bA (pv 5) ag (λ_ _=>rfl)) (ab (c9 ny (by rfl) T.n_list Dm (ab (ao bA (pv 5) ag (λ_ _=>rfl)) af)) af))))
  (ai (aX (m5 Ad PySem.F.slot_list_clear PySem.F.type_list_clear E9 (ao bA (pv 5) ag (λ_ _=>rfl))))
  (aj (aR (aP (tS hr) (pcq (zC T) hr T.X63 (ab (pv 1) (ab (pv 2) af))) (pv 6) (aC _)) (aj (am eX)) aQ)))) aQ))
  (ai (aR (cG (cZ (pcq (rN T) hr T.X71 (ab (pcq (MH T) hr T.X65 (ab (pv 1) (ab (pv 2) (ab (c9 ny (by rfl) T.n_list Dm (ab (pv 3) af)) (ab (c9 ny (by rfl) T.n_list Dm (ab (pv 4) af)) af))))) (ab (pcq (Mk T) hr T.X24 (ab (pv 1) (ab (pv 2) (ab (pv 3) (ab (pv 4) af))))) af))))) (aj (am eX)) aQ)
  (ai (aR (cS (aP dY (pv 1) ag (aC _)) (eY (kz (aP bQ (pv 1) ag (aC _)) (ky (aP dY (pv 2) ag (aC _)))).pt)).pt (aj (am (pcq (rN T) hr T.X71 (ab (pcq (MG T) hr T.X62 (ab (pv 1) (ab (pv 2) af))) (ab (pcq (Mw T) hr T.X58 (ab (pv 1) (ab (pv 2) af))) af))))) aQ)
  (aj (am eX))))))))),?_}
 show{0,λl H1 s1 nl hL=>?_};show{1,a,ns,(0),0,s1.seq hS,5,5,λz hz=>{2,(show(0:Int)<32 by decide),?_}};have z0:0<=z%32:=Int.emod_nonneg _ (by decide);have z1:z%32<32:=Int.emod_lt_of_pos _ (by decide);have{m,hm}:=B4 z0;have hml:m<nT9.length:=by rw[MM];lia
 have hat:atI ((nT9.map λx=>[(x.1:Int),(x.2:Int)]).map tI) ((m:Nat):Int)=some (tI [(nT9[m].1:Int),(nT9[m].2:Int)]):=jd (by rw[AC,AC,A2 hml];rfl);have hW:=MN _ (DC hml);generalize nT9[m].1=d at hat hW;generalize nT9[m].2=k at hat hW;show{_,((m:Nat):Int),_,hL,BB V.int hm,hat,λu hu=>?_};have{t,0,ht}:=bK hu;show{t,1,SqT.of ht,0,3,2,?_};clear hat hL ht hu;have d15:1<=d/\d<=5:=by unfold Wide at hW;lia
 show{1,1,a,ns,(1),0,s1.seq hS,5,5,λz hz=>{d,z,0,hz,d15.1,d15.2,λtr l1 l2 hh ff H2 s2 htr NG Nk rh rf lh lf hw=>?_}};show{tr,1,SqL.of htr,0,3,2,?_};have b:=Ls hW;unfold b70 at b;simp only[A9,AQ] at b;have{b1,b2}:=b;have sC:=(qX hW).2.2.1;have aq:=rF hW rh rf hw lh lf;have hk:(k:Int)<=KL d:=by unfold KL;unfold Wide at hW;split<;>lia
 show{1,1,d,k,0,hW,λvf H3 s3 hvf nvf=>?_};have hvf0:=hvf;have{tf,pf,0,htf,hpf}:=eT hvf;show{1,1,1,d,k,0,hW,λH4 s4=>?_};rw[sC];show{tf,pf,3,s4 _ _ htf,s4 _ _ hpf,b1,b2,λH5 s5=>?_};have O7:=s4.trans s5;show{1,aT ?_};show{λσ H9=>(∃v6,σ=[some (.ref a),some (.int d),some (.int k),some (.ref l1),some (.ref l2),some (.ref tf),v6])/\ae H2 H9,?_,?_}
 .show{1,2,1,bB (λc=>?_) (λc=>{{1},s3.trans O7})};have g1:=O7 _ _ htf;have g2:=O7 _ _ hpf;show{1,tf,_,2,SqT.of g1,by rfl,1,tf,_,2,SqT.of g1,by rfl,3,.inl (aA g2 (cW _)),λp H6 np s6 hp=>{(zB rfl),λt H7 nt s7 ht=>?_}};have nf:H2 pf=none:=by
   have{_,_,_,e,e1,e2}:=nvf;cases e;have:=htf.symm.trans e1;cases this;show e2
  have{t',p',e,NZ,NR}:=eT (s:=v91 d k) (bt ht (ap bj (ap (hp.mono s7) ax)));cases e;have e:=ht.symm.trans NZ;cases e;have g1:=s7 _ _ (s6 _ _ g1);have g6:=s6 _ _ g2;have tp:t≠pf:=by rintro rfl;rw[g6] at nt;cases nt
  have pp:p≠pf:=by rintro rfl;rw[g2] at np;cases np
  have g2:=s7 _ _ g6;have hk8:Is (upd H7 pf (.lst [])) (shD (v91 d k)) (.ref t):=gf (by rw[av tp];show NZ) (by rw[av pp];show NR);have s8:ae H2 (upd H7 pf (.lst [])):=zJ (((s3.trans O7).trans s6).trans s7) nf (λb hb=>av hb);show{1,tf,_,_,.ref pf,0,0,SqT.of g1,by rfl,.inl {0,_,SqL.of g2},pf,1,0,g2,?_};generalize upd H7 pf (.lst [])=H8 at hk8 s8⊢;show{1,1,d,k,0,hW,λvg H9 s9 hvg _=>{1,(3),true,zG hvg (hk8.mono s9),5,1,aT {{1},s8.trans s9}}}
 .rintro σ H9 ⟨⟨v6,rfl⟩,s9⟩;show{1,1,1,3,.inl (aA (s9 _ _ NG) (cW _)),λp1 HA np1 sA hp1=>{1,3,.inl (aA (sA _ _ (s9 _ _ Nk)) (cW _)),λp2 HB np2 sB hp2=>{d,k,_,_,hh,ff,0,hW,hp1.mono sB,hp2,rh,rf,hw,lh,lf,λve HC sC hve=>?_}}};have s9C:=((s9.trans sA).trans sB).trans sC;have{te,pe,0,hte,hpe}:=eT hve;show{1,1,1,1,d,k,_,_,hh,ff,0,hW,kh (s9C _ _ NG),kh (s9C _ _ Nk),rh,rf,hw,lh,lf,λHD sD=>{te,pe,3,sD _ _ hte,sD _ _ hpe,Lr aq (Int.natCast_nonneg k) hk,Lu aq hk,λHE sE=>{1,aT ?_}}};show{1,2,1,bB (λc=>ck ?f1) (λc=>{1,0,1,bW (λe4=>{1,2,1,bB (λk3=> ?f2) (λk3=>kk _)}) (λe4=>aT (kk _))})};case f1|f2=>
   have hN:dE d k:=by unfold dE;unfold Wide at hW;lia
   show{1,1,d,k,0,hN,λvw HF sF hvw=>{1,1,d,k,0,hN,λHG sG=>?_}};rw[(mH hN).1.2.2];have{tw,pw,0,htw,hpw}:=eT hvw;show{tw,pw,3,sG _ _ htw,sG _ _ hpw,b1,b2,λHH sH=>kk _}
end
def fb0{n q:Str}{ps:Sk Str}{d:Sg}(F:Fun K q q st f d)(e:mg n=some (.ref f))(hp:ps.length=0:=by show rfl)(h:∀(kV dc pm:PP) (an:Sn Se) (cd ct:PP),bindArgs (W.fnOf q q (eu st) (dy st) (al st) .none kV dc pm an cd ct) {[],[]}=pure (ps.zip []):=by intros;show rfl):Fg K mg n q st ps f d:=by
 show{F,F.binds λkV dc pm an cd ct us hl=>?_,e};rw[hp] at hl;rcases us with _|⟨y,us⟩
 .show h kV dc pm an cd ct
 .simp at hl
def fb1{n q:Str}{ps:Sk Str}{d:Sg}(F:Fun K q q st f d)(e:mg n=some (.ref f))(hp:ps.length=1:=by show rfl)(h:∀(kV dc pm:PP) (an:Sn Se) (cd ct x0:PP),bindArgs (W.fnOf q q (eu st) (dy st) (al st) .none kV dc pm an cd ct) {[x0],[]}=pure (ps.zip [x0]):=by intros;show rfl):Fg K mg n q st ps f d:=by
 show{F,F.binds λkV dc pm an cd ct us hl=>?_,e};rw[hp] at hl;rcases us with _|⟨x0,us⟩
 .simp at hl
 rcases us with _|⟨y,us⟩
 .show h kV dc pm an cd ct x0
 .simp at hl
def fb2{n q:Str}{ps:Sk Str}{d:Sg}(F:Fun K q q st f d)(e:mg n=some (.ref f))(hp:ps.length=2:=by show rfl)(h:∀(kV dc pm:PP) (an:Sn Se) (cd ct x0 x1:PP),bindArgs (W.fnOf q q (eu st) (dy st) (al st) .none kV dc pm an cd ct) {[x0,x1],[]}=pure (ps.zip [x0,x1]):=by intros;show rfl):Fg K mg n q st ps f d:=by
 show{F,F.binds λkV dc pm an cd ct us hl=>?_,e};rw[hp] at hl;rcases us with _|⟨x0,us⟩
 .simp at hl
 rcases us with _|⟨x1,us⟩
 .simp at hl
 rcases us with _|⟨y,us⟩
 .show h kV dc pm an cd ct x0 x1
 .simp at hl
def fb3{n q:Str}{ps:Sk Str}{d:Sg}(F:Fun K q q st f d)(e:mg n=some (.ref f))(hp:ps.length=3:=by show rfl)(h:∀(kV dc pm:PP) (an:Sn Se) (cd ct x0 x1 x2:PP),bindArgs (W.fnOf q q (eu st) (dy st) (al st) .none kV dc pm an cd ct) {[x0,x1,x2],[]}=pure (ps.zip [x0,x1,x2]):=by intros;show rfl):Fg K mg n q st ps f d:=by
 show{F,F.binds λkV dc pm an cd ct us hl=>?_,e};rw[hp] at hl;rcases us with _|⟨x0,us⟩
 .simp at hl
 rcases us with _|⟨x1,us⟩
 .simp at hl
 rcases us with _|⟨x2,us⟩
 .simp at hl
 rcases us with _|⟨y,us⟩
 .show h kV dc pm an cd ct x0 x1 x2
 .simp at hl
def fb4{n q:Str}{ps:Sk Str}{d:Sg}(F:Fun K q q st f d)(e:mg n=some (.ref f))(hp:ps.length=4:=by show rfl)(h:∀(kV dc pm:PP) (an:Sn Se) (cd ct x0 x1 x2 x3:PP),bindArgs (W.fnOf q q (eu st) (dy st) (al st) .none kV dc pm an cd ct) {[x0,x1,x2,x3],[]}=pure (ps.zip [x0,x1,x2,x3]):=by intros;show rfl):Fg K mg n q st ps f d:=by
 show{F,F.binds λkV dc pm an cd ct us hl=>?_,e};rw[hp] at hl;rcases us with _|⟨x0,us⟩
 .simp at hl
 rcases us with _|⟨x1,us⟩
 .simp at hl
 rcases us with _|⟨x2,us⟩
 .simp at hl
 rcases us with _|⟨x3,us⟩
 .simp at hl
 rcases us with _|⟨y,us⟩
 .show h kV dc pm an cd ct x0 x1 x2 x3
 .simp at hl
def Hf(K:W.Frag)(n:Str)(st:So)(f:Se)(q:Str:=n):Prop:=W.nsIn K mainGlobals n=some (some (.ref f))/\∃d,Fun K q q st f d
def M0{n q:Str}{od an:Sn Se}{sl:Array (Sn PP)}{oc kV dc pm cd ct:PP}(a:W.nsIn K mainGlobals n=some (some (.ref f)))(l:K.lookup f=some {oc,od,.func (W.fnOf q q (eu st) (dy st) (al st) .none kV dc pm an cd ct),sl})(c:W.codeIn K cd q=true)(k:W.keepIn K (.ref f)=true):Hf K n st f q:={a,_,Fj l c k}
def M1{l:W.OpenLaw}{w:Si}{h:Sm}{fa:Se}(X:K.In h)(G:h.Ns mainGlobals mg)(hfa:mg "law"=some (.ref fa))
  {f0 f1 f2 f3 f4 f5 f6 f7 f8 f9 f10 f11 f12 f13 f14 f15 f16 f17 f18 f19 f20 f21 f22 f23 f24 f25 f26 f27 f28 f29 f30 f31 f32 f33 f34 f35 f36 f37 f38 f39 f40 f41 f42 f43 f44 f45 f46 f47 f48 f49 f50 f51 f52 f53 f54 f55 f56 f57 f58 f59 f60 f61 f62 f63 f64 f65 f66 f67 f68 f69 f70 f71 f72:Se}
  (h0:Hf K "is_whole" ow f0)
  (h1:Hf K "need_between" ox f1)
  (h2:Hf K "need_narrow" oy f2)
  (h3:Hf K "need_wide" oz f3)
  (h4:Hf K "need_degree" oA f4)
  (h5:Hf K "choose" oB f5)
  (h6:Hf K "is_row" oC f6)
  (h7:Hf K "row_weight" jH f7)
  (h8:Hf K "need_rows" oD f8)
  (h9:Hf K "without_last_noughts" oE f9)
  (h10:Hf K "sum_by_place" oF f10)
  (h11:Hf K "product_by_place" oG f11)
  (h12:Hf K "with_more" oH f12)
  (h13:Hf K "product_of" oI f13)
  (h14:Hf K "filled_up" oJ f14)
  (h15:Hf K "rows_within" lv f15)
  (h16:Hf K "rows_beyond" oK f16)
  (h17:Hf K "choices" oM f17)
  (h18:Hf K "weights_gained" oN f18)
  (h19:Hf K "with_one_held" oO f19)
  (h20:Hf K "with_one_degree_fewer" oP f20)
  (h21:Hf K "summands" oQ f21)
  (h22:Hf K "counted" oR f22)
  (h23:Hf K "asked_of" oS f23)
  (h24:Hf K "by_ends" oT f24)
  (h25:Hf K "ends_at" oU f25)
  (h26:Hf K "sound" oV f26)
  (h27:Hf K "lost" oW f27)
  (h28:Hf K "lifts_from" oX f28)
  (h29:Hf K "leaving" oY f29)
  (h30:Hf K "with_floor" jP f30)
  (h31:Hf K "drawings" lB f31)
  (h32:Hf K "worth_floors" oZ f32 "worth")
  (h33:Hf K "need_sound" o0 f33)
  (h34:Hf K "end_marks" o6 f34)
  (h35:Hf K "put_between" o7 f35)
  (h36:Hf K "how_many_orders" o8 f36)
  (h37:Hf K "how_many" o9 f37)
  (h38:Hf K "count_by_floors" lE f38)
  (h39:Hf K "shade" ph f39)
  (h40:Hf K "added" pi f40)
  (h41:Hf K "mixed" pq f41)
  (h42:Hf K "turned" pz f42)
  (h43:Hf K "at_one" pA f43)
  (h44:Hf K "stretch" lG f44)
  (h45:Hf K "points" pB f45)
  (h46:Hf K "is_point" pC f46)
  (h47:Hf K "corner" pD f47)
  (h48:Hf K "upper_edge" lI f48)
  (h49:Hf K "lower_edge" jQ f49)
  (h50:Hf K "first_turn" pE f50)
  (h51:Hf K "steps" pF f51)
  (h52:Hf K "piece_worth" pG f52)
  (h53:Hf K "leaving_out" lJ f53)
  (h54:Hf K "ways" lK f54)
  (h55:Hf K "worth_ways" pH f55 "worth")
  (h56:Hf K "known_above" pI f56)
  (h57:Hf K "known_below" pJ f57)
  (h58:Hf K "count_by_ways" pK f58)
  (h59:Hf K "of_number" pM f59)
  (h60:Hf K "stretched" pN f60)
  (h61:Hf K "way_shade" pO f61)
  (h62:Hf K "shade_by_ways" pP f62)
  (h63:Hf K "shade_by_floors" lM f63)
  (h64:Hf K "ends_shade" pQ f64)
  (h65:Hf K "shade_by_ends" pR f65)
  (h66:Hf K "_law_cell_at" pT f66)
  (h67:Hf K "_law_number" pU f67)
  (h68:Hf K "_law_pairs" pV f68)
  (h69:Hf K "_law_rows" pW f69)
  (h70:Hf K "_law_whole" pX f70)
  (h71:Hf K "_law_right" pY f71)
  (h72:Hf K "law" pZ f72)
  (zz:∀n∈["isinstance","int","bool","range","list","sum","enumerate","max","len","tuple","min","zip","sorted","set","reversed","abs"],W.nsIn K mainGlobals n=some none)
  {K_LEFT:Tok} (mi_LEFT:W.nsIn K mainGlobals "LEFT"=some (some (.int (1) K_LEFT)))
  {K_RIGHT:Tok} (mi_RIGHT:W.nsIn K mainGlobals "RIGHT"=some (some (.int (-1) K_RIGHT)))
  {A_NARROW:Se} (da_NARROW:W.nsIn K mainGlobals "NARROW"=some (some (.ref A_NARROW))) (dt_NARROW:ii K A_NARROW [(1,6),(2,6),(3,6),(4,2)]=true)
  {A_WIDE:Se} (da_WIDE:W.nsIn K mainGlobals "WIDE"=some (some (.ref A_WIDE))) (dt_WIDE:ii K A_WIDE [(1,6),(2,6),(3,6),(4,6),(5,3)]=true)
  {C_NoBound:Se} (ca_NoBound:W.nsIn K mainGlobals "NoBound"=some (some (.ref C_NoBound)))
  {C_NoEnds:Se} (ca_NoEnds:W.nsIn K mainGlobals "NoEnds"=some (some (.ref C_NoEnds)))
  {C_NoDrawing:Se} (ca_NoDrawing:W.nsIn K mainGlobals "NoDrawing"=some (some (.ref C_NoDrawing)))
  (cx_NoBound:W.excIn K C_NoBound bmV "ValueError.__new__"=true) (xc_NoBound:XC K C_NoBound)
  (cx_NoEnds:W.excIn K C_NoEnds bmV "ValueError.__new__"=true) (xc_NoEnds:XC K C_NoEnds)
  (cx_NoDrawing:W.excIn K C_NoDrawing bmV "ValueError.__new__"=true) (xc_NoDrawing:XC K C_NoDrawing)
  :∃fd:Sg,(∀(s:Sc) (v:PP),BindsTo s fd {[v],[]} [("_law_script",v)])/\∀base:Sm,K.In base->base.Ns mainGlobals mg->FnOk l.prog w K mg base CX0 59 fa fd ["_law_script"] (sp_law K):=by
 have{a0,d0,F0}:=h0;have{a1,d1,F1}:=h1;have{a2,d2,F2}:=h2;have{a3,d3,F3}:=h3;have{a4,d4,F4}:=h4;have{a5,d5,F5}:=h5;have{a6,d6,F6}:=h6;have{a7,d7,F7}:=h7;have{a8,d8,F8}:=h8;have{a9,d9,F9}:=h9;have{a10,d10,F10}:=h10;have{a11,d11,F11}:=h11;have{a12,d12,F12}:=h12;have{a13,d13,F13}:=h13;have{a14,d14,F14}:=h14;have{a15,d15,F15}:=h15;have{a16,d16,F16}:=h16;have{a17,d17,F17}:=h17;have{a18,d18,F18}:=h18;have{a19,d19,F19}:=h19;have{a20,d20,F20}:=h20;have{a21,d21,F21}:=h21;have{a22,d22,F22}:=h22;have{a23,d23,F23}:=h23;have{a24,d24,F24}:=h24;have{a25,d25,F25}:=h25;have{a26,d26,F26}:=h26;have{a27,d27,F27}:=h27;have{a28,d28,F28}:=h28;have{a29,d29,F29}:=h29;have{a30,d30,F30}:=h30;have{a31,d31,F31}:=h31;have{a32,d32,F32}:=h32;have{a33,d33,F33}:=h33;have{a34,d34,F34}:=h34;have{a35,d35,F35}:=h35;have{a36,d36,F36}:=h36;have{a37,d37,F37}:=h37;have{a38,d38,F38}:=h38;have{a39,d39,F39}:=h39;have{a40,d40,F40}:=h40;have{a41,d41,F41}:=h41;have{a42,d42,F42}:=h42;have{a43,d43,F43}:=h43;have{a44,d44,F44}:=h44;have{a45,d45,F45}:=h45;have{a46,d46,F46}:=h46;have{a47,d47,F47}:=h47;have{a48,d48,F48}:=h48;have{a49,d49,F49}:=h49;have{a50,d50,F50}:=h50;have{a51,d51,F51}:=h51;have{a52,d52,F52}:=h52;have{a53,d53,F53}:=h53;have{a54,d54,F54}:=h54;have{a55,d55,F55}:=h55;have{a56,d56,F56}:=h56;have{a57,d57,F57}:=h57;have{a58,d58,F58}:=h58;have{a59,d59,F59}:=h59;have{a60,d60,F60}:=h60;have{a61,d61,F61}:=h61;have{a62,d62,F62}:=h62;have{a63,d63,F63}:=h63;have{a64,d64,F64}:=h64;have{a65,d65,F65}:=h65;have{a66,d66,F66}:=h66;have{a67,d67,F67}:=h67;have{a68,d68,F68}:=h68;have{a69,d69,F69}:=h69;have{a70,d70,F70}:=h70;have{a71,d71,F71}:=h71;have{a72,d72,F72}:=h72;cases hfa.symm.trans (W.mg_of X G a72);have Wq:=F72;have{_,_,_,_,_,_,_,_,_,0,_}:=F72.ex;have g {n:Str}{v:PP} (e:W.nsIn K mainGlobals n=some (some v)):mg n=some v:=W.mg_of X G e;show{_,λs v=>.of_eq rfl,λbase _ _=>MZ ({f0,_,f1,_,f2,_,f3,_,f4,_,f5,_,f6,_,f7,_,f8,_,f9,_,f10,_,f11,_,f12,_,f13,_,f14,_,f15,_,f16,_,f17,_,f18,_,f19,_,f20,_,f21,_,f22,_,f23,_,f24,_,f25,_,f26,_,f27,_,f28,_,f29,_,f30,_,f31,_,f32,_,f33,_,f34,_,f35,_,f36,_,f37,_,f38,_,f39,_,f40,_,f41,_,f42,_,f43,_,f44,_,f45,_,f46,_,f47,_,f48,_,f49,_,f50,_,f51,_,f52,_,f53,_,f54,_,f55,_,f56,_,f57,_,f58,_,f59,_,f60,_,f61,_,f62,_,f63,_,f64,_,f65,_,f66,_,f67,_,f68,_,f69,_,f70,_,f71,_,fa,_,fb1 F0 (g a0),fb3 F1 (g a1),fb2 F2 (g a2),fb2 F3 (g a3),fb1 F4 (g a4),fb2 F5 (g a5),fb1 F6 (g a6),fb1 F7 (g a7),fb3 F8 (g a8),fb1 F9 (g a9),fb2 F10 (g a10),fb2 F11 (g a11),fb3 F12 (g a12),fb1 F13 (g a13),fb2 F14 (g a14),fb1 F15 (g a15),fb3 F16 (g a16),fb2 F17 (g a17),fb2 F18 (g a18),fb4 F19 (g a19),fb4 F20 (g a20),fb1 F21 (g a21),fb2 F22 (g a22),fb4 F23 (g a23),fb4 F24 (g a24),fb2 F25 (g a25),fb2 F26 (g a26),fb1 F27 (g a27),fb4 F28 (g a28),fb3 F29 (g a29),fb4 F30 (g a30),fb2 F31 (g a31),fb1 F32 (g a32),fb2 F33 (g a33),fb2 F34 (g a34),fb4 F35 (g a35),fb2 F36 (g a36),fb2 F37 (g a37),fb2 F38 (g a38),fb2 F39 (g a39),fb2 F40 (g a40),fb2 F41 (g a41),fb1 F42 (g a42),fb1 F43 (g a43),fb1 F44 (g a44),fb1 F45 (g a45),fb2 F46 (g a46),fb3 F47 (g a47),fb1 F48 (g a48),fb1 F49 (g a49),fb2 F50 (g a50),fb3 F51 (g a51),fb1 F52 (g a52),fb2 F53 (g a53),fb2 F54 (g a54),fb4 F55 (g a55),fb1 F56 (g a56),fb1 F57 (g a57),fb2 F58 (g a58),fb1 F59 (g a59),fb1 F60 (g a60),fb4 F61 (g a61),fb2 F62 (g a62),fb2 F63 (g a63),fb2 F64 (g a64),fb4 F65 (g a65),fb2 F66 (g a66),fb2 F67 (g a67),fb0 F68 (g a68),fb2 F69 (g a69),fb1 F70 (g a70),fb2 F71 (g a71),fb1 Wq (g a72),Az X G (zz _ (by decide)),Az X G (zz _ (by decide)),Az X G (zz _ (by decide)),Az X G (zz _ (by decide)),Az X G (zz _ (by decide)),Az X G (zz _ (by decide)),Az X G (zz _ (by decide)),Az X G (zz _ (by decide)),Az X G (zz _ (by decide)),Az X G (zz _ (by decide)),Az X G (zz _ (by decide)),Az X G (zz _ (by decide)),Az X G (zz _ (by decide)),Az X G (zz _ (by decide)),Az X G (zz _ (by decide)),Az X G (zz _ (by decide)),K_LEFT,g mi_LEFT,K_RIGHT,g mi_RIGHT,A_NARROW,g da_NARROW,dt_NARROW,A_WIDE,g da_WIDE,dt_WIDE,C_NoBound,g ca_NoBound,C_NoEnds,g ca_NoEnds,C_NoDrawing,g ca_NoDrawing,cx_NoBound,xc_NoBound,cx_NoEnds,xc_NoEnds,cx_NoDrawing,xc_NoDrawing}:Fns K mg)}
theorem walk{l:W.OpenLaw}{q:Sf}{Oo:Sk Str}{XP:(Str->Sn PP)->Sm->Prop}{YP:Si->Sm->Prop}{d:DefRec}{K:Params->W.Frag}(hn:l.most=some 63)(hdf:d.params.defaults=[])
  (hY:∀(w:Si) (h:Sm),YP w h->(K w.params).In h)
  (F:∀(w:Si) (mg:Str->Sn PP) (fa:Se) (h:Sm),(K w.params).In h->h.Ns mainGlobals mg->mg d.name=some (.ref fa)->
   ∃fd:Sg,(∀(s:Sc) (u:PP),BindsTo s fd {[u],[]} [("_law_script",u)])/\∀base:Sm,(K w.params).In base->base.Ns mainGlobals mg->FnOk l.prog w (K w.params) mg base CX0 59 fa fd ["_law_script"] (sp_law (K w.params))):
  W.WalkO q Oo XP YP l.row.toRowW d [] (λf vs=>PySem.call f vs):=
 L2.Fi (n:=63) (k:=59) (x:="_law_script") (CX:=λ_=>CX0) (sp:=λw=>sp_law (K w.params)) hn (by decide) hdf {0,5,5} hY F (λ_ _ a ns hl _ hS=>{a,ns,0,hS,hl,λ_=>rfl}) λ_ _ _ _ _ z=>z
end Mine
open PySem PySem.W PyProof.Rows
namespace PySem.W.Fast
theorem tw2016179050620618329:0=0:=rfl
theorem tw10307915364891912788:0=0:=rfl
theorem tw10905465690194927650:0=0:=rfl
theorem tw11495925292008927450:0=0:=rfl
theorem tw1404048957950907721:0=0:=rfl
theorem tw5394054497118546649:0=0:=rfl
theorem tw16389138663995321215:0=0:=rfl
theorem tw15132281820177424623:0=0:=rfl
theorem tw9809493315491694241:0=0:=rfl
theorem tw8244276582241386246:0=0:=rfl
theorem tw7602084182736072240:0=0:=rfl
theorem tw8269859293673284393:0=0:=rfl
theorem tw15811276004895141439:0=0:=rfl
theorem tw1656151625635090181:0=0:=rfl
theorem tw4898057326154142934:0=0:=rfl
theorem tw9088367907694101107:0=0:=rfl
theorem tw6629306296003156050:0=0:=rfl
theorem tw8811234533924388278:0=0:=rfl
theorem tw255543510689337389:0=0:=rfl
theorem tw2118136630144960917:0=0:=rfl
theorem tw14601737826619407200:0=0:=rfl
theorem tw8340995871668920320:0=0:=rfl
theorem tw2239375902634836313:0=0:=rfl
theorem tw159654041850833851:0=0:=rfl
theorem tw2131941921000918963:0=0:=rfl
theorem tw2104195745512730994:0=0:=rfl
theorem tw3506157769906090191:0=0:=rfl
theorem tw10294131319198966946:0=0:=rfl
theorem tw11799103151946096061:0=0:=rfl
theorem tw14606935951709351190:0=0:=rfl
theorem tw4331598466644495464:0=0:=rfl
theorem tw9275786602401608462:0=0:=rfl
theorem tw11674022771240599834:0=0:=rfl
theorem tw14691469909038415238:0=0:=rfl
theorem tw125574709917770148:0=0:=rfl
theorem tw16748401638477317111:0=0:=rfl
theorem tw14706022124845158272:0=0:=rfl
theorem tw10866878082442152853:0=0:=rfl
theorem tw4956512314595984216:0=0:=rfl
theorem tw15924322473358864181:0=0:=rfl
theorem tw13951378926256781523:0=0:=rfl
theorem tw9743201191584970832:0=0:=rfl
theorem tw1947693058497404737:0=0:=rfl
theorem tw15530593283708579137:0=0:=rfl
theorem tw16036841743490519233:0=0:=rfl
theorem tw1455929742076736474:0=0:=rfl
theorem tw10465992366674510634:0=0:=rfl
theorem tw17767205168956564337:0=0:=rfl
theorem tw13345061273492566690:0=0:=rfl
theorem tw2304121546349310139:0=0:=rfl
theorem tw4657606891775687847:0=0:=rfl
theorem tw6354199782126724106:0=0:=rfl
theorem tw13889932565315395364:0=0:=rfl
theorem tw14594936689318841135:0=0:=rfl
theorem tw13460070932754574991:0=0:=rfl
theorem tw9112751622239008034:0=0:=rfl
theorem tw18127977319106481364:0=0:=rfl
theorem tw1085611137965098724:0=0:=rfl
theorem tw13554317428120950848:0=0:=rfl
theorem tw10325832694406379440:0=0:=rfl
theorem tw9424404412659392847:0=0:=rfl
theorem tw4755661421805902356:0=0:=rfl
theorem tw15718036762677890242:0=0:=rfl
theorem tw14761748948600886024:0=0:=rfl
theorem tw14133072031398955012:0=0:=rfl
theorem tw13728435729439369244:0=0:=rfl
theorem tw4515264034508892256:0=0:=rfl
theorem tw14734202567439401914:0=0:=rfl
theorem tw2934037726453893005:0=0:=rfl
theorem tw3541364163218125006:0=0:=rfl
theorem tw4280963170819796852:0=0:=rfl
theorem tw15324946723880093628:0=0:=rfl
theorem tw431472591674638687:0=0:=rfl
theorem tw17795200353013121762:0=0:=rfl
theorem tw14680377484829582095:0=0:=rfl
theorem tw12101331184568254961:0=0:=rfl
theorem tw13299842246428033903:0=0:=rfl
theorem tw11627207865026549129:0=0:=rfl
theorem tw12223132565834191889:0=0:=rfl
theorem tw17287883827102065119:0=0:=rfl
theorem tw2544903851496293277:0=0:=rfl
theorem tw8303157727848570963:0=0:=rfl
theorem tw16533030070602026740:0=0:=rfl
theorem tw7967278358770867285:0=0:=rfl
theorem tw13279223367945927351:0=0:=rfl
theorem tw7948892521003451380:0=0:=rfl
theorem tw18058237879141498257:0=0:=rfl
theorem tw15982662680169298389:0=0:=rfl
theorem tw4409038544870901266:0=0:=rfl
theorem tw6867586484918649606:0=0:=rfl
theorem tw6562128211700074024:0=0:=rfl
theorem tw16050865231172167050:0=0:=rfl
theorem tw3111554803067487188:0=0:=rfl
theorem tw7799707902841684181:0=0:=rfl
theorem tw15597265842560140675:0=0:=rfl
theorem tw9983214617541937401:0=0:=rfl
theorem tw451125177819293240:0=0:=rfl
theorem tw5236981967083362519:0=0:=rfl
theorem tw12774428592769397262:0=0:=rfl
theorem tw3486914978773708365:0=0:=rfl
theorem tw920419123620991709:0=0:=rfl
theorem tw11189008435681117007:0=0:=rfl
theorem tw13424947711849366121:0=0:=rfl
theorem tw11863883669296058703:0=0:=rfl
theorem tw3077528081763669455:0=0:=rfl
theorem tw17004414780259350413:0=0:=rfl
theorem tw1652421631774484252:0=0:=rfl
theorem tw974994728026026995:0=0:=rfl
theorem tw16579464280713868091:0=0:=rfl
theorem tw4899843633715721345:0=0:=rfl
theorem tw4403800830963821943:0=0:=rfl
theorem tw17562641034980509498:0=0:=rfl
theorem tw9731113811221968591:0=0:=rfl
theorem tw4831156693488606269:0=0:=rfl
theorem tw4926339389577356363:0=0:=rfl
theorem tw11517524193233721137:0=0:=rfl
theorem tw6631267739732388297:0=0:=rfl
theorem tw16911508303373772294:0=0:=rfl
theorem tw9177522215501024506:0=0:=rfl
theorem tw16327149092474424981:0=0:=rfl
theorem tw5094541599717853081:0=0:=rfl
theorem tw6866624756432341290:0=0:=rfl
theorem tw8032640747055499422:0=0:=rfl
theorem tw13856007607931295952:0=0:=rfl
theorem tw16011349954432536302:0=0:=rfl
theorem tw18413627665454506:0=0:=rfl
theorem tw17954450291652504166:0=0:=rfl
theorem tw15623470999634505151:0=0:=rfl
theorem tw1269364451922452585:0=0:=rfl
theorem tw5450548156115618626:0=0:=rfl
theorem tw8465790343780361577:0=0:=rfl
theorem tw4417519426699151720:0=0:=rfl
theorem tw4272902570956160639:0=0:=rfl
theorem tw7657392126730811024:0=0:=rfl
theorem tw3598702886132257889:0=0:=rfl
theorem tw11506663987632025366:0=0:=rfl
theorem tw18145935145304132591:0=0:=rfl
theorem tw3916497739692253035:0=0:=rfl
theorem tw7433243704308866742:0=0:=rfl
theorem tw17959361246398388211:0=0:=rfl
theorem tw7747877114547782295:0=0:=rfl
theorem tw18233979750439377732:0=0:=rfl
theorem tw16969092977810887231:0=0:=rfl
theorem tw5891726246372996604:0=0:=rfl
theorem tw15930092671509177141:0=0:=rfl
theorem tw2395243572676641586:0=0:=rfl
theorem tw8337103319899575465:0=0:=rfl
theorem tw3327870005747282645:0=0:=rfl
theorem tw2668600373604179228:0=0:=rfl
theorem tw2621953923562262424:0=0:=rfl
theorem tw3713015224353647942:0=0:=rfl
theorem tw1661064744453076709:0=0:=rfl
theorem tw4654856415850694552:0=0:=rfl
theorem tw16247831623394318260:0=0:=rfl
theorem tw3563529431769215958:0=0:=rfl
theorem tw11789923280826838320:0=0:=rfl
theorem tw14656025000081459252:0=0:=rfl
theorem tw15717522662921387489:0=0:=rfl
theorem tw18131455616416887309:0=0:=rfl
theorem tw11250143047324282727:0=0:=rfl
theorem tw18387919488890169042:0=0:=rfl
theorem tw16873358905300195027:0=0:=rfl
theorem tw14173602664848017331:0=0:=rfl
theorem tw6845757863387518193:0=0:=rfl
theorem tw15329462132355353796:0=0:=rfl
theorem tw4219552676944694339:0=0:=rfl
theorem tw16772546314526033613:0=0:=rfl
theorem tw14789873681396629257:0=0:=rfl
theorem tw8459938324351066324:0=0:=rfl
theorem tw14562126793368967538:0=0:=rfl
theorem tw16880736209311549207:0=0:=rfl
theorem tw11880438070355854604:0=0:=rfl
theorem tw13981586480043633380:0=0:=rfl
theorem tw7850867481170619505:0=0:=rfl
theorem tw7151339738974018644:0=0:=rfl
theorem tw13502839093005271889:0=0:=rfl
theorem tw14078536180562340404:0=0:=rfl
theorem tw12150521720585405372:0=0:=rfl
theorem tw12824766650384396777:0=0:=rfl
theorem tw16803672542334841216:0=0:=rfl
theorem tw5287767140560991993:0=0:=rfl
theorem tw1743183393020851042:0=0:=rfl
theorem tw11647690586700183684:0=0:=rfl
theorem tw17813860102356614124:0=0:=rfl
theorem tw18061328128618669627:0=0:=rfl
theorem tw11165573141029103119:0=0:=rfl
theorem tw647013041728539881:0=0:=rfl
theorem tw1380634449476819694:0=0:=rfl
theorem tw1477158223933411465:0=0:=rfl
theorem tw11213277163216906530:0=0:=rfl
theorem tw11112183703286844448:0=0:=rfl
theorem tw1762695433776927016:0=0:=rfl
theorem tw10361104269769797711:0=0:=rfl
theorem tw6955024115121153935:0=0:=rfl
theorem tw5952002912822277354:0=0:=rfl
theorem tw12163722255538594615:0=0:=rfl
theorem tw4228142516165654717:0=0:=rfl
theorem tw8617713367484043880:0=0:=rfl
theorem tw4538644465697373451:0=0:=rfl
theorem tw13485051325064968141:0=0:=rfl
theorem tw12258635828272700729:0=0:=rfl
theorem tw14594681209878102501:0=0:=rfl
theorem tw8569957752716513535:0=0:=rfl
theorem tw10497429337434484408:0=0:=rfl
theorem tw5794987550102923043:0=0:=rfl
theorem tw13817693188793626404:0=0:=rfl
theorem tw1719780493013623966:0=0:=rfl
theorem tw835677911696100145:0=0:=rfl
theorem tw8928443738465357464:0=0:=rfl
theorem tw12979617048311351148:0=0:=rfl
theorem tw16473710354229387071:0=0:=rfl
theorem tw242795117476172474:0=0:=rfl
theorem tw3562516219709049001:0=0:=rfl
theorem tw2226117137632941077:0=0:=rfl
theorem tw1028632270223262007:0=0:=rfl
theorem tw10815027342005884565:0=0:=rfl
theorem tw1622658539339661263:0=0:=rfl
theorem tw1358119654541444786:0=0:=rfl
theorem tw2044004861032869656:0=0:=rfl
theorem tw2722137243062549713:0=0:=rfl
theorem tw1509124099205883369:0=0:=rfl
theorem tw6897343198145787410:0=0:=rfl
theorem tw13638489200409219031:0=0:=rfl
theorem tw8458867724486494496:0=0:=rfl
theorem tw7307220037335888515:0=0:=rfl
theorem tw10037443032499492866:0=0:=rfl
theorem tw2101083440347190961:0=0:=rfl
theorem tw8730667110812205922:0=0:=rfl
theorem tw9725318939226263281:0=0:=rfl
theorem tw12746765189985037671:0=0:=rfl
theorem tw7810343507037268760:0=0:=rfl
theorem tw9842044239513581764:0=0:=rfl
theorem tw5286709849766850577:0=0:=rfl
theorem tw4938947592193266785:0=0:=rfl
theorem tw6981347832604332128:0=0:=rfl
theorem tw16526121260941348883:0=0:=rfl
theorem tw14519656583468298966:0=0:=rfl
theorem tw4393865785523098451:0=0:=rfl
theorem tw2925115549601725627:0=0:=rfl
theorem tw10504048112841095159:0=0:=rfl
theorem tw5045211097884388437:0=0:=rfl
theorem tw14699280099723429103:0=0:=rfl
theorem tw2798016497737849502:0=0:=rfl
theorem tw15759379267848172536:0=0:=rfl
theorem tw5417299297598069451:0=0:=rfl
theorem tw16257829224896420131:0=0:=rfl
theorem tw12715714566330365285:0=0:=rfl
theorem tw14721756295473364689:0=0:=rfl
theorem tw1424179071203770572:0=0:=rfl
theorem tw5612207857152702708:0=0:=rfl
theorem tw15479940516215537357:0=0:=rfl
theorem tw5305157240290697835:0=0:=rfl
theorem tw17087662254894198343:0=0:=rfl
theorem tw14878108252478067070:0=0:=rfl
theorem tw9469917518986010952:0=0:=rfl
theorem tw13849294167543807182:0=0:=rfl
theorem tw13587229920508355647:0=0:=rfl
theorem tw16562559334497479867:0=0:=rfl
theorem tw3157294550781804404:0=0:=rfl
theorem tw17353536769952291683:0=0:=rfl
theorem tw13884576274428464230:0=0:=rfl
theorem tw17564912110888818645:0=0:=rfl
theorem tw4257182973561796085:0=0:=rfl
theorem tw8216915568024963225:0=0:=rfl
theorem tw17539713255998025607:0=0:=rfl
theorem tw17421297120228323751:0=0:=rfl
theorem tw11320184719213133459:0=0:=rfl
theorem tw14614734857700367467:0=0:=rfl
theorem tw7370444305098812172:0=0:=rfl
theorem tw42041281197107689:0=0:=rfl
theorem tw16508548597310665345:0=0:=rfl
theorem tw16734807620992692158:0=0:=rfl
theorem tw2596210665824502940:0=0:=rfl
theorem tw17861624952722140389:0=0:=rfl
theorem tw11405822614446444896:0=0:=rfl
theorem tw8850331506158607201:0=0:=rfl
theorem tw5700474335627958862:0=0:=rfl
theorem tw10483373902192131065:0=0:=rfl
theorem tw17236503668809287263:0=0:=rfl
theorem tw6682210250126268009:0=0:=rfl
theorem tw4834667031476475652:0=0:=rfl
theorem tw1666017856223242922:0=0:=rfl
theorem tw2125076411431241785:0=0:=rfl
theorem tw14854756265294480709:0=0:=rfl
theorem tw16771680959500048436:0=0:=rfl
theorem tw16902707097880407722:0=0:=rfl
theorem tw4121745438748347131:0=0:=rfl
theorem tw8246131090529561200:0=0:=rfl
theorem tw9798987181083141035:0=0:=rfl
theorem tw9015650303314857410:0=0:=rfl
theorem tw3256338011247946721:0=0:=rfl
theorem tw6064709569520277895:0=0:=rfl
theorem tw8581599295703187177:0=0:=rfl
theorem tw1371729155687366145:0=0:=rfl
theorem tw17374388764133837355:0=0:=rfl
theorem tw5983448431420904228:0=0:=rfl
theorem tw15243406019391716752:0=0:=rfl
theorem tw13115732951538224584:0=0:=rfl
theorem tw15843029246777177543:0=0:=rfl
theorem tw2118006006417595947:0=0:=rfl
theorem tw3159090017955363867:0=0:=rfl
theorem tw9057300186757827739:0=0:=rfl
theorem tw1688412675177297744:0=0:=rfl
theorem tw12629515200132327695:0=0:=rfl
theorem tw16279711170474668418:0=0:=rfl
theorem tw5935534833396321069:0=0:=rfl
theorem tw11480694377477413741:0=0:=rfl
theorem tw3024939683710643911:0=0:=rfl
theorem tw2706547239450728402:0=0:=rfl
theorem tw11605894731469324764:0=0:=rfl
theorem tw15234356731000650977:0=0:=rfl
theorem tw8209809233280216359:0=0:=rfl
theorem tw1447480544016365128:0=0:=rfl
theorem tw9670114608218231086:0=0:=rfl
theorem tw9551399343550002060:0=0:=rfl
theorem tw11833589330500628228:0=0:=rfl
theorem tw144326715374231359:0=0:=rfl
theorem tw11594397255186496691:0=0:=rfl
theorem tw16073045238213315869:0=0:=rfl
theorem tw7673776474175635927:0=0:=rfl
theorem tw12004594075328533825:0=0:=rfl
theorem tw4100084566648185301:0=0:=rfl
theorem tw18182670938466798694:0=0:=rfl
theorem tw7794919565589506089:0=0:=rfl
theorem tw16079795469036650913:0=0:=rfl
theorem tw16058511531732926647:0=0:=rfl
theorem tw6885237081584309494:0=0:=rfl
theorem tw12830425322304064276:0=0:=rfl
theorem tw7969926003466078848:0=0:=rfl
theorem tw1780091063806829680:0=0:=rfl
theorem tw5884925058484410127:0=0:=rfl
theorem tw16424122300252236180:0=0:=rfl
theorem tw9082781412376649830:0=0:=rfl
theorem tw2222318374079791771:0=0:=rfl
theorem tw13499444697985914774:0=0:=rfl
theorem tw7749034729093580884:0=0:=rfl
theorem tw12147618446446795742:0=0:=rfl
theorem tw6755019337477327838:0=0:=rfl
theorem tw5081678274350729784:0=0:=rfl
theorem tw4918179419836369233:0=0:=rfl
theorem tw7500869683135289355:0=0:=rfl
theorem tw13042711259095581184:0=0:=rfl
theorem tw4615761711444336940:0=0:=rfl
theorem tw9408215082892257996:0=0:=rfl
theorem tw9129359351964802612:0=0:=rfl
theorem tw13733162237585077473:0=0:=rfl
theorem tw12545306001074650308:0=0:=rfl
theorem tw5872135294982250650:0=0:=rfl
theorem tw4211491527460711912:0=0:=rfl
theorem tw13496239608433432505:0=0:=rfl
theorem tw14912018271598658010:0=0:=rfl
theorem tw14936515733501227602:0=0:=rfl
theorem tw7749108567937332960:0=0:=rfl
theorem tw6799127151761978738:0=0:=rfl
theorem tw4038449934569172:0=0:=rfl
theorem tw9691810401898699529:0=0:=rfl
theorem tw7981568570743713248:0=0:=rfl
theorem tw5731860302371048590:0=0:=rfl
theorem tw10218669192083194780:0=0:=rfl
theorem tw15497703179289758560:0=0:=rfl
theorem tw2067276833226418783:0=0:=rfl
theorem tw11974420799051405601:0=0:=rfl
theorem tw18235875603811156248:0=0:=rfl
theorem tw16663358699679406218:0=0:=rfl
theorem tw12302578650820502022:0=0:=rfl
theorem tw11359223095409667290:0=0:=rfl
theorem tw681018263691949982:0=0:=rfl
theorem tw1083144695088279464:0=0:=rfl
theorem tw14016320569502500930:0=0:=rfl
theorem tw9150640946483618761:0=0:=rfl
theorem tw6203246595952893674:0=0:=rfl
theorem tw10103758849827678241:0=0:=rfl
theorem tw15036915512852949528:0=0:=rfl
theorem tw14257252444123877833:0=0:=rfl
theorem tw1837861331244099886:0=0:=rfl
theorem tw6236687894115640943:0=0:=rfl
theorem tw8004502232453544476:0=0:=rfl
theorem tw15246247114415495716:0=0:=rfl
theorem tw941910787159193236:0=0:=rfl
theorem tw12782676883102955478:0=0:=rfl
theorem tw7923573243392803862:0=0:=rfl
theorem tw17814896167100172263:0=0:=rfl
theorem tw5914267576252928525:0=0:=rfl
theorem tw6301001196209212424:0=0:=rfl
theorem tw14030102892847603100:0=0:=rfl
theorem tw8686092577672833201:0=0:=rfl
theorem tw17822321721307597080:0=0:=rfl
theorem tw927458002820727497:0=0:=rfl
theorem tw1910947482406640334:0=0:=rfl
theorem tw808194286996321866:0=0:=rfl
theorem tw16626265290229893716:0=0:=rfl
theorem tw6937696698945377601:0=0:=rfl
theorem tw18272457279069411096:0=0:=rfl
theorem tw2852706448008634131:0=0:=rfl
theorem tw4826838482897251322:0=0:=rfl
theorem tw12317801457328068403:0=0:=rfl
theorem tw7325090359204583626:0=0:=rfl
theorem tw5253970654189046828:0=0:=rfl
theorem tw17465891413196183178:0=0:=rfl
theorem tw3630327638750130976:0=0:=rfl
end PySem.W.Fast
set_option maxRecDepth 100000 in
set_option maxHeartbeats 0 in
theorem PySem.Challenge.cw_floorcurves_k70_shades_of_counts_holds : PySem.Challenge.rw_floorcurves_k70_shades_of_counts.Holds := by
 w_on; o_law; k_head; (case hw => w_witness2)
 k_fill
 show Mine.walk (l := PySem.Challenge.rw_floorcurves_k70_shades_of_counts) rfl rfl (λw h Y => PySem.W.kIn_of Y) ?F
 case F =>
  intro w mg fa h KX G hmg
  refine' Mine.M1 KX G hmg ?h0 ?h1 ?h2 ?h3 ?h4 ?h5 ?h6 ?h7 ?h8 ?h9 ?h10 ?h11 ?h12 ?h13 ?h14 ?h15 ?h16 ?h17 ?h18 ?h19 ?h20 ?h21 ?h22 ?h23 ?h24 ?h25 ?h26 ?h27 ?h28 ?h29 ?h30 ?h31 ?h32 ?h33 ?h34 ?h35 ?h36 ?h37 ?h38 ?h39 ?h40 ?h41 ?h42 ?h43 ?h44 ?h45 ?h46 ?h47 ?h48 ?h49 ?h50 ?h51 ?h52 ?h53 ?h54 ?h55 ?h56 ?h57 ?h58 ?h59 ?h60 ?h61 ?h62 ?h63 ?h64 ?h65 ?h66 ?h67 ?h68 ?h69 ?h70 ?h71 ?h72 ?zz ?mi_LEFT ?mi_RIGHT ?da_NARROW ?dt_NARROW ?da_WIDE ?dt_WIDE ?ca_NoBound ?ca_NoEnds ?ca_NoDrawing ?cx_NoBound ?xc_NoBound ?cx_NoEnds ?xc_NoEnds ?cx_NoDrawing ?xc_NoDrawing
  (case h0 |h1 |h2 |h3 |h4 |h5 |h6 |h7 |h8 |h9 |h10 |h11 |h12 |h13 |h14 |h15 |h16 |h17 |h18 |h19 |h20 |h21 |h22 |h23 |h24 |h25 |h26 |h27 |h28 |h29 |h30 |h31 |h32 |h33 |h34 |h35 |h36 |h37 |h38 |h39 |h40 |h41 |h42 |h43 |h44 |h45 |h46 |h47 |h48 |h49 |h50 |h51 |h52 |h53 |h54 |h55 |h56 |h57 |h58 |h59 |h60 |h61 |h62 |h63 |h64 |h65 |h66 |h67 |h68 |h69 |h70 |h71 |h72 => refine' Mine.M0 ?a ?l ?c ?k; (case a => k_is); (case l => k_is); (case c => k_is); (case k => k_is))
  (case zz => intro n hn; simp only [List.mem_cons, List.not_mem_nil, or_false] at hn; rcases hn with rfl |rfl |rfl |rfl |rfl |rfl |rfl |rfl |rfl |rfl |rfl |rfl |rfl |rfl |rfl |rfl <;> k_is)
  (case mi_LEFT |mi_RIGHT |da_NARROW |da_WIDE => k_is)
  (case dt_NARROW |dt_WIDE => first |k_is |kit_is |kts_exm |kernel_rfl)
  (case ca_NoBound |ca_NoEnds |ca_NoDrawing |cx_NoBound |cx_NoEnds |cx_NoDrawing => first |k_is |kit_is |kts_exm |kernel_rfl)
  (case xc_NoBound |xc_NoEnds |xc_NoDrawing => constructor <;> first |k_is |kit_is |kts_exm |kernel_rfl)
