import PyProof.Rows.All
import Wide.All
import OpenK.AllK
import Wide.FinOn
import PySem.Challenge.RW_floorcurves_k84_desk_refused
import Lean
import PyProof.EqAt
import PyProof.EqKinds
import PyProof.TupleCall
set_option compiler.extract_closed false
local macro_rules(kind:=Lean.Parser.Command.declaration)|s=>if s.getPos?.isNone then Lean.Macro.throwUnsupported else pure (s.rewriteBottomUp (·.setInfo .none))
local macro_rules | `(command|def $n:declId $s:optDeclSig $v:declVal)=>Lean.MonadRef.withRef .missing `(command|noncomputable def $n:declId $s:optDeclSig $v:declVal)
local macro_rules | `(command|abbrev $n:declId $s:optDeclSig $v:declVal)=>Lean.MonadRef.withRef .missing `(command|noncomputable abbrev $n:declId $s:optDeclSig $v:declVal)
local macro_rules | `(tactic| and_intros) => `(tactic| exact ⟨rfl,rfl,rfl,by decide +kernel,rfl,by decide +kernel,by decide +kernel⟩)
local macro_rules | `(tactic| lia) => `(tactic| first | lia -verbose | omega)
local macro_rules | `(tactic| ac_nf) => `(tactic| decide +kernel)
local macro_rules | `(tactic| trivial) => `(tactic| first|exact Or.inl rfl|exact Or.inr rfl|exact Or.inr (Or.inl rfl)|exact Or.inr (Or.inr rfl))
abbrev KN:=@PySem.Value
abbrev KO:=@PySem.Shared
abbrev KP:=@PySem.Addr
abbrev KQ:=@PySem.Program
abbrev KR:=@PySem.FuncData
abbrev KS:=@PySem.World
abbrev KU:=@PySem.Around
abbrev KW:=@List
abbrev KY:=@PySem.Expr
abbrev KZ:=@PySem.Heap
abbrev K0:=@Option
abbrev K1:=@PySem.Stmt
abbrev A0:=@PySem.wpAny_bind
abbrev A1:=@List.getElem?_eq_getElem
abbrev A2:=@PySem.wpAny_pure
abbrev A3:=@List.length_map
abbrev A4:=@PySem.Heap.get?_push_of_some
abbrev A5:=@PySem.Str.length_append
abbrev A6:=@if_neg
abbrev A7:=@List.getD_eq_getElem?_getD
abbrev A8:=@Nat.le_refl
abbrev A9:=@if_pos
abbrev AA:=@List.size_toArray
abbrev AB:=@Bool.and_eq_true
abbrev AC:=@PySem.Heap.get?_push_size
abbrev AD:=@PySem.Heap.lt_size
abbrev AE:=@Nat.ne_of_lt
abbrev AF:=@List.getElem?_map
abbrev AG:=@List.all_eq_true
abbrev AH:=@List.mem_cons
abbrev AI:=@Bool.false_eq_true
abbrev AJ:=@List.getElem?_eq_some_iff
abbrev AK:=@Int.eq_ofNat_of_zero_le
abbrev AL:=@Option.some.inj
abbrev AM:=@List.map_cons
abbrev AN:=@List.length_cons
abbrev AO:=@List.map_append
abbrev AQ:=@List.mem_append_right
abbrev AR:=@Nat.zero_le
abbrev AS:=@Nat.lt_of_lt_of_le
abbrev AT:=@Bool.false_ne_true
abbrev AU:=@List.mem_cons_of_mem
abbrev AV:=@Array.length_toList
abbrev AW:=@Array.getElem?_eq_getElem
abbrev AX:=@List.length_append
abbrev AY:=@Option.map_eq_some_iff
abbrev AZ:=@List.mem_flatMap
abbrev Aa:=@List.mem_of_getElem?
abbrev Ab:=@Nat.lt_succ_of_lt
abbrev Ac:=@PySem.PassesOwn.never
abbrev Ad:=@List.mem_map
abbrev Ae:=@PySem.W.mg_none_of
abbrev Af:=@List.take_add_one
abbrev Ag:=@PySem.wpAny_call_entry
abbrev Ah:=@congrArg
abbrev Ai:=@List.mem_cons_self
abbrev Aj:=@decide_eq_true_eq
abbrev Ak:=@List.mem_range
abbrev Al:=@decide_eq_false
abbrev Am:=@Nat.le_trans
abbrev An:=@List.mem_singleton
abbrev Ao:=@List.length_take
abbrev Ap:=@PySem.wpAny_holding
abbrev Aq:=@PySem.wpAny_newObj_type
abbrev Ar:=@Nat.le_of_lt
abbrev As:=@PySem.sizeLine_eq
abbrev At:=@if_false
abbrev Au:=@of_decide_eq_true
abbrev Av:=@List.not_mem_nil
abbrev Aw:=@PySem.Heap.size_push
abbrev Ax:=@PySem.Heap.size_update
abbrev Ay:=@Option.bind_eq_some_iff
abbrev Az:=@List.take_length
abbrev B0:=@Int.toNat_natCast
abbrev B1:=@PySem.Heap.get?_push_ne
abbrev B2:=@PySem.wpAny_callSpecial?_slot
abbrev B3:=@decide_eq_true
abbrev B4:=@PySem.F.plainAttrs_str
abbrev B5:=@List.sum_cons
abbrev B6:=@PySem.Heap.SameBut.update
abbrev B7:=@Array.getElem?_eq_none
abbrev B8:=@Nat.lt_succ_self
abbrev B9:=@Array.getElem?_toList
abbrev BA:=@List.map_map
abbrev BB:=@PySem.wpAny_field
abbrev BC:=@PySem.F.plainAttrs_list
abbrev BD:=@PySem.wpAny_mono
abbrev BE:=@PyProof.Rows.slot_tuple_getitem
abbrev BF:=@PySem.wpAny_truthy_bool
abbrev BG:=@PySem.wpAny_setState_of
abbrev BH:=@PySem.wpAny_Call_Name_kw
abbrev BI:=@PySem.Calls.spliced_cons
abbrev BJ:=@PySem.F.slot_dict_valueiterator_next
abbrev BK:=@List.replicate_succ
abbrev BL:=@PySem.W.kia_one
abbrev BM:=@beq_iff_eq
abbrev BN:=@PySem.F.slot_dict_keyiterator_next
abbrev BO:=@List.mem_append_left
abbrev BP:=@PyProof.Rows.callWith_type1
abbrev BQ:=@Array.getElem?_eq_some_iff
abbrev BR:=@beq_eq_false_iff_ne
abbrev BS:=@PySem.mem_of_lookup
abbrev BU:=@List.length_set
abbrev BV:=@List.find?_cons
abbrev BW:=@List.append_nil
abbrev BX:=@List.drop_eq_getElem_cons
abbrev BY:=@List.lookup_cons
abbrev BZ:=@Nat.ne_of_gt
abbrev Ba:=@PyProof.Rows.wpS_bind
abbrev Bb:=@PyProof.Rows.size_push'
abbrev Bc:=@PySem.Obj.data_mapFields
abbrev Bd:=@List.nodup_cons
abbrev Be:=@PySem.Str.cps_append
abbrev Bf:=@List.map_congr_left
abbrev Bg:=@PySem.Around.under_plainId
abbrev Bh:=@if_true
abbrev Bi:=@Nat.lt_irrefl
abbrev Bj:=@Nat.le_succ
abbrev Bk:=@PySem.codeAny_builtin
abbrev Bl:=@or_false
abbrev Bm:=@Array.perm_iff_toList_perm
abbrev Bn:=@Array.getElem?_eq_none_iff
abbrev Bo:=@PyProof.Rows.boot_str
abbrev Bp:=@List.pairwise_iff_getElem
abbrev Bq:=@PyProof.Rows.boot_isinstance
abbrev Br:=@List.mem_append
abbrev Bs:=@Bool.or_eq_true
abbrev Bt:=@PySem.wpAny_setField
abbrev Bu:=@List.mem_iff_getElem
abbrev Bv:=@List.getElem?_set_ne
abbrev Bw:=@PySem.Heap.get?_update_self
abbrev Bx:=@PySem.F.type_list_append
abbrev By:=@PySem.F.slot_list_append
abbrev Bz:=@List.length_eq_zero_iff
abbrev C1:=@PySem.wpAny_attempt
abbrev C2:=@PySem.F.type_str_split
abbrev C3:=@PySem.F.slot_str_split
abbrev C4:=@Nat.lt_or_ge
abbrev C5:=@List.pairwise_cons
abbrev C6:=@List.drop_of_length_le
abbrev C7:=@List.cons.injEq
abbrev C8:=@List.getElem?_eq_none
abbrev C9:=@PySem.wpAny_typeNameOfWhole_valiter
abbrev CA:=@PySem.wpAny_typeNameOfWhole_keyiter
abbrev CB:=@Ne.symm
abbrev CC:=@Bool.not_eq_true'
abbrev CD:=@PySem.codeAny_mono
abbrev CF:=@PySem.Calls.callWith_builtin
abbrev CG:=@PySem.Calls.Constant_str
abbrev CH:=@PySem.wpAny_loadPart'
abbrev CI:=@List.mem_of_mem_drop
abbrev CJ:=@List.getElem?_append_right
abbrev CK:=@Bool.and_false
abbrev CL:=@Array.mem_toList_iff
abbrev CM:=@PySem.Paired.length
abbrev CN:=@List.length_drop
abbrev CO:=@PySem.wpAny_dictEntries
abbrev CP:=@List.getElem?_append_left
abbrev CQ:=@ne_true_of_eq_false
abbrev CS:=@List.flatMap_append
abbrev CT:=@List.filterMap_cons
abbrev CU:=@PySem.wpAny_seqItems
abbrev CV:=@Bool.not_true
abbrev CW:=@PyProof.Rows.get?_update_seq
abbrev CY:=@of_decide_eq_false
abbrev CZ:=@PyProof.Rows.listUpdate_at
abbrev Ca:=@List.mem_filterMap
abbrev Cb:=@List.filter_append
abbrev Cc:=@PySem.F.called_set
abbrev Cd:=@PySem.Calls.call_function_entry
abbrev Ce:=@PySem.wpAny_typeNameOf_valiter
abbrev Cf:=@PySem.wpAny_typeNameOf_keyiter
abbrev Cg:=@PySem.wpAny_newList
abbrev Ch:=@bne_self_eq_false
abbrev Ci:=@Nat.lt_trans
abbrev Cj:=@List.take_of_length_le
abbrev Ck:=@List.flatten_cons
abbrev Cm:=@List.append_assoc
abbrev Cn:=@PySem.wpAny_dictEpoch
abbrev Co:=@PySem.wpAny_setField_rec
abbrev Cp:=@PySem.call_meets
abbrev Cq:=@PySem.StrLaws.join_split
abbrev Cr:=@PySem.wpAny_getItem_str_slice
abbrev Cs:=@List.length_singleton
abbrev Ct:=@List.length_replicate
abbrev Cu:=@PyProof.Rows.callWith_builtin1
abbrev Cv:=@List.ext_getElem
abbrev Cw:=@PySem.wpAny_pyIter_list
abbrev Cy:=@PySem.wpAny_fieldsOf
abbrev Cz:=@PySem.Heap.get?_update_other
abbrev D0:=@PyProof.Rows.wpS_pure
abbrev D1:=@Bool.eq_iff_iff
abbrev D2:=@PySem.W.hideAll_get
abbrev D3:=@PySem.Obj.isFreed_of_fields
abbrev D4:=@Array.toList_append
abbrev D5:=@PySem.wpAny_isInstance
abbrev D6:=@PySem.wpAny_askSetting
abbrev D7:=@PySem.plainId_quiet
abbrev D8:=@PySem.W.of_hideAll
abbrev D9:=@PySem.W.callWith_K
abbrev D':=@PySem.Calls.evalArgs_plain
abbrev DA:=@PySem.wpAny_passesOwn
abbrev DB:=@PySem.wpAny_execs_nil
abbrev DC:=@PySem.Heap.get?_update_ne
abbrev DD:=@PySem.wpAny_typeOf
abbrev DE:=@PyProof.Rows.entry_list_sort
abbrev DF:=@PyProof.Rows.slot_list_sort
abbrev DG:=@PyProof.Rows.args_list_sort
set_option Elab.async false
set_option linter.all false
set_option maxRecDepth 100000
set_option maxHeartbeats 4000000
namespace L2
open PySem PySem.Spec PyProof.Rows
variable{A:KU}{C a b dx f it:KP}{E Q:KN->KO->Prop}{Gn:KW (KP×Obj)}{Gs x:Str}{K:W.Frag}{M:Model}{N ps:KW Str}{P:KQ}{base h:KZ}{body:KW K1}{c e tg:KY}{ch fp:KW KP}{es:KW KY}{fd:KR}{i j k n:Nat}{kw:KW (Str×KN)}{lo:Int}{mA mg:Str->K0 KN}{o:Obj}{op:CmpOp}{outer:KW Env}{pl:Sem Bool}{s:KO}{scope:Scope}{u:KN}{us:KW KN}{w:KS}
abbrev Key:=Sum Int Str
def fU:Key->KN->Bool
 |.inl k,v=>Value.isInt k v
 |.inr x,v=>Value.isStrOf x v
def ue(w:KS):Key->Int
 |.inl k=>hashInt k
 |.inr x=>hashStr w x
theorem dO:∀{k:Key}{v:KN},fU k v=true->(∃i t,k=Sum.inl i/\v=Value.int i t)\/(∃x t,k=Sum.inr x/\v=Value.str x t)
 |.inl i,v,h=>by
  obtain⟨t,e⟩:=Value.isInt_shape (k:=i) (v:=v) h;exact .inl ⟨i,t,rfl,e⟩
 |.inr x,v,h=>by
  obtain⟨t,e⟩:=Value.isStrOf_shape (x:=x) (v:=v) h;exact .inr ⟨x,t,rfl,e⟩
theorem uf(i:Int)(t:Tok):fU (.inl i) (.int i t)=true:=by simp[fU,Value.isInt]
theorem ug(x:Str)(t:Tok):fU (.inr x) (.str x t)=true:=by simp[fU,Value.isStrOf]
theorem uh(a b:Int):decide ((Sum.inl a:Key)=Sum.inl b)=(a==b):=by
 by_cases e:a=b
 .subst e;simp
 .have h:¬(Sum.inl a:Key)=Sum.inl b:=λq=>e (Sum.inl.inj q);rw[Al h];exact(BR.mpr e).symm
theorem uk(a b:Str):decide ((Sum.inr a:Key)=Sum.inr b)=decide (a=b):=by
 by_cases e:a=b
 .subst e;simp
 .have h:¬(Sum.inr a:Key)=Sum.inr b:=λq=>e (Sum.inr.inj q);rw[Al h,Al e]
def um(a:Int)(b:Str):decide ((Sum.inl a:Key)=Sum.inr b)=false:=Al (λq=>nomatch q)
def uo(a:Str)(b:Int):decide ((Sum.inr a:Key)=Sum.inl b)=false:=Al (λq=>nomatch q)
def cb(prog:KQ)(w:KS):PySem.KeyKind prog w Key where
 is:=fU
 hash:=ue w
 inj:=λv a b ha hb=>by
  rcases dO ha with⟨i,t,rfl,rfl⟩|⟨x,t,rfl,rfl⟩
  .rcases dO hb with⟨j,u,rfl,e⟩|⟨y,u,rfl,e⟩
   .injection e with e1 _;rw[e1]
   .exact nomatch e
  .rcases dO hb with⟨j,u,rfl,e⟩|⟨y,u,rfl,e⟩
   .exact nomatch e
   .injection e with e1 _;rw[e1]
 byValue:=λk v h=>by
  rcases dO h with⟨i,t,rfl,rfl⟩|⟨x,t,rfl,rfl⟩<;>rfl
 pyHash:=λhv h=>by
  rcases dO hv with⟨i,t,rfl,rfl⟩|⟨x,t,rfl,rfl⟩
  .exact wpAny_pyHash_int h
  .exact wpAny_pyHash_str h
 eqBool:=λhu hv h=>by
  rcases dO hu with⟨i,t,rfl,rfl⟩|⟨x,t,rfl,rfl⟩
  .rcases dO hv with⟨j,u,rfl,rfl⟩|⟨y,u,rfl,rfl⟩
   .rw[uh] at h;exact wpAny_eqBool_int h
   .rw[um] at h;exact SeqAt.EqAt.int_str i t y u _ _ _ _ h
  .rcases dO hv with⟨j,u,rfl,rfl⟩|⟨y,u,rfl,rfl⟩
   .rw[uo] at h;exact SeqAt.EqAt.str_int x t j u _ _ _ _ h
   .rw[uk] at h;exact wpAny_eqBool_str h
 «strs»:=λk x t v h=>by
  rcases dO h with⟨i,u,rfl,e⟩|⟨y,u,rfl,e⟩
  .exact nomatch e
  .injection e with e1 _;subst e1;cases v<;>rfl
def uq(prog:KQ)(w:KS)(i:Int)(t:Tok):(cb prog w).is (.inl i) (.int i t)=true:=uf i t
def ur(prog:KQ)(w:KS)(x:Str)(t:Tok):(cb prog w).is (.inr x) (.str x t)=true:=ug x t
inductive V where
 |non|bl (b:Bool)|int (i:Int)|str (x:Str)|byt (b:Array UInt8)|flt (b:UInt64)|ref (a:Addr)|ty (n:String)
 deriving DecidableEq
variable{v y:V}{vs xs:KW V}
def ar:V->KN->Prop
 |.non,u=>u=Value.none
 |.bl b,u=>u=Value.bool b
 |.int i,u=>∃t,u=Value.int i t
 |.str x,u=>∃t,u=Value.str x t
 |.byt b,u=>∃t,u=Value.bytes b t
 |.flt b,u=>∃t,u=Value.float b t
 |.ref a,u=>u=Value.ref a
 |.ty n,u=>u=Value.type n
abbrev ao:KW V->KW KN->Prop:=Paired ar
theorem ao.length{xs:KW V}{us:KW KN}(r:ao xs us):xs.length=us.length:=CM r
theorem ao.get:∀{xs:KW V}{us:KW KN}{i:Nat}{x:V},ao xs us->xs[i]? =some x->∃u,us[i]? =some u/\ar x u:=by
 intro xs us i x h e;induction h generalizing i with
 |nil=>simp at e
 |cons r t ih=>
  cases i with
  |zero=>simp at e;subst e;exact⟨_,rfl,r⟩
  |succ i=>exact ih (i:=i) (by simpa using e)
theorem ao.set{x:V}{u:KN}(r:ar x u):∀{xs:KW V}{us:KW KN} (i:Nat),ao xs us->ao (xs.set i x) (us.set i u)
 |_,_,_,.nil=>.nil
 |_,_,0,.cons _ t=>.cons r t
 |_,_,i+1,.cons q t=>.cons q (ao.set r i t)
theorem ao.append:∀{xs ys:KW V}{us ws:KW KN},ao xs us->ao ys ws->ao (xs++ys) (us++ws):=by
 intro xs ys us ws h s;induction h with
 |nil=>exact s
 |cons r t ih=>exact .cons r ih
theorem ao.take:∀{xs:KW V}{us:KW KN} (n:Nat),ao xs us->ao (xs.take n) (us.take n)
 |_,_,0,_=>.nil
 |_,_,_+1,.nil=>.nil
 |_,_,n+1,.cons r t=>.cons r (ao.take n t)
theorem ao.drop:∀{xs:KW V}{us:KW KN} (n:Nat),ao xs us->ao (xs.drop n) (us.drop n)
 |_,_,0,r=>r
 |_,_,_+1,.nil=>.nil
 |_,_,n+1,.cons _ t=>ao.drop n t
def bW:K0 V->K0 KN->Prop
 |some v,some u=>ar v u
 |none,none=>True
 |_,_=>False
def KV{κ:Type}:KW (κ×V)->KW (κ×KN)->Prop:=Paired fun(p:κ×V) (q:κ×KN)=>p.1=q.1/\ar p.2 q.2
def kV:Key->V
 |.inl i=>.int i
 |.inr x=>.str x
inductive HO where
  |lst (xs:List V)
  |tup (xs:List V)
  |dK (Gp:List (Key×V))|dT (Gp:List (List Key×V))
  |set (S:Int->Bool) (n:Nat)
  |ins (C dx:Addr) (fs:List (Str×V))
  |own (x:Addr)
  |xd (fs:List (Str×V))
  |met (f x:Addr)
  |rng (lo hi:Int)
  |frz (o:Obj) (u:HO)
  |tbl (ps:Array Value)
  |ext (φ:Heap->Prop)
abbrev Hp:=KP->K0 HO
variable{H:Hp}
def upd(H:Hp)(a:KP)(o:HO):Hp:=λb=>if b=a then some o else H b
theorem am{o:HO}:upd H a o a=some o:=by unfold upd;rw[A9 rfl]
theorem au{o:HO}(h:b≠a):upd H a o b=H b:=by unfold upd;rw[A6 h]
theorem ut{o u:HO}:upd (upd H a o) a u=upd H a u:=by
 funext b;unfold upd;split<;>rfl
theorem kY{o u:HO}(h:H a=some o)(h':H b=some u)(d:o≠u):a≠b:=by
 intro e;subst e;rw[h] at h';exact d (AL h')
theorem bF{o:HO}(h:H a=some o)(h':H b=none):a≠b:=by
 intro e;subst e;rw[h] at h';cases h'
section
variable(P:KQ)(w:KS)
def aC(H:Hp)(h:KZ)(a:KP):HO->Prop
 |.lst xs=>xs.length<=sizeLine/\∃(Gq:KW KN) (n:Nat),ao xs Gq/\h.get? a=some {cls:= .type "list",data:= .seq Gq.toArray n}
 |.tup xs=>xs.length<=sizeLine/\∃Gq:KW KN,ao xs Gq/\IsTup h a Gq.toArray
 |.dK Gp=>Gp.length<=sizeLine/\(a==sysModules)=false/\∃vs,KV Gp vs/\h.DictOf (cb P w) a vs
 |.dT Gp=>Gp.length<=sizeLine/\(a==sysModules)=false/\∃xs:KW (KW Key×KP×KN),
   Paired (fun(p:KW Key×V) (q:KW Key×KP×KN)=>p.1=q.1/\H q.2.1=some (.tup (p.1.map kV))/\ar p.2 q.2.2) Gp xs/\
   ∃o es ep,h.get? a=some o/\o.ExactDict/\o.data=.dict es ep/\es.toList=xs.map (entryOfKey (tupleKind (cb P w)))/\(xs.map (·.1)).Nodup
 |.set S n=>h.SetOf (intKind P w) a S n
 |.ins C dx fs=>H dx=some (.own a)/\fs.length<=1000/\dx≠a/\h.get? a=some (W.instObj C dx)/\
   ∃mA,h.Ns1 dx mA/\(∀f,bW (fs.lookup f) (mA f))/\PySem.Within mA (fs.map (·.1))
 |.own _=>∃o,h.get? a=some o
 |.xd fs=>∃mA,h.Ns1 a mA/\∀f,bW (fs.lookup f) (mA f)
 |.rng lo hi=>∃t u v,h.get? a=some {cls:= .type "range",data:= .fields #[.int lo t,.int hi u,.int 1 v]}
 |.frz o u=>h.get? a=some o/\aC H h a u
 |.tbl ps=>h.get? a=some {cls:= .none,data:= .fields ps}
 |.met f x=>h.get? a=some (W.methodObj (.ref f) (.ref x))
 |.ext φ=>φ h/\(∃o,h.get? a=some o)/\∀h1 h2:KZ,φ h1->(∀o,h1.get? a=some o->h2.get? a=some o)->φ h2
def HOk(H:Hp)(h:KZ):Prop:=∀a o,H a=some o->aC P w H h a o
end
section
variable{P:KQ}{w:KS}{H H':Hp}{h h':KZ}{a:KP}{o:HO}
theorem aC.lt(x:aC P w H h a o):a<h.objs.size:=by
 cases o with
 |lst xs=>obtain⟨_,_,_,_,e⟩:=x;exact AD e
 |tup xs=>obtain⟨_,_,_,p⟩:=x;exact p.lt
 |dK Gp=>obtain⟨_,_,_,_,o,_,_,e,_⟩:=x;exact AD e
 |dT Gp=>obtain⟨_,_,_,_,o,_,_,e,_⟩:=x;exact AD e
 |set S n=>obtain⟨o,_,_,_,e,_⟩:=x;exact AD e
 |ins C dx fs=>obtain⟨_,_,_,e,_⟩:=x;exact AD e
 |own y=>obtain⟨_,e⟩:=x;exact AD e
 |xd fs=>obtain⟨_,⟨_,_,_,e,_⟩,_⟩:=x;exact AD e
 |rng lo hi=>obtain⟨_,_,_,e⟩:=x;exact AD e
 |frz ob u=>obtain⟨e,_⟩:=x;exact AD e
 |tbl ps=>exact AD (show h.get? a=some _ from x)
 |met f y=>exact AD (show h.get? a=some _ from x)
 |ext φ=>obtain⟨_,⟨_,e⟩,_⟩:=x;exact AD e
theorem Paired.mapP{α β:Type}{F G:α->β->Prop}:∀{l₁:KW α}{l₂:KW β},Paired F l₁ l₂->(∀a b,F a b->G a b)->Paired G l₁ l₂:=by
 intro l₁ l₂ h f;induction h with
 |nil=>exact .nil
 |cons r t ih=>exact .cons (f _ _ r) ih
theorem aC.stay(x:aC P w H h a o)(k:∀b u,(b=a\/H b=some (.own a))->h.get? b=some u->h'.get? b=some u)
  (ho:∀b,H b=some (.own a)->H' b=some (.own a)) (ht:∀b xs,H b=some (.tup xs)->H' b=some (.tup xs)):aC P w H' h' a o:=by
 induction o with
 |lst xs=>obtain⟨z,Gq,n,r,e⟩:=x;exact⟨z,Gq,n,r,k _ _ (.inl rfl) e⟩
 |tup xs=>obtain⟨z,Gq,r,ob,e,c⟩:=x;exact⟨z,Gq,r,ob,k _ _ (.inl rfl) e,c⟩
 |dK Gp=>obtain⟨z,y,vs,r,ob,es,ep,e,c⟩:=x;exact⟨z,y,vs,r,ob,es,ep,k _ _ (.inl rfl) e,c⟩
 |dT Gp=>
  obtain⟨z,y,xs,r,ob,es,ep,e,c⟩:=x;exact⟨z,y,xs,Paired.mapP r λp q z=>⟨z.1,ht _ _ z.2.1,z.2.2⟩,ob,es,ep,k _ _ (.inl rfl) e,c⟩
 |set S n=>obtain⟨ob,es,ep,t,e,c⟩:=x;exact⟨ob,es,ep,t,k _ _ (.inl rfl) e,c⟩
 |ins C dx fs=>
  obtain⟨d,z,ne,e,mA,⟨od,es,ep,e2,c⟩,r⟩:=x;exact⟨ho _ d,z,ne,k _ _ (.inl rfl) e,mA,⟨od,es,ep,k _ _ (.inr d) e2,c⟩,r⟩
 |own y=>obtain⟨ob,e⟩:=x;exact⟨ob,k _ _ (.inl rfl) e⟩
 |xd fs=>obtain⟨mA,⟨od,es,ep,e,c⟩,r⟩:=x;exact⟨mA,⟨od,es,ep,k _ _ (.inl rfl) e,c⟩,r⟩
 |rng lo hi=>obtain⟨t,u,v,e⟩:=x;exact⟨t,u,v,k _ _ (.inl rfl) e⟩
 |frz ob u ih=>obtain⟨e,q⟩:=x;exact⟨k _ _ (.inl rfl) e,ih q⟩
 |tbl ps=>
  have e:h.get? a=some {cls:= .none,data:= .fields ps}:=x;show h'.get? a=some {cls:= .none,data:= .fields ps};exact k a _ (.inl rfl) e
 |met f y=>
  have e:h.get? a=some (W.methodObj (.ref f) (.ref y)):=x;show h'.get? a=some (W.methodObj (.ref f) (.ref y));exact k a _ (.inl rfl) e
 |ext φ=>obtain⟨p,⟨o,e⟩,st⟩:=x;exact⟨st _ _ p λo q=>k _ _ (.inl rfl) q,⟨o,k _ _ (.inl rfl) e⟩,st⟩
theorem HOk.lt(x:HOk P w H h)(e:H a=some o):a<h.objs.size:=(x a o e).lt
theorem HOk.fresh(x:HOk P w H h)(e:h.objs.size<=a):H a=none:=by
 cases q:H a with
 |none=>rfl
 |some u=>exact absurd (AS (x.lt q) e) (Bi _)
def HOk.kept(x:HOk P w H h)(k:∀b u,h.get? b=some u->h'.get? b=some u):HOk P w H h':=λa o e=>
 (x a o e).stay (λb u _ q=>k b u q) (λ_ q=>q) λ_ _ q=>q
theorem HOk.laid(x:HOk P w H h)(k:∀b u,h.get? b=some u->h'.get? b=some u)(hp:h.objs.size<=a)(new:aC P w (upd H a o) h' a o):HOk P w (upd H a o) h':=λb u e=>by
 have hn:=x.fresh hp;by_cases hb:b=a
 .subst hb;rw[am] at e;cases e;exact new
 .rw[au hb] at e;exact(x b u e).stay (λc v _ q=>k c v q) (λc q=>by rw[au (bF q hn)];exact q) λc xs q=>by rw[au (bF q hn)];exact q
end
def Rd(H:Hp)(a:KP)(u:HO):Prop:=H a=some u\/∃o,H a=some (.frz o u)
theorem Rd.ok{u:HO}(r:Rd H a u)(x:HOk P w H h):aC P w H h a u:=by
 rcases r with r|⟨o,r⟩
 .exact x a u r
 .obtain⟨_,q⟩:=x a _ r;exact q
def Mut:K0 HO->Prop
 |some (.lst _)=>True
 |some (.dK _)=>True
 |some (.dT _)=>True
 |some (.set _ _)=>True
 |some (.ins _ _ _)=>True
 |some (.ext _)=>True
 |_=>False
section
variable{P:KQ}{w:KS}{H:Hp}{h h':KZ}{x e:KP}{o':HO}
theorem HOk.write(ok:HOk P w H h)(mu:Mut (H x))(he:e=x\/H e=some (.own x))(k:∀b u,b≠e->h.get? b=some u->h'.get? b=some u)(heo:∃u,h'.get? e=some u)
  (new:aC P w (upd H x o') h' x o'):HOk P w (upd H x o') h':=λb u q=>by
 have nown:∀c y,H c=some (.own y)->c≠x:=λc y r z=>by subst z;rw[r] at mu;exact mu
 have ntup:∀c xs,H c=some (.tup xs)->c≠x:=λc xs r z=>by subst z;rw[r] at mu;exact mu
 by_cases hb:b=x
 .subst hb;rw[am] at q;cases q;exact new
 .rw[au hb] at q;by_cases J':b=e
  .have q':H b=some (.own x):=by
    rcases he with z|z
    .exact absurd (J'.trans z) hb
    .rw[J'];exact z
   rw[q] at q';cases q';obtain⟨v,hv⟩:=heo;exact⟨v,by rw[J'];exact hv⟩
  .refine(ok b u q).stay (λc v hc r=>k c v ?_ r) (λc r=>by rw[au (nown c b r)];exact r) λc xs r=>by rw[au (ntup c xs r)];exact r
   rcases hc with rfl|hc
   .exact J'
   .rintro rfl;rcases he with z|z
    .exact nown c b hc z
    .rw[hc] at z;cases z;exact hb rfl
end
structure Un(fs ex:KW KP)(H H':Hp)(h h':KZ):Prop where
 keep:∀b o,h.get? b=some o->H b=none->b∉fs->b∉ex->h'.get? b=some o
 slot:∀b o,h.get? b=some o->H b=none->b∈fs->b∉ex->∃sl,h'.get? b=some {o with slots:=sl}
 free:∀b o,h.get? b=some o->H b=none->b∉ex->H' b=none
 there:∀b o,h.get? b=some o->b∉ex->∃o',h'.get? b=some o'
 tups:∀b xs,H b=some (.tup xs)->H' b=some (.tup xs)
 frzs:∀b o u,H b=some (.frz o u)->H' b=some (.frz o u)
 tbls:∀b ps,H b=some (.tbl ps)->∃more,H' b=some (.tbl (ps++more))
section
variable{fs fs' ex ex':KW KP}{H H1 H2:Hp}{h h1 h2 h':KZ}{a x e:KP}{o:HO}
theorem Un.any(u:Un fs ex H H1 h h1){ob:Obj}(q:h.get? b=some ob)(n:H b=none)(hx:b∉ex):∃sl,h1.get? b=some {ob with slots:=sl}:=by
 by_cases hb:b∈fs
 .exact u.slot b ob q n hb hx
 .exact⟨ob.slots,u.keep b ob q n hb hx⟩
theorem Un.kept(k:∀b u,h.get? b=some u->h'.get? b=some u):Un fs ex H H h h':=
 ⟨λb ob q _ _ _=>k b ob q,λb ob q _ _ _=>⟨ob.slots,k b ob q⟩,λ_ _ _ n _=>n,λb ob q _=>⟨ob,k b ob q⟩,λ_ _ q=>q,λ_ _ _ q=>q,λ_ ps q=>⟨#[],by rw[q];simp⟩⟩
def Un.refl:Un fs ex H H h h:=Un.kept λ_ _ q=>q
theorem Un.laid(k:∀b u,h.get? b=some u->h'.get? b=some u)(hp:h.objs.size<=a)(hn:H a=none):Un fs ex H (upd H a o) h h' where
 keep:=λb u q _ _ _=>k b u q
 slot:=λb u q _ _ _=>⟨u.slots,k b u q⟩
 free:=λb u q n _=>by rw[au (AE (AS (AD q) hp))];exact n
 there:=λb u q _=>⟨u,k b u q⟩
 tups:=λb xs q=>by rw[au (bF q hn)];exact q
 frzs:=λb u xs q=>by rw[au (bF q hn)];exact q
 tbls:=λb ps q=>⟨#[],by rw[au (bF q hn),q];simp⟩
theorem Un.write(mu:Mut (H x))(he:e=x\/H e=some (.own x))(k:∀b u,b≠e->h.get? b=some u->h'.get? b=some u)(heo:∃u,h'.get? e=some u):Un fs ex H (upd H x o) h h':=by
 have hx:∀b,H b=none->b≠x:=λb n z=>by subst z;rw[n] at mu;exact mu
 have hb:∀b,H b=none->b≠e:=λb n z=>by
  subst z;rcases he with r|r
  .exact hx b n r
  .rw[n] at r;cases r
 have hm:∀b u,H b=some u->¬Mut (some u)->b≠x:=λb u q nm z=>by subst z;rw[q] at mu;exact nm mu
 refine⟨λb u q n _ _=>k b u (hb b n) q,λb u q n _ _=>⟨u.slots,k b u (hb b n) q⟩,λb u q n _=>by rw[au (hx b n)];exact n,λb u q _=>?_,
  λb xs q=>by rw[au (hm b _ q λz=>z)];exact q,λb u xs q=>by rw[au (hm b _ q λz=>z)];exact q,λb ps q=>⟨#[],by rw[au (hm b _ q λz=>z),q];simp⟩⟩
 by_cases J':b=e
 .subst J';exact heo
 .exact⟨u,k b u J' q⟩
end
def trk(h:KZ)(H:Hp):KW KP:=(List.range h.objs.size).filter λa=>(H a).isSome
def dP(h:KZ)(H:Hp):KZ:=W.hideAll h (trk h H)
def uu(h:KZ)(H:Hp):(dP h H).objs.size=h.objs.size:=W.hideAll_size _ _
theorem uv(e:h.get? b=some o)(n:H b=none):(dP h H).get? b=some o:=
 D2 _ e λhm=>by
  have q:(H b).isSome=true:=(List.mem_filter.mp hm).2;rw[n] at q;simp at q
theorem ux(e:(dP h H).get? b=some o):h.get? b=some o/\H b=none:=by
 have e':h.get? b=some o:=D8 (trk h H) e;refine⟨e',?_⟩;cases q:H b with
 |none=>rfl
 |some x=>
  have hm:b∈trk h H:=List.mem_filter.mpr ⟨Ak.mpr (AD e'),by simp[q]⟩;have z:(dP h H).get? b=none:=W.hideAll_none (trk h H) hm;rw[z] at e;cases e
def uy(g h:KZ)(L:KP):KW (KP×Obj):=(List.range h.objs.size).filterMap λa=>if a=L\/(g.get? a).isSome=true then none else(h.get? a).map λo=>(a,o)
def bj(g h:KZ)(L d:KP):KW (KP×Obj):=(uy g h L).filter λp=>decide (p.1≠d)
structure Mod(K:W.Frag)(mg:Str->K0 KN)(base:KZ):Prop where
 kin:K.In base
 glob:base.Ns mainGlobals mg
 blt:∃mb,base.Ns builtinsNs mb/\∀x:Str,x≠"__name__"->mb x=bootBuiltins x
 nolimit:base.NoLimit
structure Cx where
 prog:Program
 w:World
 K:W.Frag
 mg:Str->Option Value
 base:Heap
 A:Around
 N:List Str
 s₀:Shared
 H₀:Hp
 env:Env
 outer:List Env
 stack:List Env
 ex:List Addr
 fn:Str->Bool
 calm:Bool
 pn:List (Addr×Obj)
 xe:Value->Shared->Prop
variable{X:Cx}
def frs(l:KW Env):KW KP:=l.filterMap (·.frame)
abbrev Cx.fs(X:Cx):KW KP:=frs X.outer
def Vis(sc:Scope)(x:Str):Prop:=sc.names.lookup x=some .local\/sc.names.lookup x=some .cell\/sc.names.lookup x=some .free
def Loc(sc:Scope)(x:Str):Prop:=sc.names.lookup x=some .local\/sc.names.lookup x=some .cell
def nB(env:Env)(h:KZ)(m:Str->K0 KN)(x:Str)(u:KN):Prop:=
 (env.kindOf x=some .local/\m x=some u)\/((env.kindOf x=some .cell\/env.kindOf x=some .free)/\∃c,env.cells.lookup x=some c/\h.IsCell c (some u))
structure Cx.Ok(X:Cx):Prop where
 mod:Mod X.K X.mg X.base
 kind:X.env.scope.kind=.function
 glob:X.env.globals=mainGlobals
 blt:X.env.builtins=builtinsNs
 above:X.s₀.heap.objs.size<=X.env.locals
 inj:∀x y c,X.env.cells.lookup x=some c->X.env.cells.lookup y=some c->x=y
 has:∀x,(X.env.kindOf x=some .cell\/X.env.kindOf x=some .free)->∃c,X.env.cells.lookup x=some c
 cab:∀x c,X.fn x=true->X.env.cells.lookup x=some c->X.s₀.heap.objs.size<=c
 hd:X.calm=true->X.A.handled=none
 frames:X.A.frames=some X.stack
 stk:X.stack=X.outer\/(X.stack=X.env::X.outer/\X.env.frame=some X.env.locals)
 exf:∀b∈X.ex,b≠X.env.locals/\∀x c,X.env.cells.lookup x=some c->c≠b
 bs:∀b o,X.base.get? b=some o->X.s₀.heap.get? b=some o/\X.H₀ b=none
 bsz:X.base.objs.size<=X.s₀.heap.objs.size
 noex:∀b o,X.base.get? b=some o->b∉X.ex
 exfs:∀b∈X.ex,b∉X.fs
 funs:X.s₀.heap.FunFrames X.base X.outer
 frf:∀b∈X.fs,X.H₀ b=none
structure Inv(X:Cx)(Gn:KW (KP×Obj))(σ:KW (K0 V))(H:Hp)(s:KO):Prop where
 ok:X.Ok
 os:s.os=X.s₀.os
 bare:AllBare s.gens
 base:Un X.fs X.ex X.H₀ H X.s₀.heap s.heap
 loc:∃m,s.heap.Ns X.env.locals m/\∀(i:Nat) (x:Str) (v:V),X.N[i]? =some x->σ[i]? =some (some v)->Vis X.env.scope x->∃u,ar v u/\nB X.env s.heap m x u
 cell:∀x c,X.env.cells.lookup x=some c->∃v,s.heap.IsCell c v
 free:H X.env.locals=none
 freeC:∀x c,X.env.cells.lookup x=some c->H c=none
 pin:∀p∈X.pn++Gn,s.heap.get? p.1=some p.2/\H p.1=none/\p.1≠X.env.locals/\p.1∉X.fs/\∀v,p.2.data≠ .cell v
 hok:HOk X.prog X.w H s.heap
 len:σ.length=X.N.length
section
variable{X:Cx}{Gn:KW (KP×Obj)}{σ:KW (K0 V)}{H H':Hp}{s:KO}{h':KZ}
theorem Cx.Ok.nofr(ok:X.Ok)(e:X.base.get? b=some o):b∉X.fs:=λhb=>by
 have:=(ok.funs.mem hb).1;rw[e] at this;cases this
theorem Inv.bs(I:Inv X Gn σ H s):∀b o,X.base.get? b=some o->s.heap.get? b=some o/\H b=none:=λb o e=>
 ⟨I.base.keep b o (I.ok.bs b o e).1 (I.ok.bs b o e).2 (I.ok.nofr e) (I.ok.noex b o e),I.base.free b o (I.ok.bs b o e).1 (I.ok.bs b o e).2 (I.ok.noex b o e)⟩
def Inv.bk(I:Inv X Gn σ H s):∀b o,X.base.get? b=some o->s.heap.get? b=some o:=λb o e=>(I.bs b o e).1
theorem Inv.mod(I:Inv X Gn σ H s):Mod X.K X.mg X.base:=I.ok.mod
def Inv.kIn(I:Inv X Gn σ H s):X.K.In s.heap:=I.ok.mod.kin.keeps I.bk
theorem Inv.lt(I:Inv X Gn σ H s):X.env.locals<s.heap.objs.size:=by obtain⟨_,hn,_⟩:=I.loc;exact hn.lt
def Inv.sz(I:Inv X Gn σ H s):X.s₀.heap.objs.size<=s.heap.objs.size:=Am I.ok.above (Ar I.lt)
theorem Inv.nofs(I:Inv X Gn σ H s)(h:s.heap.objs.size<=a):a∉X.fs:=λhb=>by
 obtain⟨_,o,ho,_⟩:=I.ok.funs.mem hb;exact absurd (AS (AD ho) (Am I.sz h)) (Bi _)
theorem Inv.cne(I:Inv X Gn σ H s):∀x c,X.env.cells.lookup x=some c->c≠X.env.locals:=λx c e z=>by
 obtain⟨v,o,ho,hd⟩:=I.cell x c e;obtain⟨m,⟨o',es,ep,Hk,Ib,_⟩,_⟩:=I.loc;rw[z,Hk] at ho;cases ho;rw[Ib] at hd;cases hd
theorem Inv.funs(I:Inv X Gn σ H s):s.heap.FunFrames X.base X.outer:=by
 have all:∀(l:KW Env),(∀b∈frs l,b∈X.fs)->X.s₀.heap.FunFrames X.base l->s.heap.FunFrames X.base l:=by
  intro l;induction l with
  |nil=>intro _ _;trivial
  |cons env r ih=>
   intro hs hl;obtain⟨hk,⟨L,o,hf,hn,ho,hd⟩,hr⟩:=hl;have hL:L∈X.fs:=hs L (by unfold frs;rw[CT,hf];exact Ai);obtain⟨sl,e⟩:=I.base.slot L o ho (I.ok.frf L hL) hL λz=>I.ok.exfs L z hL;exact⟨hk,⟨L,_,hf,hn,e,hd⟩,ih (λb hb=>hs b (by unfold frs;rw[CT,hf];exact AU _ hb)) hr⟩
 exact all X.outer (λ_ hb=>hb) I.ok.funs
theorem Inv.stack(I:Inv X Gn σ H s):s.heap.FunFrames X.base X.stack:=by
 rcases I.ok.stk with e|⟨e,hf⟩
 .rw[e];exact I.funs
 .rw[e];obtain⟨m,hn,_⟩:=I.loc;refine .cons (by rw[I.ok.kind];decide) hf hn ?_ I.funs;exact Heap.get?_none_of_le (Am I.ok.bsz I.ok.above)
theorem Inv.stkSub(I:Inv X Gn σ H s):∀b∈frs X.stack,b∈X.env.locals::X.fs:=λb hb=>by
 rcases I.ok.stk with e|⟨e,hf⟩
 .rw[e] at hb;exact AU _ hb
 .rw[e] at hb;unfold frs at hb;rw[CT,hf] at hb;exact hb
theorem Inv.stkFree(I:Inv X Gn σ H s):∀b∈frs X.stack,H b=none:=λb hb=>by
 rcases AH.mp (I.stkSub b hb) with e|hb
 .rw[e];exact I.free
 .obtain⟨_,o,ho,_⟩:=I.ok.funs.mem hb;exact I.base.free b o ho (I.ok.frf b hb) λz=>I.ok.exfs b z hb
theorem Inv.step{g':Array GenState}{t':Nat}{d':Drawn}(I:Inv X Gn σ H s)
  (HH:∀b∈ch,(b∈X.ex\/X.s₀.heap.objs.size<=b)/\b≠X.env.locals/\(∀x c,X.env.cells.lookup x=some c->c≠b)/\∀p∈X.pn++Gn,p.1≠b)
  (keep:∀b o,b≠X.env.locals->b∉X.fs->b∉ch->s.heap.get? b=some o->H b=none->h'.get? b=some o)
  (slot:∀b o,b≠X.env.locals->b∈X.fs->b∉ch->s.heap.get? b=some o->H b=none->∃sl,h'.get? b=some {o with slots:=sl}) (free:∀b o,b∉ch->s.heap.get? b=some o->H b=none->H' b=none)
  (there:∀b o,b∉ch->s.heap.get? b=some o->∃o',h'.get? b=some o')
  (tups:∀b xs,H b=some (.tup xs)->H' b=some (.tup xs)) (frzs:∀b o u,H b=some (.frz o u)->H' b=some (.frz o u)) (tbls:∀b ps,H b=some (.tbl ps)->∃more,H' b=some (.tbl (ps++more)))
  (ns:∀m,s.heap.Ns X.env.locals m->h'.Ns X.env.locals m) (hok:HOk X.prog X.w H' h') (hg:AllBare g'):
  Inv X Gn σ H' {s with heap:=h',gens:=g',drawn:=d',toks:=t'}:=by
 have neL:∀b o,X.s₀.heap.get? b=some o->b≠X.env.locals:=λb o e=>AE (AS (AD e) I.ok.above);have neC:∀b o,X.s₀.heap.get? b=some o->b∉X.ex->b∉ch:=λb o e hx hb=>by
  rcases(HH b hb).1 with z|z
  .exact hx z
  .exact absurd (AS (AD e) z) (Bi _)
 have JK:∀x c,X.env.cells.lookup x=some c->∀v,s.heap.IsCell c v->h'.IsCell c v:=λx c e v Hv=>by
  obtain⟨o,ho,hd⟩:=Hv;have nch:c∉ch:=λz=>(HH c z).2.2.1 x c e rfl;by_cases hc:c∈X.fs
  .obtain⟨sl,q⟩:=slot c o (I.cne x c e) hc nch ho (I.freeC x c e);exact⟨_,q,hd⟩
  .exact⟨o,keep c o (I.cne x c e) hc nch ho (I.freeC x c e),hd⟩
 refine⟨I.ok,I.os,hg,⟨λb o e n hb hx=>?_,λb o e n hb hx=>?_,λb o e n hx=>?_,λb o e hx=>?_,λb xs e=>tups b xs (I.base.tups b xs e),λb o xs e=>frzs b o xs (I.base.frzs b o xs e),λb ps e=>?_⟩,?_,λx c e=>?_,?_,λx c e=>?_,λp hp=>?_,hok,I.len⟩
 .exact keep b o (neL b o e) hb (neC b o e hx) (I.base.keep b o e n hb hx) (I.base.free b o e n hx)
 .obtain⟨sl,e1⟩:=I.base.slot b o e n hb hx;obtain⟨sl',e2⟩:=slot b _ (neL b o e) hb (neC b o e hx) e1 (I.base.free b o e n hx);exact⟨sl',e2⟩
 .obtain⟨o',e1⟩:=I.base.there b o e hx;exact free b o' (neC b o e hx) e1 (I.base.free b o e n hx)
 .obtain⟨o',e1⟩:=I.base.there b o e hx;exact there b o' (neC b o e hx) e1
 .obtain⟨m1,e1⟩:=I.base.tbls b ps e;obtain⟨m2,e2⟩:=tbls b _ e1;exact⟨m1++m2,by rw[e2,Array.append_assoc]⟩
 .obtain⟨m,hn,hl⟩:=I.loc;refine⟨m,ns m hn,λi x v e1 e2 e3=>?_⟩;obtain⟨u,r,l⟩:=hl i x v e1 e2 e3;refine⟨u,r,?_⟩;rcases l with l|⟨k,c,e,z⟩
  .exact .inl l
  .exact .inr ⟨k,c,e,JK x c e _ z⟩
 .obtain⟨v,z⟩:=I.cell x c e;exact⟨v,JK x c e v z⟩
 .obtain⟨m,⟨o,_,_,ho,_⟩,_⟩:=I.loc;exact free _ o (λz=>(HH _ z).2.1 rfl) ho I.free
 .obtain⟨v,o,ho,hd⟩:=I.cell x c e;exact free c o (λz=>(HH c z).2.2.1 x c e rfl) ho (I.freeC x c e)
 .obtain⟨e,n,ne,nf,d⟩:=I.pin p hp;have nch:p.1∉ch:=λz=>(HH p.1 z).2.2.2 p hp rfl;exact⟨keep p.1 p.2 ne nf nch e n,free p.1 p.2 nch e n,ne,nf,d⟩
theorem Inv.un{t':Nat}(I:Inv X Gn σ H s)(u:Un X.fs [] H H' s.heap h')(hok:HOk X.prog X.w H' h'):Inv X Gn σ H' {s with heap:=h',toks:=t'}:=by
 obtain⟨m,⟨o,es,ep,ho,r⟩,_⟩:=id I.loc;obtain⟨sl,hL⟩:=u.any ho I.free (by simp);exact I.step (g':=s.gens) (d':=s.drawn) (ch:=[]) (λ_ z=>nomatch z) (λb o _ hb _ e n=>u.keep b o e n hb (by simp)) (λb o _ hb _ e n=>u.slot b o e n hb (by simp)) (λb o _ e n=>u.free b o e n (by simp)) (λb o _ e=>u.there b o e (by simp)) u.tups u.frzs u.tbls (λm' hm=>by
  obtain⟨o',GS,IK,Hk,r'⟩:=hm;rw[ho] at Hk;cases Hk;exact⟨_,GS,IK,hL,r'⟩) hok I.bare
theorem Inv.call{g':Array GenState}{t':Nat}{d':Drawn}(I:Inv X Gn σ H s)(u:Un (frs X.stack) ch H H' s.heap h')(hok:HOk X.prog X.w H' h')(hg:AllBare g')
  (HH:∀b∈ch,(b∈X.ex\/X.s₀.heap.objs.size<=b)/\b≠X.env.locals/\(∀x c,X.env.cells.lookup x=some c->c≠b)/\∀p∈X.pn++Gn,p.1≠b):
  Inv X Gn σ H' {s with heap:=h',gens:=g',drawn:=d',toks:=t'}:=by
 obtain⟨m,⟨o,es,ep,ho,r⟩,_⟩:=id I.loc;obtain⟨sl,hL⟩:=u.any ho I.free λz=>(HH _ z).2.1 rfl;exact I.step (ch:=ch) HH (λb o hL hb hc e n=>u.keep b o e n (λz=>(AH.mp (I.stkSub b z)).elim hL hb) hc) (λb o _ _ hc e n=>u.any e n hc) (λb o hc e n=>u.free b o e n hc) (λb o hc e=>u.there b o e hc) u.tups u.frzs u.tbls (λm' hm=>by
  obtain⟨o',GS,IK,Hk,r'⟩:=hm;rw[ho] at Hk;cases Hk;exact⟨_,GS,IK,hL,r'⟩) hok hg
theorem Inv.turned{t':Nat}(I:Inv X Gn σ H s)(k:∀b o,b≠it->s.heap.get? b=some o->h'.get? b=some o)(hn:H it=none)(hL:it≠X.env.locals)
  (h1:it∈X.ex\/X.s₀.heap.objs.size<=it) (h2:∀x c,X.env.cells.lookup x=some c->c≠it) (h3:∀p∈X.pn++Gn,p.1≠it):Inv X Gn σ H {s with heap:=h',toks:=t'}:=by
 have nit:∀b u,H b=some u->b≠it:=λb u e z=>by rw[z,hn] at e;cases e
 refine I.step (g':=s.gens) (d':=s.drawn) (ch:=[it]) (λb hb=>?_) (λb o _ _ hc e _=>k b o (λz=>hc (by simp[z])) e) (λb o _ _ hc e _=>⟨o.slots,k b o (λz=>hc (by simp[z])) e⟩) (λ_ _ _ _ n=>n)
  (λb o hc e=>⟨o,k b o (λz=>hc (by simp[z])) e⟩) (λ_ _ e=>e) (λ_ _ _ e=>e) (λb ps e=>⟨#[],by rw[e];simp⟩) (λm hm=>?_) (λb u e=>?_) I.bare
 .have e:b=it:=by simpa using hb
  subst e;exact⟨h1,hL,h2,h3⟩
 .obtain⟨o,es,ep,ho,r⟩:=hm;exact⟨o,es,ep,k _ o (CB hL) ho,r⟩
 .refine(I.hok b u e).stay (λc v hc q=>k c v ?_ q) (λ_ q=>q) λ_ _ q=>q;rcases hc with z|z
  .rw[z];exact nit b u e
  .exact nit c _ z
def Inv.tok(I:Inv X Gn σ H s)(t:Nat):Inv X Gn σ H {s with toks:=t}:=I.un (h':=s.heap) (t':=t) Un.refl I.hok
theorem Inv.kept{t':Nat}(I:Inv X Gn σ H s)(k:∀b u,s.heap.get? b=some u->h'.get? b=some u):Inv X Gn σ H {s with heap:=h',toks:=t'}:=I.un (Un.kept k) (I.hok.kept k)
theorem Inv.laid{a:KP}{o:HO}{t':Nat}(I:Inv X Gn σ H s)(k:∀b u,s.heap.get? b=some u->h'.get? b=some u)(hp:s.heap.objs.size<=a)(new:aC X.prog X.w (upd H a o) h' a o):
  Inv X Gn σ (upd H a o) {s with heap:=h',toks:=t'}:=I.un (Un.laid k hp (I.hok.fresh hp)) (I.hok.laid k hp new)
theorem Inv.write{x e:KP}{o:HO}{t':Nat}(I:Inv X Gn σ H s)(mu:Mut (H x))(he:e=x\/H e=some (.own x))(k:∀b u,b≠e->s.heap.get? b=some u->h'.get? b=some u)(heo:∃u,h'.get? e=some u)
  (new:aC X.prog X.w (upd H x o) h' x o):Inv X Gn σ (upd H x o) {s with heap:=h',toks:=t'}:=I.un (Un.write mu he k heo) (I.hok.write mu he k heo new)
def Inv.weak{σ':KW (K0 V)}(I:Inv X Gn σ H s)(hl:σ'.length=σ.length)(w:∀(i:Nat) v,σ'[i]? =some (some v)->σ[i]? =some (some v)):Inv X Gn σ' H s:=
 ⟨I.ok,I.os,I.bare,I.base,let ⟨m,hn,hl'⟩:=I.loc;⟨m,hn,λi x v e1 e2 e3=>hl' i x v e1 (w i v e2) e3⟩,I.cell,I.free,I.freeC,I.pin,I.hok,hl.trans I.len⟩
def Inv.pins_of{HI:KW (KP×Obj)}(I:Inv X Gn σ H s)(h:∀p∈HI,s.heap.get? p.1=some p.2/\H p.1=none/\p.1≠X.env.locals/\p.1∉X.fs/\∀v,p.2.data≠ .cell v):Inv X HI σ H s:=
 ⟨I.ok,I.os,I.bare,I.base,I.loc,I.cell,I.free,I.freeC,λp hp=>(Br.mp hp).elim (λz=>I.pin p (BO _ z)) (h p),I.hok,I.len⟩
theorem kZ(hN:N.Nodup)(a:N[i]? =some x)(b:N[j]? =some x):i=j:=by
 obtain⟨h1,e1⟩:=AJ.mp a;obtain⟨h2,e2⟩:=AJ.mp b;exact(List.getElem_inj hN).mp (e1.trans e2.symm)
theorem uz{M:Model}{A:KU}{E:KN->KO->Prop}{Q:Unit->KO->Prop}(I:Inv X Gn σ H s)(hN:X.N.Nodup)(hi:X.N[i]? =some x)(hx:Loc X.env.scope x)(r:ar v u)
  (h:∀s',Inv X Gn (σ.set i (some v)) H s'->(∃a,Heap.SameBut a s.heap s'.heap/\(a=X.env.locals\/X.env.cells.lookup x=some a))->Q () s') (hf:X.fn x=true\/X.env.scope.names.lookup x=some .local:=by trivial):wpAny M A (storeName X.env x u) Q E s:=by
 obtain⟨m,hn,hl⟩:=id I.loc;have Ic:(X.env.scope.kind== .class||(X.env.scope.kind== .module&&X.env.locals !=X.env.globals))=false:=by rw[I.ok.kind];rfl
 have hiσ:i<σ.length:=by rw[I.len];exact(AJ.mp hi).1
 have cne:=I.cne;have Iq:∀{a:KP}{h':KZ},(∃o,s.heap.get? a=some o/\H a=none)->Heap.SameBut a s.heap h'->HOk X.prog X.w H h':=fun{a h'} ha hs b ob e=>by
  obtain⟨_,_,GO⟩:=ha;refine(I.hok b ob e).stay (λc w' hc q=>(hs.2 c ?_).trans q) (λ_ q=>q) λ_ _ q=>q;rintro rfl;rcases hc with rfl|hc
  .rw[GO] at e;cases e
  .rw[GO] at hc;cases hc
 rcases hx with hk|hk
 .refine wpAny_storeName_local hk hn (λh' JL hs=>?_) Ic;obtain⟨oL,_,_,Ji,_⟩:=id hn;refine h _ ⟨I.ok,I.os,I.bare,⟨λb o e n hb hx=>?_,λb o e n hb hx=>?_,I.base.free,λb o e hx=>?_,I.base.tups,I.base.frzs,I.base.tbls⟩,⟨_,JL,λj y v' e1 e2 e3=>?_⟩,λy c e=>?_,I.free,I.freeC,λp hp=>?_,Iq ⟨oL,Ji,I.free⟩ hs,by simpa using I.len⟩ ⟨_,hs,.inl rfl⟩
  .exact(hs.2 b (AE (AS (AD e) I.ok.above))).trans (I.base.keep b o e n hb hx)
  .obtain⟨sl,e1⟩:=I.base.slot b o e n hb hx;exact⟨sl,(hs.2 b (AE (AS (AD e) I.ok.above))).trans e1⟩
  .obtain⟨o',e1⟩:=I.base.there b o e hx;exact⟨o',(hs.2 b (AE (AS (AD e) I.ok.above))).trans e1⟩
  .by_cases hj:j=i
   .subst hj;rw[hi] at e1;cases e1;rw[List.getElem?_set_self hiσ] at e2;cases e2;exact⟨u,r,.inl ⟨hk,by simp⟩⟩
   .rw[Bv (CB hj)] at e2;obtain⟨u',r',q⟩:=hl j y v' e1 e2 e3;refine⟨u',r',?_⟩;rcases q with⟨k,e⟩|⟨k,c,e,z⟩
    .refine .inl ⟨k,?_⟩;have:y≠x:=λe=>hj (kZ hN e1 (e▸hi));simp[this,e]
    .exact .inr ⟨k,c,e,z.sameBut hs (cne y c e)⟩
  .obtain⟨w',z⟩:=I.cell y c e;exact⟨w',z.sameBut hs (cne y c e)⟩
  .obtain⟨e,n,ne,nf,d⟩:=I.pin p hp;exact⟨(hs.2 p.1 ne).trans e,n,ne,nf,d⟩
 .have hfn:X.fn x=true:=by
   rcases hf with z|z
   .exact z
   .rw[z] at hk;cases hk
  obtain⟨c,hc⟩:=I.ok.has x (.inl hk);obtain⟨w',z⟩:=I.cell x c hc;refine wpAny_storeName_cell I.ok.kind hk hc z (λh' Ka hs=>?_);obtain⟨oc,hoc,hocd⟩:=id z;refine h {s with heap:=h'} ⟨I.ok,I.os,I.bare,⟨λb o e n hb hx=>?_,λb o e n hb hx=>?_,I.base.free,λb o e hx=>?_,I.base.tups,I.base.frzs,I.base.tbls⟩,⟨m,hn.sameBut hs (CB (cne x c hc)),λj y v' e1 e2 e3=>?_⟩,λy c' e=>?_,I.free,I.freeC,λp hp=>?_,Iq ⟨oc,hoc,I.freeC x c hc⟩ hs,by simpa using I.len⟩ ⟨c,hs,.inr hc⟩
  .exact(hs.2 b (AE (AS (AD e) (I.ok.cab x c hfn hc)))).trans (I.base.keep b o e n hb hx)
  .obtain⟨sl,e1⟩:=I.base.slot b o e n hb hx;exact⟨sl,(hs.2 b (AE (AS (AD e) (I.ok.cab x c hfn hc)))).trans e1⟩
  .obtain⟨o',e1⟩:=I.base.there b o e hx;exact⟨o',(hs.2 b (AE (AS (AD e) (I.ok.cab x c hfn hc)))).trans e1⟩
  .by_cases hj:j=i
   .subst hj;rw[hi] at e1;cases e1;rw[List.getElem?_set_self hiσ] at e2;cases e2;exact⟨u,r,.inr ⟨.inl hk,c,hc,Ka⟩⟩
   .rw[Bv (CB hj)] at e2;obtain⟨u',r',q⟩:=hl j y v' e1 e2 e3;refine⟨u',r',?_⟩;rcases q with q|⟨k,c',e,z'⟩
    .exact .inl q
    .refine .inr ⟨k,c',e,z'.sameBut hs ?_⟩;rintro rfl;exact hj (kZ hN e1 (I.ok.inj _ _ _ e hc▸hi))
  .by_cases hcc:c'=c
   .subst hcc;exact⟨_,Ka⟩
   .obtain⟨w2,z2⟩:=I.cell y c' e;exact⟨w2,z2.sameBut hs hcc⟩
  .obtain⟨e,n,ne,nf,d⟩:=I.pin p hp;refine⟨(hs.2 p.1 ?_).trans e,n,ne,nf,d⟩;intro q;rw[q,hoc] at e;have q':oc=p.2:=AL e;exact d w' (by rw[<-q'];exact hocd)
theorem gJ{M:Model}{A:KU}{E:KN->KO->Prop}{Q:Unit->KO->Prop}(I:Inv X Gn σ H s)(hN:X.N.Nodup)(hi:X.N[i]? =some x)(hx:Loc X.env.scope x)(r:ar v u)
  (h:∀s',Inv X Gn (σ.set i (some v)) H s'->Q () s') (hf:X.fn x=true\/X.env.scope.names.lookup x=some .local:=by trivial):wpAny M A (storeName X.env x u) Q E s:=
 uz I hN hi hx r (λs' I' _=>h s' I') hf
theorem Inv.call'{s':KO}(I:Inv X Gn σ H s)(ho:s'.os=s.os)(u:Un (frs X.stack) ch H H' s.heap s'.heap)(hok:HOk X.prog X.w H' s'.heap)(hg:AllBare s'.gens)
  (HH:∀b∈ch,(b∈X.ex\/X.s₀.heap.objs.size<=b)/\b≠X.env.locals/\(∀x c,X.env.cells.lookup x=some c->c≠b)/\∀p∈X.pn++Gn,p.1≠b):Inv X Gn σ H' s':=by
 obtain⟨h',g',d',t',o'⟩:=s';have e:o'=s.os:=ho;subst e;exact I.call (g':=g') (t':=t') (d':=d') u hok hg HH
end
abbrev XK:=KN->K0 KP->Hp->Prop
abbrev St:=KW (K0 V)
abbrev VK:=V->Hp->Prop
abbrev TE:=St->Hp->VK->Prop
variable{te to:TE}
abbrev TT:=St->Hp->(Bool->Hp->Prop)->Prop
abbrev TA:=St->Hp->(KW V->Hp->Prop)->Prop
variable{ta:TA}
structure Ends where
 nx:St->Hp->Prop
 rt:VK
 bk:St->Hp->Prop:=λ_ _=>False
 ct:St->Hp->Prop:=λ_ _=>False
abbrev TS:=Ends->St->Hp->Prop
variable{tb:TS}
abbrev eTo(D:Ends)(n:St->Hp->Prop):Ends:=⟨n,D.rt,D.bk,D.ct⟩
abbrev eLp(D:Ends)(n:St->Hp->Prop):Ends:=⟨n,D.rt,D.nx,n⟩
inductive nD(X:Cx)(Gn:List (Addr×Obj))(σ:St)(Q:VK)(u:Value)(s':Shared):Prop
 |mk v H':Inv X Gn σ H' s'->ar v u->Q v H'->nD X Gn σ Q u s'
def EP(X:Cx)(Gn:KW (KP×Obj))(σ:St)(Q:VK)(u:KN)(s':KO):Prop:=nD X Gn σ Q u s'
inductive nE(X:Cx)(Gn:List (Addr×Obj))(σ:St)(Q:Bool->Hp->Prop)(b:Bool)(s':Shared):Prop
 |mk H':Inv X Gn σ H' s'->Q b H'->nE X Gn σ Q b s'
def TP(X:Cx)(Gn:KW (KP×Obj))(σ:St)(Q:Bool->Hp->Prop)(b:Bool)(s':KO):Prop:=nE X Gn σ Q b s'
inductive nF(X:Cx)(Gn:List (Addr×Obj))(σ:St)(Q:List V->Hp->Prop)(us:List Value)(s':Shared):Prop
 |mk vs H':Inv X Gn σ H' s'->ao vs us->Q vs H'->nF X Gn σ Q us s'
def AP(X:Cx)(Gn:KW (KP×Obj))(σ:St)(Q:KW V->Hp->Prop)(us:KW KN)(s':KO):Prop:=nF X Gn σ Q us s'
def SP(X:Cx)(Gn:KW (KP×Obj))(D:Ends)(f:Flow)(s':KO):Prop:=
 match f with
 |.next=>∃σ' H',Inv X Gn σ' H' s'/\D.nx σ' H'
 |.brk=>∃σ' H',Inv X Gn σ' H' s'/\D.bk σ' H'
 |.cont=>∃σ' H',Inv X Gn σ' H' s'/\D.ct σ' H'
 |.ret u=>∃v σ' H',Inv X Gn σ' H' s'/\ar v u/\D.rt v H'
def PE(X:Cx)(e:KY)(t:TE):Prop:=
 ∀(Gn:KW (KP×Obj)) (s:KO) (σ:St) (H:Hp) (Q:VK),Inv X Gn σ H s->t σ H Q->wpAny (model X.prog X.w) X.A (eval e X.env) (EP X Gn σ Q) X.xe s
def PT(X:Cx)(e:KY)(t:TT):Prop:=
 ∀(Gn:KW (KP×Obj)) (s:KO) (σ:St) (H:Hp) (Q:Bool->Hp->Prop),Inv X Gn σ H s->t σ H Q->wpAny (model X.prog X.w) X.A (isTrue e X.env (eval e X.env)) (TP X Gn σ Q) X.xe s
def PW(X:Cx)(e:KY)(t:TT):Prop:=
 ∀(Ir:Sem KN) (Gn:KW (KP×Obj)) (s:KO) (σ:St) (H:Hp) (Q:Bool->Hp->Prop),Inv X Gn σ H s->t σ H Q->wpAny (model X.prog X.w) X.A (isTrue e X.env Ir) (TP X Gn σ Q) X.xe s
def PW.pt{t:TT}(h:PW X e t):PT X e t:=h _
def PA(X:Cx)(es:KW KY)(t:TA):Prop:=
 ∀(pos:Pos) (Gn:KW (KP×Obj)) (s:KO) (σ:St) (H:Hp) (Q:KW V->Hp->Prop),Inv X Gn σ H s->t σ H Q->wpAny (model X.prog X.w) X.A (spliced (backTo pos (starEach es X.env))) (AP X Gn σ Q) X.xe s
def PS(X:Cx)(st:K1)(t:TS):Prop:=
 ∀(Gn:KW (KP×Obj)) (s:KO) (σ:St) (H:Hp) (D:Ends),Inv X Gn σ H s->t D σ H->wpAny (model X.prog X.w) X.A (exec st X.env) (SP X Gn D) X.xe s
def PSs(X:Cx)(st:KW K1)(t:TS):Prop:=
 ∀(Gn:KW (KP×Obj)) (s:KO) (σ:St) (H:Hp) (D:Ends),Inv X Gn σ H s->t D σ H->wpAny (model X.prog X.w) X.A (execs st X.env) (SP X Gn D) X.xe s
def thn{α:Type}{t:Sem α}{Q Q':α->KO->Prop}(h:wpAny M A t Q E s)(hQ:∀a s,Q a s->Q' a s):wpAny M A t Q' E s:=BD h hQ λ_ _ x=>x
section
variable{X:Cx}
inductive tVar(i:Nat)(σ:St)(H:Hp)(Q:VK):Prop
 |mk v:σ[i]? =some (some v)->Q v H->tVar i σ H Q
def tC(v:V):TE:=λ_ H Q=>Q v H
theorem uA{pos:Pos}(hN:X.N[i]? =some x)(hv:Vis X.env.scope x)(hd:(x==("__debug__":Str))=false:=by decide)(G6:(x==("__classdict__":Str))=false:=by decide):PE X (.Name x pos) (tVar i):=by
 intro Gn s σ H Q I h;obtain⟨v,e,h⟩:=h;obtain⟨m,hn,hl⟩:=I.loc;obtain⟨u,r,l⟩:=hl i x v hN e hv;have fin:EP X Gn σ Q u s:=⟨v,H,I,r,h⟩;rcases l with⟨hk,hm⟩|⟨hk,c,hc,Gz⟩
 .exact wpAny_Name (wpAny_loadName_local I.ok.kind hk hn hm fin) hd
 .rcases hk with hk|hk
  .exact wpAny_Name (wpAny_loadName_cell I.ok.kind hk hc Gz fin) hd
  .exact wpAny_Name (wpAny_loadName_free I.ok.kind hk hc Gz fin G6) hd
def ag{i j pos}:PE X (.Constant (.int i) j pos) (tC (.int i)):=λ_ _ _ H _ I h=>wpAny_Constant_int ⟨.int i,H,I.tok _,⟨_,rfl⟩,h⟩
def gK{b j pos}:PE X (.Constant (.bool b) j pos) (tC (.bl b)):=λ_ _ _ H _ I h=>Constant_bool ⟨.bl b,H,I,rfl,h⟩
def aq{x j pos}:PE X (.Constant (.str x) j pos) (tC (.str x)):=λ_ _ _ H _ I h=>CG ⟨.str x,H,I.tok _,⟨_,rfl⟩,h⟩
def Gl(X:Cx)(x:Str):Prop:=X.env.kindOf x=some .globalImplicit
theorem fV{E:KN->KO->Prop}{σ:St}{pos:Pos}(I:Inv X Gn σ H s)(hg:Gl X x)(hm:X.mg x=some u)(h:Q u s)
  (hd:(x==("__debug__":Str))=false:=by decide):wpAny (model X.prog X.w) X.A (eval (.Name x pos) X.env) Q E s:=
 Calls.Name_function_global I.ok.kind hg (Calls.loadGlobal_global (by rw[I.ok.glob];exact I.mod.glob.keeps I.bk) hm h) hd
theorem dw{E:KN->KO->Prop}{σ:St}{pos:Pos}(I:Inv X Gn σ H s)(hg:Gl X x)(hm:X.mg x=none)(hv:bootBuiltins x=some u)(h:Q u s)
  (hn:x≠"__name__":=by decide) (hd:(x==("__debug__":Str))=false:=by decide):wpAny (model X.prog X.w) X.A (eval (.Name x pos) X.env) Q E s:=by
 obtain⟨mb,h1,h2⟩:=I.mod.blt;exact Calls.Name_function_global I.ok.kind hg (Calls.loadGlobal_builtin (by rw[I.ok.glob];exact I.mod.glob.keeps I.bk) hm (by rw[I.ok.blt];exact h1.keeps I.bk) ((h2 x hn).trans hv) h) hd
theorem cO{pos:Pos}(hg:Gl X x)(hm:X.mg x=some u)(r:ar v u)(hd:(x==("__debug__":Str))=false:=by decide):PE X (.Name x pos) (tC v):=
 λ_ _ _ H _ I h=>fV I hg hm ⟨v,H,I,r,h⟩ hd
theorem iA{pos:Pos}(hg:Gl X x)(hm:X.mg x=none)(hv:bootBuiltins x=some u)(r:ar v u)(hn:x≠"__name__":=by decide)(hd:(x==("__debug__":Str))=false:=by decide):PE X (.Name x pos) (tC v):=
 λ_ _ _ H _ I h=>dw I hg hm hv ⟨v,H,I,r,h⟩ hn hd
variable{a b:KY}{ta tb:TE}{pos:Pos}
def PC(X:Cx)(op:CmpOp)(a b:KY)(t:TE):Prop:=
 ∀(Gn:KW (KP×Obj)) (s:KO) (σ:St) (H:Hp) (Q:VK),Inv X Gn σ H s->t σ H Q->
  wpAny (model X.prog X.w) X.A (eval a X.env) (λv s₁=>wpAny (model X.prog X.w) X.A (eval b X.env) (λu s₂=>wpAny (model X.prog X.w) X.A (compareOp op v u) (EP X Gn σ Q) X.xe s₂) X.xe s₁) X.xe s
theorem uB(b:KY)(h:op≠ .In)(h2:op≠ .NotIn):behindInMarks op b=false:=by
 have e1:(op==CmpOp.In)=false:=by cases op<;>first|rfl|exact absurd rfl h
 have e2:(op==CmpOp.NotIn)=false:=by cases op<;>first|rfl|exact absurd rfl h2
 cases b<;>first|rfl|(show(_&&(op==CmpOp.In||op==CmpOp.NotIn)&&_)=false;rw[e1,e2,Bool.or_self,CK,Bool.false_and])
inductive nG(Q:(Bool->Hp->Prop))(x:V)(H1:Hp):Prop
 |mk c:x=.bl c->Q c H1->nG Q x H1
def tB(t:TE):TT:=λσ H Q=>t σ H λx H1=>nG Q x H1
local macro_rules | `(tactic| rfl') => `(tactic| first|exact uB _ (by decide) (by decide)|rfl)
theorem uC{t:TE}(h:PC X op a b t)(h1:behindInMarks op b=false:=by rfl'):PT X (.Compare a [op] [b] pos) (tB t):=by
 intro Gn s σ H Q I hw;refine wpAny_isTrue_Compare1 (thn (h Gn s σ H _ I hw) λv s1 h1=>thn h1 λu s2 h2=>thn h2 λc s3 zu0=>?_) h1;obtain⟨x,H1,I1,r1,q1⟩:=zu0;obtain⟨d,rfl,q⟩:=q1;cases r1;exact BF ⟨H1,I1,q⟩
theorem cc{e:Expr}{t:TE}(h:PE X e t)(he:∀Ir,isTrue e X.env Ir=(do let v<-Ir;standAt e.pos;holding [v] (truthy v)):=by intro _;rfl):PT X e (tB t):=by
 intro Gn s σ H Q I hw;refine isTrue_plain (thn (h Gn s σ H _ I hw) λv s1 zu1=>?_) (he _);obtain⟨x,H1,I1,r1,q1⟩:=zu1;obtain⟨d,rfl,q⟩:=q1;cases r1;exact BF ⟨H1,I1,q⟩
variable{tA Kb:TT}{bj:KW KY}
def uD(t u:TT):TT:=λσ H Q=>t σ H λc H1=>if c=true then u σ H1 Q else Q false H1
def tOr(t u:TT):TT:=λσ H Q=>t σ H λc H1=>if c=true then Q true H1 else u σ H1 Q
def uE(t:TT):TT:=λσ H Q=>t σ H λc H1=>Q (!c) H1
theorem nH(ha:PT X a tA):PW X (.BoolOp .And [a] pos) tA:=by
 intro wh Gn s σ H Q I h;refine isTrue_and (thn (ha Gn s σ H Q I h) λc s1 e=>?_);cases c with
 |true=>exact isTrue_and_nil e
 |false=>exact e
theorem eB(ha:PT X a tA):PW X (.BoolOp .Or [a] pos) tA:=by
 intro wh Gn s σ H Q I h;refine isTrue_or (thn (ha Gn s σ H Q I h) λc s1 e=>?_);cases c with
 |false=>exact isTrue_or_nil e
 |true=>exact e
theorem nI(ha:PT X a tA)(hb:PW X (.BoolOp .And (b::bj) pos) Kb):PW X (.BoolOp .And (a::b::bj) pos) (uD tA Kb):=by
 intro wh Gn s σ H Q I h;refine isTrue_and (thn (ha Gn s σ H _ I h) λc s1 zu2=>?_);obtain⟨H1,I1,q1⟩:=zu2;cases c with
 |true=>exact hb wh Gn s1 σ H1 Q I1 q1
 |false=>exact⟨H1,I1,q1⟩
theorem df(ha:PT X a tA)(hb:PW X (.BoolOp .Or (b::bj) pos) Kb):PW X (.BoolOp .Or (a::b::bj) pos) (tOr tA Kb):=by
 intro wh Gn s σ H Q I h;refine isTrue_or (thn (ha Gn s σ H _ I h) λc s1 zu3=>?_);obtain⟨H1,I1,q1⟩:=zu3;cases c with
 |true=>exact⟨H1,I1,q1⟩
 |false=>exact hb wh Gn s1 σ H1 Q I1 q1
theorem cZ(ha:PT X a tA):PT X (.UnaryOp .Not a pos) (uE tA):=by
 intro Gn s σ H Q I h;exact isTrue_not (thn (ha Gn s σ H _ I h) λc s1 GB=>by obtain⟨H1,I1,q⟩:=GB;exact⟨H1,I1,q⟩)
inductive tAndV_(tb:TE)(σ:St)(Q:VK)(x:V)(H1:Hp):Prop
 |mk c:x=.bl c->(if c=true then tb σ H1 Q else Q (.bl false) H1)->tAndV_ tb σ Q x H1
def uF(ta tb:TE):TE:=λσ H Q=>ta σ H λx H1=>tAndV_ tb σ Q x H1
inductive tOrV_(tb:TE)(σ:St)(Q:VK)(x:V)(H1:Hp):Prop
 |mk c:x=.bl c->(if c=true then Q (.bl true) H1 else tb σ H1 Q)->tOrV_ tb σ Q x H1
def uG(ta tb:TE):TE:=λσ H Q=>ta σ H λx H1=>tOrV_ tb σ Q x H1
inductive tNotV_(Q:VK)(x:V)(H1:Hp):Prop
 |mk c:x=.bl c->Q (.bl (!c)) H1->tNotV_ Q x H1
def uH(ta:TE):TE:=λσ H Q=>ta σ H λx H1=>tNotV_ Q x H1
def gL{op}{t:TE}(h:PE X a t):PE X (.BoolOp op [a] pos) t:=λGn s σ H Q I hw=>BoolOp_one (h Gn s σ H Q I hw)
theorem gM(ha:PE X a ta)(hb:PE X (.BoolOp .And (b::bj) pos) tb):PE X (.BoolOp .And (a::b::bj) pos) (uF ta tb):=by
 intro Gn s σ H Q I h;refine BoolOp_and (thn (ha Gn s σ H _ I h) λv s1 zu4=>?_);obtain⟨x,H1,I1,r1,q1⟩:=zu4;obtain⟨c,rfl,q1⟩:=q1;cases r1;refine BF ?_;cases c with
 |true=>exact hb Gn s1 σ H1 Q I1 q1
 |false=>exact⟨.bl false,H1,I1,rfl,q1⟩
theorem uI(ha:PE X a ta)(hb:PE X (.BoolOp .Or (b::bj) pos) tb):PE X (.BoolOp .Or (a::b::bj) pos) (uG ta tb):=by
 intro Gn s σ H Q I h;refine BoolOp_or (thn (ha Gn s σ H _ I h) λv s1 zu5=>?_);obtain⟨x,H1,I1,r1,q1⟩:=zu5;obtain⟨c,rfl,q1⟩:=q1;cases r1;refine BF ?_;cases c with
 |false=>exact hb Gn s1 σ H1 Q I1 q1
 |true=>exact⟨.bl true,H1,I1,rfl,q1⟩
theorem uJ(ha:PE X a ta):PE X (.UnaryOp .Not a pos) (uH ta):=by
 intro Gn s σ H Q I h;refine UnaryOp_ (thn (ha Gn s σ H _ I h) λv s1 zu6=>?_);obtain⟨x,H1,I1,r1,q1⟩:=zu6;obtain⟨c,rfl,q1⟩:=q1;cases r1;exact not_of (BF ⟨.bl (!c),H1,I1,rfl,q1⟩)
def tIf(t:TT)(ta tb:TE):TE:=λσ H Q=>t σ H λc H1=>if c=true then ta σ H1 Q else tb σ H1 Q
theorem iB(hc:PT X c tA)(ha:PE X a ta)(hb:PE X b tb):PE X (.IfExp c a b pos) (tIf tA ta tb):=by
 intro Gn s σ H Q I h;refine wpAny_IfExp (thn (hc Gn s σ H _ I h) λd s1 zu7=>?_);obtain⟨H1,I1,q1⟩:=zu7;cases d with
 |true=>exact ha Gn s1 σ H1 Q I1 q1
 |false=>exact hb Gn s1 σ H1 Q I1 q1
end
def SqL(K:W.Frag)(H:Hp)(a:KP)(xs:KW V):Prop:=
 Rd H a (.lst xs)\/
  ∃(o:Obj) (Gq:Array KN) (n:Nat),K.lookup a=some o/\o.cls=.type "list"/\o.dict=none/\o.data=.seq Gq n/\Gq.size<=sizeLine/\ao xs Gq.toList
def SqT(K:W.Frag)(H:Hp)(a:KP)(xs:KW V):Prop:=
 Rd H a (.tup xs)\/
  ∃(o:Obj) (Gq:Array KN) (n:Nat),K.lookup a=some o/\o.cls=.type "tuple"/\o.data=.seq Gq n/\Gq.size<=sizeLine/\ao xs Gq.toList
def uK:KN->K0 V
 |.none=>some .non
 |.bool b=>some (.bl b)
 |.int i _=>some (.int i)
 |.str x _=>some (.str x)
 |.bytes b _=>some (.byt b)
 |.float b _=>some (.flt b)
 |.ref a=>some (.ref a)
 |.type n=>some (.ty n)
 |_=>none
theorem ar.abs{x:V}(r:ar x u):uK u=some x:=by
 cases x with
 |non=>cases r;rfl
 |bl _=>cases r;rfl
 |int _=>obtain⟨t,rfl⟩:=r;rfl
 |str _=>obtain⟨t,rfl⟩:=r;rfl
 |byt _=>obtain⟨t,rfl⟩:=r;rfl
 |flt _=>obtain⟨t,rfl⟩:=r;rfl
 |ref _=>cases r;rfl
 |ty _=>cases r;rfl
def ar.inj{x y:V}{u:KN}(r:ar x u)(q:ar y u):x=y:=AL (r.abs.symm.trans q.abs)
theorem ao.inj:∀{xs ys:KW V}{us:KW KN},ao xs us->ao ys us->xs=ys:=by
 intro xs ys us h;induction h generalizing ys with
 |nil=>intro k;cases k;rfl
 |cons r t ih=>intro k;cases k with|cons r' t'=>rw[r.inj r',ih t']
section
variable{X:Cx}{Gn:KW (KP×Obj)}{σ:St}{H:Hp}{s:KO}{a:KP}{xs ys:KW V}
def SqL.of(h:H a=some (.lst xs)):SqL K H a xs:= .inl (.inl h)
def SqT.of(h:H a=some (.tup xs)):SqT K H a xs:= .inl (.inl h)
theorem Inv.list(I:Inv X Gn σ H s)(h:SqL X.K H a xs):∃Gq:KW KN,ao xs Gq/\PlainL s.heap a Gq.toArray/\xs.length<=sizeLine:=by
 rcases h with h|⟨o,Gq,n,hk,hc,hd,hs,hz,r⟩
 .obtain⟨z,Gq,n,r,e⟩:=h.ok I.hok;exact⟨Gq,r,⟨_,n,e,rfl,rfl,rfl⟩,z⟩
 .refine⟨Gq.toList,r,⟨o,n,I.kIn a o hk,hc,hd,by simpa using hs⟩,?_⟩;have e:=r.length;simp only[AV] at e;lia
theorem Inv.tuple(I:Inv X Gn σ H s)(h:SqT X.K H a xs):∃Gq:KW KN,ao xs Gq/\IsTup s.heap a Gq.toArray/\xs.length<=sizeLine:=by
 rcases h with h|⟨o,Gq,n,hk,hc,hs,hz,r⟩
 .obtain⟨z,Gq,r,p⟩:=h.ok I.hok;exact⟨Gq,r,p,z⟩
 .refine⟨Gq.toList,r,⟨o,I.kIn a o hk,hc,n,by simpa using hs⟩,?_⟩;have e:=r.length;simp only[AV] at e;lia
theorem Inv.list_inj(I:Inv X Gn σ H s)(h:SqL X.K H a xs)(h':SqL X.K H a ys):xs=ys:=by
 obtain⟨Gq,r,⟨o,n,e,_,_,d⟩,_⟩:=I.list h;obtain⟨its',r',⟨o',n',e',_,_,d'⟩,_⟩:=I.list h';rw[e] at e';cases e';rw[d] at d';injection d' with d1 _;have:Gq=its':=by simpa using congrArg Array.toList d1
 subst this;exact r.inj r'
theorem Inv.tuple_inj(I:Inv X Gn σ H s)(h:SqT X.K H a xs)(h':SqT X.K H a ys):xs=ys:=by
 obtain⟨Gq,r,⟨o,e,_,n,d⟩,_⟩:=I.tuple h;obtain⟨its',r',⟨o',e',_,n',d'⟩,_⟩:=I.tuple h';rw[e] at e';cases e';rw[d] at d';injection d' with d1 _;have:Gq=its':=by simpa using congrArg Array.toList d1
 subst this;exact r.inj r'
end
abbrev Cx.wish(X:Cx)(E:KN->KO->Prop):Cx:={X with xe:=E}
abbrev Cx.nox(X:Cx):Cx:=X.wish λ_ _=>False
theorem Cx.Ok.wish{X:Cx}(ok:X.Ok)(E:KN->KO->Prop):(X.wish E).Ok:=
 ⟨ok.mod,ok.kind,ok.glob,ok.blt,ok.above,ok.inj,ok.has,ok.cab,ok.hd,ok.frames,ok.stk,ok.exf,ok.bs,ok.bsz,ok.noex,ok.exfs,ok.funs,ok.frf⟩
def Cx.Ok.unwish(ok:(X.wish E).Ok):X.Ok:=
 ⟨ok.mod,ok.kind,ok.glob,ok.blt,ok.above,ok.inj,ok.has,ok.cab,ok.hd,ok.frames,ok.stk,ok.exf,ok.bs,ok.bsz,ok.noex,ok.exfs,ok.funs,ok.frf⟩
section
variable{X:Cx}{Gn:KW (KP×Obj)}{σ:St}{H:Hp}{s:KO}{E:KN->KO->Prop}
theorem Inv.wish(I:Inv X Gn σ H s)(E:KN->KO->Prop):Inv (X.wish E) Gn σ H s:=⟨I.ok.wish E,I.os,I.bare,I.base,I.loc,I.cell,I.free,I.freeC,I.pin,I.hok,I.len⟩
theorem Inv.unwish(I:Inv (X.wish E) Gn σ H s):Inv X Gn σ H s:=⟨I.ok.unwish,I.os,I.bare,I.base,I.loc,I.cell,I.free,I.freeC,I.pin,I.hok,I.len⟩
theorem SP.unwish{D:Ends}{f:Flow}{s':KO}(h:SP (X.wish E) Gn D f s'):SP X Gn D f s':=by
 cases f with
 |next=>obtain⟨σ',H',I,q⟩:=h;exact⟨σ',H',I.unwish,q⟩
 |brk=>obtain⟨σ',H',I,q⟩:=h;exact⟨σ',H',I.unwish,q⟩
 |cont=>obtain⟨σ',H',I,q⟩:=h;exact⟨σ',H',I.unwish,q⟩
 |ret u=>obtain⟨v,σ',H',I,r,q⟩:=h;exact⟨v,σ',H',I.unwish,r,q⟩
theorem PSs.nox{st:KW K1}{t:TS}(h:PSs X.nox st t):PSs X st t:=λGn s σ H D I hw=>
 BD (h Gn s σ H D (I.wish _) hw) (λ_ _ q=>q.unwish) λ_ _ z=>False.elim z
end
section
variable{X:Cx}{st:K1}{bj:KW K1}{t u:TS}{e:KY}{te:TE}{pos:Pos}
def uL:TS:=λD σ H=>D.nx σ H
def nJ(t u:TS):TS:=λD σ H=>t (eTo D (u D)) σ H
def ax:PSs X [] uL:=λ_ _ σ H _ I h=>DB ⟨σ,H,I,h⟩
theorem ah(h1:PS X st t)(h2:PSs X bj u):PSs X (st::bj) (nJ t u):=by
 intro Gn s σ H D I h;refine wpAny_execs_cons (thn (h1 Gn s σ H (eTo D (u D)) I h) λf s1 q=>?_);cases f with
 |next=>
  obtain⟨σ',H',I',q⟩:=q;exact h2 Gn s1 σ' H' D I' q
 |ret v=>exact q
 |brk=>exact q
 |cont=>exact q
theorem ai(h1:PS X st t):PSs X [st] t:=by
 intro Gn s σ H D I h;refine wpAny_execs_cons (thn (h1 Gn s σ H D I h) λf s1 q=>?_);cases f with
 |next=>exact DB q
 |ret v=>exact q
 |brk=>exact q
 |cont=>exact q
theorem Inv.quiet{σ:St}(I:Inv X Gn σ H s):interactive X.env=false:=by simp[interactive,I.ok.kind]
def nK(te:TE):TS:=λD σ H=>te σ H λ_ H1=>D.nx σ H1
theorem bd(he:PE X e te)(hs:swapsWith e none pos.line X.env=pure false:=by rfl):PS X (.Expr e pos) (nK te):=by
 intro Gn s σ H D I h;exact wpAny_Expr_any (thn (he Gn s σ H _ I h) λv s1 GB=>by obtain⟨x,H1,I1,r1,q1⟩:=GB;exact⟨σ,H1,I1,q1⟩) I.quiet hs
def uM(te:TE):TS:=λD σ H=>te σ H D.rt
theorem al(he:PE X e te):PS X (.Return (some e) pos) (uM te):=by
 intro Gn s σ H D I h;exact wpAny_Return_some (thn (he Gn s σ H _ I h) λv s1 GB=>by obtain⟨x,H1,I1,r1,q1⟩:=GB;exact⟨x,σ,H1,I1,r1,q1⟩)
def uN(c:TT)(t u:TS):TS:=λD σ H=>c σ H λb H1=>if b=true then t D σ H1 else u D σ H1
theorem ay{a b:KW K1}{tc:TT}(hc:PT X c tc)(ha:PSs X a t)(hb:PSs X b u):PS X (.If c a b pos) (uN tc t u):=by
 intro Gn s σ H D I h;refine wpAny_If (thn (hc Gn s σ H _ I h) λd s1 zu8=>?_);obtain⟨H1,I1,q1⟩:=zu8;cases d with
 |true=>exact ha Gn s1 σ H1 D I1 q1
 |false=>exact hb Gn s1 σ H1 D I1 q1
def uO:TS:=λ_ _ _=>False
def bJ:PS X st uO:=λ_ _ _ _ _ _ h=>h.elim
end
abbrev TG:=V->St->Hp->(St->Hp->Prop)->Prop
variable{g:TG}
abbrev TGs:=KW V->St->Hp->(St->Hp->Prop)->Prop
def PG(X:Cx)(GX:KY)(t:TG):Prop:=
 ∀(Gn:KW (KP×Obj)) (s:KO) (σ:St) (H:Hp) (v:V) (u:KN) (Q:St->Hp->Prop),Inv X Gn σ H s->ar v u->t v σ H Q->
  wpAny (model X.prog X.w) X.A (assign GX X.env u) (λ_ s'=>∃σ' H',Inv X Gn σ' H' s'/\Q σ' H') X.xe s
def PGs(X:Cx)(ts:KW KY)(t:TGs):Prop:=
 ∀(Gn:KW (KP×Obj)) (s:KO) (σ:St) (H:Hp) (vs:KW V) (us:KW KN) (Q:St->Hp->Prop),Inv X Gn σ H s->ao vs us->t vs σ H Q->
  wpAny (model X.prog X.w) X.A (assignInOrder ((assignEach ts X.env).map (·.2)) us) (λ_ s'=>∃σ' H',Inv X Gn σ' H' s'/\Q σ' H') X.xe s
abbrev gN:=V->V->V->Hp->(Hp->Prop)->Prop
def k6(X:Cx)(t:gN):Prop:=
 ∀(Gn:KW (KP×Obj)) (s:KO) (σ:St) (H:Hp) (o i v:V) (ov iv u:KN) (Q:Hp->Prop),Inv X Gn σ H s->ar o ov->ar i iv->ar v u->t o i v H Q->
  wpAny (model X.prog X.w) X.A (setItem ov iv u) (λ_ s'=>∃H',Inv X Gn σ H' s'/\Q H') X.xe s
abbrev TIp:=V->V->Hp->VK->Prop
def PIp(X:Cx)(op:Operator)(t:TIp):Prop:=
 ∀(Gn:KW (KP×Obj)) (s:KO) (σ:St) (H:Hp) (x y:V) (v u:KN) (Q:VK),Inv X Gn σ H s->ar x v->ar y u->t x y H Q->
  wpAny (model X.prog X.w) X.A (inplaceOp op v u) (EP X Gn σ Q) X.xe s
section
variable{X:Cx}{pos:Pos}
def cn(i:Nat):TG:=λv σ H Q=>Q (σ.set i (some v)) H
theorem cK(hN:X.N.Nodup)(hi:X.N[i]? =some x)(hx:Loc X.env.scope x)(hf:X.fn x=true\/X.env.scope.names.lookup x=some .local:=by trivial):PG X (.Name x pos) (cn i):=by
 intro Gn s σ H v u Q I r h;exact wpAny_assign_Name (gJ I hN hi hx r (λs' I'=>⟨_,H,I',h⟩) hf)
def iC:TGs:=λvs σ H Q=>vs=[]/\Q σ H
inductive gCons(t:TG)(u:TGs)(vs:List V)(σ:St)(H:Hp)(Q:(St->Hp->Prop)):Prop
 |mk v r:vs=v::r->(t v σ H λσ' H'=>u r σ' H' Q)->gCons t u vs σ H Q
theorem dy:PGs X [] iC:=by
 intro Gn s σ H vs us Q I r h;obtain⟨e,h⟩:=h;subst e;cases r;exact assignInOrder_nil ⟨σ,H,I,h⟩
theorem bG{t:TG}{u:TGs}(h1:PG X e t)(h2:PGs X es u)
  (hs:(assignEach (e::es) X.env).map (·.2)=assign e X.env::(assignEach es X.env).map (·.2):=by rfl):PGs X (e::es) (gCons t u):=by
 intro Gn s σ H vs us Q I r h;obtain⟨v,vr,e1,h⟩:=h;subst e1;cases r with
 |cons r rr=>
  rw[hs];refine assignInOrder_cons (thn (h1 Gn s σ H _ _ _ I r h) λ_ s1 zu9=>?_);obtain⟨σ1,H1,I1,q1⟩:=zu9;exact h2 Gn s1 σ1 H1 _ _ Q I1 rr q1
inductive gTup(K:W.Frag)(n:Nat)(t:TGs)(v:V)(σ:St)(H:Hp)(Q:(St->Hp->Prop)):Prop
 |mk a xs:v=.ref a->SqT K H a xs->xs.length=n->t xs σ H Q->gTup K n t v σ H Q
theorem eD{k:Nat}{t:TGs}(hc:X.calm=true)(h:PGs X es t)
  (hn:(assignEach es X.env).length=n:=by rfl) (Hw:(assignEach es X.env).findIdx? (·.1)=none:=by rfl):PG X (.Tuple es k pos) (gTup X.K n t):=by
 intro Gn s σ H v u Q I r hw;obtain⟨a,xs,e1,hq,hl,hw⟩:=hw;subst e1;cases r;obtain⟨Gq,rv,ht,hz⟩:=I.tuple hq;refine assign_Tuple_tuple (I.ok.hd hc) ht (by simp[hn,<-hl,rv.length]) Hw λh' hx=>?_;have I1:Inv X Gn σ H {s with heap:=h'}:=I.kept (t':=s.toks) λb o e=>hx b o (AE (AD e)) e;exact h Gn _ σ H xs _ Q I1 (by simpa using rv) hw
def uP(to ti:TE)(t:gN):TG:=λv σ H Q=>to σ H λo H1=>ti σ H1 λi H2=>t o i v H2 λH3=>Q σ H3
theorem uQ{o i:Expr}{ti:TE}{t:gN}(ho:PE X o to)(hi:PE X i ti)(hs:k6 X t)
  (ha:∀v,assign (.Subscript o i pos) X.env v=(do
   let ov<-holding [v] (eval o X.env)
   let iv<-holding [v,ov] (eval i X.env)
   standAt pos
   holding [v,ov,iv] (setItem ov iv v)
   release [v,ov,iv] []):=by intro _;rfl):PG X (.Subscript o i pos) (uP to ti t):=by
 intro Gn s σ H v u Q I r h;rw[ha];refine A0 (Ap (thn (ho Gn s σ H _ I h) λov s1 zu10=>?_));obtain⟨x,H1,I1,r1,q1⟩:=zu10;refine A0 (Ap (thn (hi Gn s1 σ H1 _ I1 q1) λiv s2 zu11=>?_));obtain⟨y,H2,I2,r2,q2⟩:=zu11;refine A0 (wpAny_standAt (A0 (Ap (thn (hs Gn s2 σ H2 x y v ov iv u _ I2 r1 r2 r q2) λ_ s3 zu12=>?_))));obtain⟨H3,I3,q3⟩:=zu12;exact wpAny_release ⟨σ,H3,I3,q3⟩
def gO(te:TE)(g:TG):TS:=λD σ H=>te σ H λx H1=>g x σ H1 D.nx
theorem nL(he:PE X e te)(hg:PG X tg g)(hs:swapsWithSole [tg] e pos.line X.env=pure false:=by rfl)(hw:swappedStores [tg] e X.env=pure none:=by rfl)
  (h1:(assignEach [tg] X.env).map (·.2)=[assign tg X.env]:=by rfl):PS X (.Assign [tg] e pos) (gO te g):=by
 intro Gn s σ H D I h;refine wpAny_Assign_stores (thn (he Gn s σ H _ I h) λv s1 zu13=>?_) hs hw;obtain⟨x,H1,I1,r1,q1⟩:=zu13;rw[h1];exact thn (hg Gn s1 σ H1 x v _ I1 r1 q1) λ_ s2 q=>q
theorem uR{GJ:Pos}(hN:X.N.Nodup)(hi:X.N[i]? =some x)(hx:Loc X.env.scope x)(he:PE X e te)(hs:swapsWith e (some (.Name x GJ)) pos.line X.env=pure false:=by rfl)(hf:X.fn x=true\/X.env.scope.names.lookup x=some .local:=by trivial):
  PS X (.Assign [.Name x GJ] e pos) (gO te (cn i)):=by
 intro Gn s σ H D I h;refine wpAny_Assign_Name (thn (he Gn s σ H _ I h) λv s1 zu14=>?_) hs;obtain⟨y,H1,I1,r1,q1⟩:=zu14;exact gJ I1 hN hi hx r1 (λs2 I2=>⟨_,H1,I2,q1⟩) hf
inductive tAug(i:Nat)(te:TE)(ti:TIp)(D:Ends)(σ:St)(H:Hp):Prop
 |mk x:σ[i]? =some (some x)->(te σ H λy H1=>ti x y H1 λz H2=>D.nx (σ.set i (some z)) H2)->tAug i te ti D σ H
theorem nM{op:Operator}{ti:TIp}{GJ:Pos}(hN:X.N.Nodup)(hi:X.N[i]? =some x)(hx:Loc X.env.scope x)(he:PE X e te)(ho:PIp X op ti)(hf:X.fn x=true\/X.env.scope.names.lookup x=some .local:=by trivial):
  PS X (.AugAssign (.Name x GJ) op e pos) (tAug i te ti):=by
 intro Gn s σ H D I h;obtain⟨v,e1,h⟩:=h;obtain⟨m,hn,hl⟩:=I.loc;have vis:Vis X.env.scope x:=by rcases hx with k|k;exact .inl k;exact .inr (.inl k)
 obtain⟨u,r,l⟩:=hl i x v hi e1 vis;refine wpAny_AugAssign_Name ?_;have go:wpAny (model X.prog X.w) X.A (eval e X.env) (λw s₂=>wpAny (model X.prog X.w) X.A (inplaceOp op u w) (λr s₃=>wpAny (model X.prog X.w) X.A (storeName X.env x r) (λ_=>SP X Gn D .next) X.xe s₃) X.xe s₂) X.xe s:=by
  refine thn (he Gn s σ H _ I h) λw s1 zu15=>?_;obtain⟨y,H1,I1,r1,q1⟩:=zu15;refine thn (ho Gn s1 σ H1 v y u w _ I1 r r1 q1) λz s2 zu16=>?_;obtain⟨zv,H2,I2,r2,q2⟩:=zu16;exact gJ I2 hN hi hx r2 (λs3 I3=>⟨_,H2,I3,q2⟩) hf
 rcases l with⟨hk,hm⟩|⟨hk,c,hc,Gz⟩
 .exact wpAny_loadName_local I.ok.kind hk hn hm go
 .rcases hk with hk|hk
  .exact wpAny_loadName_cell I.ok.kind hk hc Gz go
  .rcases hx with k|k
   .have:X.env.scope.names.lookup x=some .free:=hk;rw[k] at this;cases this
   .have:X.env.scope.names.lookup x=some .free:=hk;rw[k] at this;cases this
def uS(to ti te:TE)(Jq:V->V->Hp->VK->Prop)(tip:TIp)(Jr:gN):TS:=λD σ H=>to σ H λo H1=>ti σ H1 λi H2=>Jq o i H2 λx H3=>te σ H3 λy H4=>tip x y H4 λz H5=>Jr o i z H5 λH6=>D.nx σ H6
def nN(X:Cx)(t:V->V->Hp->VK->Prop):Prop:=
 ∀(Gn:KW (KP×Obj)) (s:KO) (σ:St) (H:Hp) (o i:V) (ov iv:KN) (Q:VK),Inv X Gn σ H s->ar o ov->ar i iv->t o i H Q->
  wpAny (model X.prog X.w) X.A (getItem ov iv) (EP X Gn σ Q) X.xe s
theorem nO{o i:KY}{ti:TE}{Jq:V->V->Hp->VK->Prop}{tip:TIp}{Jr:gN}{op:Operator}{G7:Pos}(ho:PE X o to)(hi:PE X i ti)(hg:nN X Jq)(he:PE X e te)(hp:PIp X op tip)(hs:k6 X Jr)
  (ha:∀ov iv new,augStore i ov iv new=(do holding [new,ov,iv] (setItem ov iv new);release [new,ov,iv] [];pure .next):=by intros;rfl):PS X (.AugAssign (.Subscript o i G7) op e pos) (uS to ti te Jq tip Jr):=by
 intro Gn s σ H D I h;refine wpAny_AugAssign_SubscriptAny (thn (ho Gn s σ H _ I h) λov s1 zu17=>?_) ha;obtain⟨x1,H1,I1,r1,q1⟩:=zu17;refine thn (hi Gn s1 σ H1 _ I1 q1) λiv s2 zu18=>?_;obtain⟨x2,H2,I2,r2,q2⟩:=zu18;refine thn (hg Gn s2 σ H2 x1 x2 ov iv _ I2 r1 r2 q2) λJj s3 zu19=>?_;obtain⟨x3,H3,I3,r3,q3⟩:=zu19;refine thn (he Gn s3 σ H3 _ I3 q3) λv s4 zu20=>?_;obtain⟨x4,H4,I4,r4,q4⟩:=zu20;refine thn (hp Gn s4 σ H4 x3 x4 Jj v _ I4 r3 r4 q4) λnew s5 zu21=>?_;obtain⟨x5,H5,I5,r5,q5⟩:=zu21;exact thn (hs Gn s5 σ H5 x1 x2 x5 ov iv new _ I5 r1 r2 r5 q5) λ_ s6 GB=>by obtain⟨H6,I6,q6⟩:=GB;exact⟨σ,H6,I6,q6⟩
inductive ipI(f:Int->Int->Int)(x:V)(y:V)(H:Hp)(Q:VK):Prop
 |mk i j:x=.int i->y=.int j->Q (.int (f i j)) H->ipI f x y H Q
theorem nP:PIp X .Add (ipI λi j=>i+j):=by
 intro Gn s σ H x y v u Q I r1 r2 h;obtain⟨i,j,e1,e2,q⟩:=h;subst e1;subst e2;obtain⟨t,rfl⟩:=r1;obtain⟨t',rfl⟩:=r2;exact iadd_int ⟨.int _,H,I.tok _,⟨_,rfl⟩,q⟩
theorem uT:PIp X .Sub (ipI λi j=>i-j):=by
 intro Gn s σ H x y v u Q I r1 r2 h;obtain⟨i,j,e1,e2,q⟩:=h;subst e1;subst e2;obtain⟨t,rfl⟩:=r1;obtain⟨t',rfl⟩:=r2;exact isub_int ⟨.int _,H,I.tok _,⟨_,rfl⟩,q⟩
end
structure It where
 go:Nat->Hp->Prop
 yld:Nat->Hp->V->Hp->Prop
 stop:Nat->Hp->Prop
def ce(X:Cx)(Gn:KW (KP×Obj))(H:Hp)(b:KP):Prop:=
 H b=none/\b≠X.env.locals/\b∉X.fs/\(b∈X.ex\/X.s₀.heap.objs.size<=b)/\(∀x c,X.env.cells.lookup x=some c->c≠b)/\∀p∈X.pn++Gn,p.1≠b
theorem Inv.fpOk{σ:St}{H':Hp}(I:Inv X Gn σ H s)(hb:s.heap.objs.size<=b)(hn:H' b=none):ce X Gn H' b:=by
 refine⟨hn,BZ (AS I.lt hb),I.nofs hb,.inr (Am I.sz hb),λx c e z=>?_,λp hp z=>?_⟩
 .obtain⟨v,q⟩:=I.cell x c e;exact absurd (AS q.lt (by rw[z];exact hb)) (Bi _)
 .exact absurd (AS (AD (I.pin p hp).1) (by rw[z];exact hb)) (Bi _)
structure Turn(P:KQ)(w:KS)(K:W.Frag)(tg:KY)(J:It)(fp:KW KP)(it:KP)(tn:Nat->KZ->Prop):Prop where
 mem:it∈fp
 obj:∀i h,tn i h->∀b∈fp,∃o,h.get? b=some o/\∀v,o.data≠ .cell v
 keep:∀i h h',tn i h->(∀b∈fp,∀o,h.get? b=some o->h'.get? b=some o)->tn i h'
 item:∀(X:Cx),X.prog=P->X.w=w->X.K=K->X.calm=true->∀(i:Nat) (Gn:List (Addr×Obj)) (s:Shared) (σ:St) (H:Hp) (E:Value->Shared->Prop),Inv X Gn σ H s->(∀b∈fp,ce X Gn H b)->tn i s.heap->J.go i H->
  wpAny (model P w) X.A (pyNext (.ref it)) (λr s1=>∃u,r=some u/\
   wpAny (model P w) X.A (letOwnedTupleGo tg (.ref it) u) (λ_ s2=>∃x H',Inv X Gn σ H' s2/\ar x u/\J.yld i H x H'/\tn (i+1) s2.heap/\∀b∈fp,H' b=none) E s1) E s
 done:∀(X:Cx),X.prog=P->X.w=w->X.K=K->X.calm=true->∀(i:Nat) (Gn:List (Addr×Obj)) (s:Shared) (σ:St) (H:Hp) (E:Value->Shared->Prop),Inv X Gn σ H s->(∀b∈fp,ce X Gn H b)->tn i s.heap->J.stop i H->
  wpAny (model P w) X.A (pyNext (.ref it)) (λr s1=>r=none/\Inv X Gn σ H s1) E s
 self:∀(A:Around) (i:Nat) (s:Shared) (Q:Value->Shared->Prop) (E:Value->Shared->Prop),tn i s.heap->Q (.ref it) s->wpAny (model P w) A (pyIter (.ref it)) Q E s
abbrev TI:=St->Hp->(It->Hp->Prop)->Prop
def PIE(X:Cx)(Gn:KW (KP×Obj))(σ:St)(tg:KY)(R:It->Hp->Prop)(itv:KN)(s2:KO):Prop:=
 ∃(it:KP) (fp:KW KP) (tn:Nat->KZ->Prop) (J:It) (H':Hp),itv=.ref it/\Inv X Gn σ H' s2/\Turn X.prog X.w X.K tg J fp it tn/\tn 0 s2.heap/\(∀b∈fp,ce X Gn H' b)/\R J H'
def PI(X:Cx)(tg aB:KY)(wi:TI):Prop:=
 ∀(Gn:KW (KP×Obj)) (s:KO) (σ:St) (H:Hp) (R:It->Hp->Prop),Inv X Gn σ H s->wi σ H R->
  wpAny (model X.prog X.w) X.A (eval aB X.env) (λv s1=>wpAny (model X.prog X.w) X.A (pyIter v) (PIE X Gn σ tg R) X.xe s1) X.xe s
theorem go_of{E : KN -> KO -> Prop}{n : String}{vs : Array KN}{Q : Unit -> KO -> Prop}(ho : s.heap.get? it = some o)(hc : o.cls = .type n)(hd : o.data = .fields vs)
    (hn : ["enumerate", "zip", "dict_itemiterator", "dict_reverseitemiterator", "odict_iterator", "itertools.zip_longest", "itertools.pairwise"].contains n = false) (hQ : Q () s) : wpAny M A (letOwnedTupleGo tg (.ref it) u) Q E s := by
  unfold letOwnedTupleGo;cases tg <;> first
    |exact A2 hQ
    | (cases u <;> first
        |exact A2 hQ
        | (refine A0 (wpAny_load ho ?_)
           rw[hc, hd];show wpAny M A (if (["enumerate", "zip", "dict_itemiterator", "dict_reverseitemiterator", "odict_iterator", "itertools.zip_longest", "itertools.pairwise"].contains n && vs[0]? == some (rawInt _)) = true then _ else _) Q E s;rw[A6 (by intro h; rw[hn, Bool.false_and] at h; cases h)];exact A2 hQ))
def Itl(K:W.Frag)(a:KP):It:=
 ⟨λi H=>∃xs x,SqL K H a xs/\xs[i]? =some x,λi H x H'=>H'=H/\∀xs,SqL K H a xs->xs[i]? =some x,λi H=>∃xs,SqL K H a xs/\xs.length<=i⟩
def Itr(lo:Int)(n:Nat):It:=⟨λi _=>i<n,λi H x H'=>H'=H/\x=.int (lo+i),λi _=>n<=i⟩
theorem uU(a it:KP):Turn P w K tg (Itl K a) [it] it (λi h=>h.IsListIter it a i) where
 mem:=by simp
 obj:=λi h st b hb=>by
  have e:b=it:=by simpa using hb
  subst e;obtain⟨o,e,c,d⟩:=st;exact⟨o,e,λv z=>by rw[d] at z;cases z⟩
 keep:=λi h h' st k=>st.at λo e=>k it (by simp) o e
 item:=by
  intro X hP hw hK hc i Gn s σ H E I hf st hg;subst hP hw hK;obtain⟨xs,x,hq,hx⟩:=hg;obtain⟨Gq,rv,p,hz⟩:=I.list hq;obtain⟨u,hu,ru⟩:=rv.get hx;obtain⟨f0,f1,f2,f3,f4,f5⟩:=hf it (by simp);refine wpAny_pyNext_list_item st p.isList (x:=u) (by simpa using hu) λh' GP sb=>?_;have I1:Inv X Gn σ H {s with heap:=h'}:=I.turned (t':=s.toks) (λb o hb e=>(sb.2 b hb).trans e) f0 f1 f3 f4 f5;obtain⟨o,e,c,d⟩:=id GP;exact⟨u,rfl,go_of (s:={s with heap:=h'}) e c d (by decide) ⟨x,H,I1,ru,⟨rfl,λys hy=>by rw[I.list_inj hy hq];exact hx⟩,GP,λb hb=>(hf b hb).1⟩⟩
 done:=by
  intro X hP hw hK hc i Gn s σ H E I hf st hg;subst hP hw hK;obtain⟨xs,hq,hx⟩:=hg;obtain⟨Gq,rv,p,hz⟩:=I.list hq;obtain⟨f0,f1,f2,f3,f4,f5⟩:=hf it (by simp);have hl:=rv.length;exact wpAny_pyNext_list_end (I.ok.hd hc) st p.isList (by simp;lia) λh' eb=>⟨rfl,I.turned (t':=s.toks) (λb o hb e=>eb b o hb e) f0 f1 f3 f4 f5⟩
 self:=λ_ _ _ _ _ st h=>wpAny_pyIter_listiter st h
theorem uV(it:KP)(lo:Int)(n:Nat):Turn P w K tg (Itr lo n) [it] it (λi h=>IsRangeIter h it (lo+(i:Nat)*1) ((n:Int)-(i:Nat)) 1) where
 mem:=by simp
 obj:=λi h st b hb=>by
  have e:b=it:=by simpa using hb
  subst e;exact⟨_,st,λv z=>by
   have z':Data.fields _=Data.cell v:=z;cases z'⟩
 keep:=λi h h' st k=>k it (by simp) _ st
 item:=by
  intro X hP hw hK hc i Gn s σ H E I hf st hg;subst hP hw hK;obtain⟨f0,f1,f2,f3,f4,f5⟩:=hf it (by simp);have Wq:=Walks.range (prog:=X.prog) (w:=X.w) (I.ok.hd hc) it lo 1 n;refine Wq.item i s _ _ hg st λv h' tk hv GP kk=>?_;obtain⟨t,rfl⟩:=hv;have I1:Inv X Gn σ H {s with heap:=h',toks:=tk}:=I.turned (λb o hb e=>kk b o (by simpa using hb) e) f0 f1 f3 f4 f5;refine⟨_,rfl,go_of (s:={s with heap:=h',toks:=tk}) (n:="range_iterator") GP rfl rfl (by decide) ⟨.int (lo+i),H,I1,⟨t,?_⟩,⟨rfl,rfl⟩,GP,λb hb=>(hf b hb).1⟩⟩;rw[Int.mul_one]
 done:=by
  intro X hP hw hK hc i Gn s σ H E I hf st hg;subst hP hw hK;obtain⟨f0,f1,f2,f3,f4,f5⟩:=hf it (by simp);exact wpAny_pyNext_range_end (I.ok.hd hc) st (by have:n<=i:=hg;lia) λh' eb=>⟨rfl,I.turned (t':=s.toks) (λb o hb e=>eb b o hb e) f0 f1 f3 f4 f5⟩
 self:=λ_ _ _ _ _ st h=>wpAny_pyIter_rangeiter st h
section
variable{X:Cx}{tg:KY}
inductive iList_(K:W.Frag)(R:(It->Hp->Prop))(x:V)(H1:Hp):Prop
 |mk a:x=.ref a->((∃xs,SqL K H1 a xs))->R (Itl K a) H1->iList_ K R x H1
def uW(K:W.Frag)(tl:TE):TI:=λσ H R=>tl σ H λx H1=>iList_ K R x H1
theorem cq{l:KY}{tl:TE}(hl:PE X l tl):PI X tg l (uW X.K tl):=by
 intro Gn s σ H R I h;refine thn (hl Gn s σ H _ I h) λv s1 zu22=>?_;obtain⟨x,H1,I1,r1,q1⟩:=zu22;obtain⟨a,e,⟨xs,hq⟩,q⟩:=q1;subst e;cases r1;obtain⟨Gq,rv,p,hz⟩:=I1.list hq;refine Cw p.isList ?_;refine⟨s1.heap.objs.size,[s1.heap.objs.size],_,_,H1,rfl,I1.kept (t':=s1.toks) λb o e=>A4 _ e,uU a _,⟨_,AC _ rfl,rfl,rfl⟩,λb hb=>?_,q⟩;have e:b=s1.heap.objs.size:=by simpa using hb
 subst e;exact I1.fpOk (A8 _) (I1.hok.fresh (A8 _))
theorem nQ{σ:St}{R:It->Hp->Prop}{hi:Int}{t u v:Tok}{tk:Nat}(I:Inv X Gn σ H s)(h1: -(2^62)<=lo)(h2:lo<2^62)(h3: -(2^62)<=hi)(h4:hi<2^62)
  (q:R (Itr lo (hi-lo).toNat) H):wpAny (model X.prog X.w) X.A (pyIter (.ref s.heap.objs.size)) (PIE X Gn σ tg R) E {s with heap:=s.heap.push {cls:= .type "range",data:= .fields #[.int lo t,.int hi u,.int 1 v]},toks:=tk}:=by
 refine wpAny_pyIter_range (IsRange.new ..) (small_one h1 h2 h3 h4) ?_;have I1:Inv X Gn σ H {s with heap:=s.heap.push {cls:= .type "range",data:= .fields #[.int lo t,.int hi u,.int 1 v]},toks:=tk}:=I.kept λb o e=>A4 _ e;refine⟨(s.heap.push {cls:= .type "range",data:= .fields #[.int lo t,.int hi u,.int 1 v]}).objs.size,[(s.heap.push {cls:= .type "range",data:= .fields #[.int lo t,.int hi u,.int 1 v]}).objs.size],_,_,H,rfl,
  I1.kept (t':=tk) λb o e=>A4 _ e,uV _ lo (hi-lo).toNat,?_,λb hb=>?_,q⟩
 .have e1:lo+((0:Nat):Int)*1=lo:=by simp
  have e2:(((hi-lo).toNat:Nat):Int)-((0:Nat):Int)=Builtin.Range.rangeSize lo hi 1:=by rw[rangeSize_one];split<;>lia
  show IsRangeIter _ _ (lo+((0:Nat):Int)*1) ((((hi-lo).toNat:Nat):Int)-((0:Nat):Int)) 1;rw[e1,e2];exact AC _ rfl
 .have e:b=(s.heap.push {cls:= .type "range",data:= .fields #[.int lo t,.int hi u,.int 1 v]}).objs.size:=by simpa using hb
  subst e;exact I1.fpOk (A8 _) (I1.hok.fresh (A8 _))
inductive iRng1_(R:(It->Hp->Prop))(vs:List V)(H1:Hp):Prop
 |mk (j:Int):vs=[.int j]->-(2^62)<=j->j<2^62->R (Itr 0 j.toNat) H1->iRng1_ R vs H1
def uX(ta:TA):TI:=λσ H R=>ta σ H λvs H1=>iRng1_ R vs H1
inductive iRng2_(R:(It->Hp->Prop))(vs:List V)(H1:Hp):Prop
 |mk (i j:Int):vs=[.int i,.int j]->(-(2^62)<=i/\i<2^62/\-(2^62)<=j/\j<2^62)->R (Itr i (j-i).toNat) H1->iRng2_ R vs H1
def uY(ta:TA):TI:=λσ H R=>ta σ H λvs H1=>iRng2_ R vs H1
theorem fW{a:KY}{p pos:Pos}(hg:Gl X "range")(hm:X.mg "range"=none)(ha:PA X [a] ta)(hs:starEach [a] X.env=[(false,eval a X.env)]:=by rfl):PI X tg (.Call (.Name "range" p) [a] [] pos) (uX ta):=by
 intro Gn s σ H R I h;refine Call_ (dw I hg hm boot_range (BP (thn (ha pos Gn s σ H _ I h) λus s1 zu23=>?_) hs rfl));obtain⟨vs,H1,I1,r1,q1⟩:=zu23;obtain⟨j,e,q1,q2,q⟩:=q1;subst e;cases r1 with
 |cons r rr=>
  cases rr;obtain⟨t,rfl⟩:=r;exact call_range_1 (nQ I1 (by lia) (by lia) q1 q2 (by simpa using q))
theorem gP{a b:KY}{p pos:Pos}(hg:Gl X "range")(hm:X.mg "range"=none)(ha:PA X [a,b] ta)(hs:starEach [a,b] X.env=[(false,eval a X.env),(false,eval b X.env)]:=by rfl)(hs2:starEach [b] X.env=[(false,eval b X.env)]:=by rfl):
  PI X tg (.Call (.Name "range" p) [a,b] [] pos) (uY ta):=by
 intro Gn s σ H R I h;refine Call_ (dw I hg hm boot_range (BP (thn (ha pos Gn s σ H _ I h) λus s1 ⟨vs,H1,I1,r1,q1⟩=>?_) (by rw[hs,hs2]) (by rw[hs2];rfl)));obtain⟨i,j,e,⟨q1,q2,q3,q4⟩,q⟩:=q1;subst e;cases r1 with
 |cons r rr=>
  cases rr with
  |cons r' rr=>
   cases rr;obtain⟨t,rfl⟩:=r;obtain⟨t',rfl⟩:=r';exact call_range_2 (nQ I1 q1 q2 q3 q4 q)
def uZ(wi:TI)(g:TG)(tb:TS):TS:=λD σ H=>wi σ H λJ H1=>∃Wq:Nat->Nat->St->Hp->Prop,(∃m,Wq 0 m σ H1)/\∀i m σ H,Wq i m σ H->
 (J.stop i H/\D.nx σ H)\/(J.go i H/\∃N:St->Hp->Prop,(∀σ' H',N σ' H'->∃m',m'<m/\Wq (i+1) m' σ' H')/\∀x H',J.yld i H x H'->g x σ H' λσ2 H2=>tb (eLp D (N)) σ2 H2)
def fX(fp:KW KP)(h:KZ):KW (KP×Obj):=fp.filterMap λb=>(h.get? b).map λo=>(b,o)
theorem fY(hb:b∈fp)(e:h.get? b=some o):(b,o)∈fX fp h:=Ca.mpr ⟨b,hb,by rw[e];rfl⟩
theorem u7{p:KP×Obj}(hp:p∈fX fp h):p.1∈fp/\h.get? p.1=some p.2:=by
 obtain⟨b,hb,e⟩:=Ca.mp hp;cases q:h.get? b with
 |none=>rw[q] at e;cases e
 |some o=>
  rw[q] at e;have e':(b,o)=p:=AL e;subst e';exact⟨hb,q⟩
theorem Inv.pinned{σ:St}(I:Inv X Gn σ H s)(hf:∀b∈fp,ce X Gn H b)(ho:∀b∈fp,∃o,s.heap.get? b=some o/\∀v,o.data≠ .cell v):Inv X (Gn++fX fp s.heap) σ H s:=
 I.pins_of λp hp=>(Br.mp hp).elim (λz=>I.pin p (AQ _ z)) λz=>by
  obtain⟨hb,e⟩:=u7 z;obtain⟨f0,f1,f2,_⟩:=hf p.1 hb;obtain⟨o,e',d⟩:=ho p.1 hb;rw[e] at e';cases e';exact⟨e,f0,f1,f2,d⟩
def Inv.unpinned{pl:KW (KP×Obj)}{σ:St}(I:Inv X (Gn++pl) σ H s):Inv X Gn σ H s:=I.pins_of λp hp=>I.pin p (AQ _ (BO _ hp))
theorem bz{aB:KY}{wi:TI}{pos:Pos}(hp:PassesOwn (model X.prog X.w) X.A X.env X.xe)(hc:X.calm=true)(hi:PI X tg aB wi)(hg:PG X tg g)(hb:PSs X body tb)
  (hs:∀x,foldedSetIterable aB X.env x=pure x:=by intro _;rfl):PS X (.For tg aB body [] pos) (uZ wi g tb):=by
 intro Gn s σ H D I h;refine wpAny_For (thn (hi Gn s σ H _ I h) λv s1 h1=>thn h1 λitv s2 h2=>?_) hs;obtain⟨it,fp,tn,J,H2,e,I2,T,Kc,f2,Wq,⟨m0,w0⟩,turn⟩:=h2;subst e;have G8:∀{H':Hp},(∀b∈fp,H' b=none)->∀b∈fp,ce X Gn H' b:=λhn b hb=>⟨hn b hb,(f2 b hb).2⟩;refine codeAny_forLoop_any (λn s'=>∃i σ' H',Inv X Gn σ' H' s'/\tn i s'.heap/\(∀b∈fp,H' b=none)/\Wq i n σ' H') ?_ m0 ⟨0,σ,H2,I2,Kc,λb hb=>(f2 b hb).1,w0⟩;rintro n s3 ⟨i,σ3,H3,I3,JM,JN,w3⟩;rcases turn i n σ3 H3 w3 with⟨stop,qn⟩|⟨go,N,hN,step⟩
 .refine DA hp (thn (T.done X rfl rfl rfl hc i Gn s3 σ3 H3 X.xe I3 (G8 JN) JM stop) λr s4 zu24=>?_);obtain⟨hr,I4⟩:=zu24;subst hr;exact DB ⟨σ3,H3,I4,qn⟩
 .refine DA hp (thn (T.item X rfl rfl rfl hc i Gn s3 σ3 H3 X.xe I3 (G8 JN) JM go) λr s4 zu25=>?_);obtain⟨u,hr,h4⟩:=zu25;subst hr;refine DA hp (thn h4 λ_ s5 zu26=>?_);obtain⟨x,H5,I5,r5,y5,st5,fr5⟩:=zu26;have I5':=I5.pinned (G8 fr5) (T.obj _ _ st5);refine DA hp (thn (hg _ s5 σ3 H5 x u _ I5' r5 (step x H5 y5)) λ_ s6 zu27=>?_);obtain⟨σ6,H6,I6,q6⟩:=zu27;refine DA hp (thn (hb _ s6 σ6 H6 _ I6 q6) λf s7 q7=>?_);have again:∀{σ7:St}{H7:Hp},Inv X (Gn++fX fp s5.heap) σ7 H7 s7->N σ7 H7->∃m,m<n/\∃i σ' H',Inv X Gn σ' H' s7/\tn i s7.heap/\(∀b∈fp,H' b=none)/\Wq i m σ' H':=fun{σ7 H7} I7 n7=>by
   obtain⟨m',hm,w7⟩:=hN σ7 H7 n7;refine⟨m',hm,i+1,σ7,H7,I7.unpinned,T.keep _ _ _ st5 λb hb o e=>(I7.pin (b,o) (AQ _ (AQ _ (fY hb e)))).1,λb hb=>?_,w7⟩;obtain⟨o,e,d⟩:=T.obj _ _ st5 b hb;exact(I7.pin (b,o) (AQ _ (AQ _ (fY hb e)))).2.1
  cases f with
  |next=>obtain⟨σ7,H7,I7,n7⟩:=q7;exact again I7 n7
  |cont=>obtain⟨σ7,H7,I7,n7⟩:=q7;exact again I7 n7
  |brk=>obtain⟨σ7,H7,I7,q7⟩:=q7;exact⟨σ7,H7,I7.unpinned,q7⟩
  |ret v=>obtain⟨x7,σ7,H7,I7,r7,q7⟩:=q7;exact⟨x7,σ7,H7,I7.unpinned,r7,q7⟩
end
theorem dz{D:Ends}{σ:St}(Pv:Nat->St->Hp->Prop)(h0:Pv 0 σ H)(hl:∀i σ H,i<=xs.length->Pv i σ H->SqL K H a xs)
  (hs:∀i x σ H,xs[i]? =some x->Pv i σ H->g x σ H λσ2 H2=>tb (eLp D (Pv (i+1))) σ2 H2) (hd:∀σ H,Pv xs.length σ H->D.nx σ H):
  ∃Wq:Nat->Nat->St->Hp->Prop,(∃m,Wq 0 m σ H)/\∀i m σ H,Wq i m σ H->
   ((Itl K a).stop i H/\D.nx σ H)\/((Itl K a).go i H/\∃N:St->Hp->Prop,(∀σ' H',N σ' H'->∃m',m'<m/\Wq (i+1) m' σ' H')/\∀x H',(Itl K a).yld i H x H'->g x σ H' λσ2 H2=>tb (eLp D (N)) σ2 H2):=by
 refine⟨λi m σ H=>m=xs.length-i/\i<=xs.length/\Pv i σ H,⟨xs.length,by simp,AR _,h0⟩,?_⟩;rintro i m σ H ⟨rfl,hi,p⟩;have q:=hl i σ H hi p;by_cases Gx:i<xs.length
 .refine .inr ⟨⟨xs,xs[i],q,by simp[Gx]⟩,Pv (i+1),λσ' H' p'=>⟨xs.length-(i+1),by lia,rfl,Gx,p'⟩,λx H' y=>?_⟩;obtain⟨e,y⟩:=y;subst e;exact hs i x σ _ (y xs q) p
 .have e:i=xs.length:=by lia
  subst e;exact .inl ⟨⟨xs,q,A8 _⟩,hd σ H p⟩
theorem dg{D:Ends}{σ:St}(Pv:Nat->St->Hp->Prop)(h0:Pv 0 σ H)
  (hs:∀i σ H,i<n->Pv i σ H->g (.int (lo+i)) σ H λσ2 H2=>tb (eLp D (Pv (i+1))) σ2 H2) (hd:∀σ H,Pv n σ H->D.nx σ H):
  ∃Wq:Nat->Nat->St->Hp->Prop,(∃m,Wq 0 m σ H)/\∀i m σ H,Wq i m σ H->
   ((Itr lo n).stop i H/\D.nx σ H)\/((Itr lo n).go i H/\∃N:St->Hp->Prop,(∀σ' H',N σ' H'->∃m',m'<m/\Wq (i+1) m' σ' H')/\∀x H',(Itr lo n).yld i H x H'->g x σ H' λσ2 H2=>tb (eLp D (N)) σ2 H2):=by
 refine⟨λi m σ H=>m=n-i/\i<=n/\Pv i σ H,⟨n,by simp,AR _,h0⟩,?_⟩;rintro i m σ H ⟨rfl,hi,p⟩;by_cases Gx:i<n
 .refine .inr ⟨Gx,Pv (i+1),λσ' H' p'=>⟨n-(i+1),by lia,rfl,Gx,p'⟩,λx H' y=>?_⟩;obtain⟨e,y⟩:=y;subst e y;exact hs i σ _ Gx p
 .have e:i=n:=by lia
  subst e;exact .inl ⟨A8 _,hd σ H p⟩
abbrev R2:=V->V->Hp->VK->Prop
variable{r:R2}
def OpR(X:Cx)(f:KN->KN->Sem KN)(r:R2):Prop:=
 ∀(Gn:KW (KP×Obj)) (s:KO) (σ:St) (H:Hp) (x y:V) (v u:KN) (Q:VK),Inv X Gn σ H s->ar x v->ar y u->r x y H Q->
  wpAny (model X.prog X.w) X.A (f v u) (EP X Gn σ Q) X.xe s
def UnR(X:Cx)(f:KN->Sem KN)(r:V->Hp->VK->Prop):Prop:=
 ∀(Gn:KW (KP×Obj)) (s:KO) (σ:St) (H:Hp) (x:V) (v:KN) (Q:VK),Inv X Gn σ H s->ar x v->r x H Q->
  wpAny (model X.prog X.w) X.A (f v) (EP X Gn σ Q) X.xe s
def bB(X:Cx)(f:KN)(r:KW V->Hp->VK->Prop):Prop:=
 ∀(Gn:KW (KP×Obj)) (s:KO) (σ:St) (H:Hp) (xs:KW V) (us:KW KN) (Q:VK),Inv X Gn σ H s->ao xs us->r xs H Q->
  wpAny (model X.prog X.w) X.A (call f us) (EP X Gn σ Q) X.xe s
def tOp(r:R2)(ta tb:TE):TE:=λσ H Q=>ta σ H λx H1=>tb σ H1 λy H2=>r x y H2 Q
def tUn(r:V->Hp->VK->Prop)(ta:TE):TE:=λσ H Q=>ta σ H λx H1=>r x H1 Q
inductive rI(C:Int->Int->Prop)(g:Int->Int->V)(x:V)(y:V)(H:Hp)(Q:VK):Prop
 |mk i j:x=.int i->y=.int j->C i j->Q (g i j) H->rI C g x y H Q
inductive rI0(g:Int->Int->V)(x:V)(y:V)(H:Hp)(Q:VK):Prop
 |mk i j:x=.int i->y=.int j->Q (g i j) H->rI0 g x y H Q
inductive rU(g:Int->V)(x:V)(H:Hp)(Q:VK):Prop
 |mk i:x=.int i->Q (g i) H->rU g x H Q
section
variable{X:Cx}{a b c:KY}{ta tb tc:TE}{pos:Pos}
theorem k7(ha:PE X a ta)(hb:PE X b tb){σ:St}{R:V->V->Hp->Prop}(I:Inv X Gn σ H s)
  (h:ta σ H λx H1=>tb σ H1 λy H2=>R x y H2) {f:KN->KN->Sem KN}
  (hf:∀v u s2 x y H2,Inv X Gn σ H2 s2->ar x v->ar y u->R x y H2->wpAny (model X.prog X.w) X.A (f v u) Q X.xe s2):
  wpAny (model X.prog X.w) X.A (eval a X.env) (λv s₁=>wpAny (model X.prog X.w) X.A (eval b X.env) (λu s₂=>wpAny (model X.prog X.w) X.A (f v u) Q X.xe s₂) X.xe s₁) X.xe s:=by
 refine thn (ha Gn s σ H _ I h) λv s1 zu28=>?_;obtain⟨x,H1,I1,r1,q1⟩:=zu28;refine thn (hb Gn s1 σ H1 _ I1 q1) λu s2 zu29=>?_;obtain⟨y,H2,I2,r2,q2⟩:=zu29;exact hf v u s2 x y H2 I2 r1 r2 q2
theorem aj{op:Operator}(ho:OpR X (binaryOp op) r)(ha:PE X a ta)(hb:PE X b tb):PE X (.BinOp a op b pos) (tOp r ta tb):=by
 intro Gn s σ H Q I h;exact wpAny_BinOp (k7 ha hb I h λv u s2 x y H2 I2 rx ry q=>ho Gn s2 σ H2 x y v u Q I2 rx ry q)
theorem nR{op:UnaryOp}{r:V->Hp->VK->Prop}(ho:UnR X (unaryOp op) r)(ha:PE X a ta):PE X (.UnaryOp op a pos) (tUn r ta):=by
 intro Gn s σ H Q I h;exact UnaryOp_ (thn (ha Gn s σ H _ I h) λv s1 GB=>by obtain⟨x,H1,I1,r1,q1⟩:=GB;exact ho Gn s1 σ H1 x v Q I1 r1 q1)
theorem opI{f:KN->KN->Sem KN}{C:Int->Int->Prop}{g:Int->Int->Int}
  (rule:∀(i j:Int) (t u:Tok) (s:KO) (Q:KN->KO->Prop) (E:KN->KO->Prop),C i j->Q (.int (g i j) s.toks) {s with toks:=s.toks+1}->wpAny (model X.prog X.w) X.A (f (.int i t) (.int j u)) Q E s):
  OpR X f (rI C λi j=>.int (g i j)):=by
 intro Gn s σ H x y v u Q I rx ry h;obtain⟨i,j,rfl,rfl,hc,q⟩:=h;obtain⟨t,rfl⟩:=rx;obtain⟨t',rfl⟩:=ry;exact rule i j t t' s _ _ hc ⟨.int (g i j),H,I.tok _,⟨_,rfl⟩,q⟩
theorem nT{f:KN->KN->Sem KN}{g:Int->Int->Int}
  (rule:∀(i j:Int) (t u:Tok) (s:KO) (Q:KN->KO->Prop) (E:KN->KO->Prop),Q (.int (g i j) s.toks) {s with toks:=s.toks+1}->wpAny (model X.prog X.w) X.A (f (.int i t) (.int j u)) Q E s):
  OpR X f (rI0 λi j=>.int (g i j)):=by
 intro Gn s σ H x y v u Q I rx ry h;obtain⟨i,j,rfl,rfl,q⟩:=h;obtain⟨t,rfl⟩:=rx;obtain⟨t',rfl⟩:=ry;exact rule i j t t' s _ _ ⟨.int (g i j),H,I.tok _,⟨_,rfl⟩,q⟩
theorem iD{f:KN->KN->Sem KN}{g:Int->Int->Bool}
  (rule:∀(i j:Int) (t u:Tok) (s:KO) (Q:KN->KO->Prop) (E:KN->KO->Prop),Q (.bool (g i j)) s->wpAny (model X.prog X.w) X.A (f (.int i t) (.int j u)) Q E s):
  OpR X f (rI0 λi j=>.bl (g i j)):=by
 intro Gn s σ H x y v u Q I rx ry h;obtain⟨i,j,rfl,rfl,q⟩:=h;obtain⟨t,rfl⟩:=rx;obtain⟨t',rfl⟩:=ry;exact rule i j t t' s _ _ ⟨.bl (g i j),H,I,rfl,q⟩
def u8(i j:Int):Prop:=0<j/\j<1073741824
def u9(i j:Int):Prop:=0<=j/\j<=1000000/\i.natAbs<2^64
def iE(i j:Int):Prop:=(-(2^64)<i/\i<2^64)\/(-(2^64)<j/\j<2^64)
theorem iE.ok{i j:Int}(h:iE i j):IntMulOk i j:=by
 rcases h with⟨h1,h2⟩|⟨h1,h2⟩
 .exact .of_left (intBits_le_64 h1 h2)
 .exact .of_right (intBits_le_64 h1 h2)
def aV:OpR X (binaryOp .Add) (rI0 λi j=>.int (i+j)):=nT λ_ _ _ _ _ _ _ q=>add_int q
def bf:OpR X (binaryOp .Sub) (rI0 λi j=>.int (i-j)):=nT λ_ _ _ _ _ _ _ q=>sub_int q
def br:OpR X (binaryOp .Mult) (rI iE λi j=>.int (i*j)):=opI λ_ _ _ _ _ _ _ hc q=>mul_int q hc.ok
theorem k8:OpR X (binaryOp .FloorDiv) (rI u8 λi j=>.int (i/j)):=opI λi j _ _ _ _ _ hc q=>by
 have h1:(0:Int)<j:=hc.1;have h2:j<1073741824:=hc.2;exact floordiv_int (by lia) (by rw[Int.fdiv_eq_ediv_of_nonneg i (by lia)];exact q) (.inl (PyProof.noPylong_small (by lia)))
theorem gQ:OpR X (binaryOp .Mod) (rI (λ_ j=>0<j) λi j=>.int (i%j)):=opI λi j _ _ _ _ _ hc q=>by
 have h1:(0:Int)<j:=hc;exact mod_int' (by lia) (by rw[Int.fmod_eq_emod_of_nonneg i (by lia)];exact q)
def gR:OpR X (binaryOp .Pow) (rI u9 λi j=>.int (i^j.toNat)):=opI λ_ _ _ _ _ _ _ hc q=>pow_int_small hc.1 hc.2.1 hc.2.2 q
theorem unI{f:KN->Sem KN}{g:Int->Int}
  (rule:∀(i:Int) (t:Tok) (s:KO) (Q:KN->KO->Prop) (E:KN->KO->Prop),Q (.int (g i) s.toks) {s with toks:=s.toks+1}->wpAny (model X.prog X.w) X.A (f (.int i t)) Q E s):
  UnR X f (rU λi=>.int (g i)):=by
 intro Gn s σ H x v Q I rx h;obtain⟨i,rfl,q⟩:=h;obtain⟨t,rfl⟩:=rx;exact rule i t s _ _ ⟨.int (g i),H,I.tok _,⟨_,rfl⟩,q⟩
def nU:UnR X (unaryOp .USub) (rU λi=>.int (-i)):=unI λ_ _ _ _ _ q=>neg_int q
end
def nV:V->V->Bool
 |.non,.non=>true|.non,.int _=>true|.int _,.non=>true|.non,.bl _=>true|.bl _,.non=>true|.non,.str _=>true|.str _,.non=>true
 |.int _,.int _=>true|.bl _,.bl _=>true|.str _,.str _=>true|.byt _,.byt _=>true
 |.int _,.str _=>true|.str _,.int _=>true|.bl _,.str _=>true|.str _,.bl _=>true
 |_,_=>false
def rEq:R2:=λx y H Q=>nV x y=true/\Q (.bl (decide (x=y))) H
def rNe:R2:=λx y H Q=>nV x y=true/\Q (.bl (!decide (x=y))) H
theorem nW{i j:Int}:decide (V.int i=V.int j)=(i==j):=by
 rw[D1];simp
theorem nX{i j:Bool}:decide (V.bl i=V.bl j)=(i==j):=by
 rw[D1];simp
theorem nY{i j:Str}:decide (V.str i=V.str j)=(i==j):=by
 rw[D1];simp
theorem nZ{i j:Array UInt8}:decide (V.byt i=V.byt j)=(i.toList==j.toList):=by
 rw[D1];cases i;cases j;simp
section
variable{X:Cx}{a b c:KY}{ta tb tc:TE}{pos:Pos}
theorem aR{σ:St}{Q:VK}{k k':Bool}(I:Inv X Gn σ H s)(q:Q (.bl k) H)(e:k=k'):EP X Gn σ Q (.bool k') s:=by
 subst e;exact⟨.bl k,H,I,rfl,q⟩
theorem aI:OpR X (compareOp .Eq) rEq:=by
 intro Gn s σ H x y v u Q I rx ry h;obtain⟨hs,q⟩:=h;cases x with
 |non=>
  cases rx;cases y with
  |non=>cases ry;exact PySem.EqNone.eq_none_none (aR I q (by simp))
  |bl j=>cases ry;exact PySem.EqNone.eq_none_bool (aR I q (by simp))
  |int j=>obtain⟨t',rfl⟩:=ry;exact PySem.EqNone.eq_none_int (aR I q (by simp))
  |str j=>obtain⟨t',rfl⟩:=ry;exact PySem.EqNone.eq_none_str (aR I q (by simp))
  |_=>exact absurd (show false=true from hs) AT
 |bl i=>
  cases rx;cases y with
  |non=>cases ry;exact PySem.EqNone.eq_bool_none (aR I q (by simp))
  |bl j=>cases ry;exact eq_bool (aR I q nX)
  |str j=>obtain⟨t',rfl⟩:=ry;exact PySem.EqMixed.eq_bool_str (aR I q (by simp))
  |_=>exact absurd (show false=true from hs) AT
 |int i=>
  obtain⟨t,rfl⟩:=rx;cases y with
  |non=>cases ry;exact PySem.EqNone.eq_int_none (aR I q (by simp))
  |int j=>obtain⟨t',rfl⟩:=ry;exact eq_int (aR I q nW)
  |str j=>obtain⟨t',rfl⟩:=ry;exact PySem.EqMixed.eq_int_str (aR I q (by simp))
  |_=>exact absurd (show false=true from hs) AT
 |str i=>
  obtain⟨t,rfl⟩:=rx;cases y with
  |non=>cases ry;exact PySem.EqNone.eq_str_none (aR I q (by simp))
  |bl j=>cases ry;exact PySem.EqMixed.eq_str_bool (aR I q (by simp))
  |int j=>obtain⟨t',rfl⟩:=ry;exact PySem.EqMixed.eq_str_int (aR I q (by simp))
  |str j=>obtain⟨t',rfl⟩:=ry;exact eq_str (aR I q nY)
  |_=>exact absurd (show false=true from hs) AT
 |byt i=>
  obtain⟨t,rfl⟩:=rx;cases y with
  |byt j=>obtain⟨t',rfl⟩:=ry;exact W.eq_bytes (aR I q nZ)
  |_=>exact absurd (show false=true from hs) AT
 |_=>cases y<;>exact absurd (show false=true from hs) AT
theorem ff:OpR X (compareOp .NotEq) rNe:=by
 intro Gn s σ H x y v u Q I rx ry h;obtain⟨hs,q⟩:=h;cases x with
 |non=>
  cases rx;cases y with
  |non=>cases ry;exact PySem.EqNone.ne_none_none (aR I q (by simp))
  |bl j=>cases ry;exact PySem.EqNone.ne_none_bool (aR I q (by simp))
  |int j=>obtain⟨t',rfl⟩:=ry;exact PySem.EqNone.ne_none_int (aR I q (by simp))
  |str j=>obtain⟨t',rfl⟩:=ry;exact PySem.EqNone.ne_none_str (aR I q (by simp))
  |_=>exact absurd (show false=true from hs) AT
 |bl i=>
  cases rx;cases y with
  |non=>cases ry;exact PySem.EqNone.ne_bool_none (aR I q (by simp))
  |bl j=>cases ry;exact ne_bool (aR I q (Ah not nX))
  |str j=>obtain⟨t',rfl⟩:=ry;exact PySem.EqMixed.ne_bool_str (aR I q (by simp))
  |_=>exact absurd (show false=true from hs) AT
 |int i=>
  obtain⟨t,rfl⟩:=rx;cases y with
  |non=>cases ry;exact PySem.EqNone.ne_int_none (aR I q (by simp))
  |int j=>obtain⟨t',rfl⟩:=ry;exact ne_int (aR I q (Ah not nW))
  |str j=>obtain⟨t',rfl⟩:=ry;exact PySem.EqMixed.ne_int_str (aR I q (by simp))
  |_=>exact absurd (show false=true from hs) AT
 |str i=>
  obtain⟨t,rfl⟩:=rx;cases y with
  |non=>cases ry;exact PySem.EqNone.ne_str_none (aR I q (by simp))
  |bl j=>cases ry;exact PySem.EqMixed.ne_str_bool (aR I q (by simp))
  |int j=>obtain⟨t',rfl⟩:=ry;exact PySem.EqMixed.ne_str_int (aR I q (by simp))
  |str j=>obtain⟨t',rfl⟩:=ry;exact ne_str (aR I q (Ah not nY))
  |_=>exact absurd (show false=true from hs) AT
 |byt i=>
  obtain⟨t,rfl⟩:=rx;cases y with
  |byt j=>obtain⟨t',rfl⟩:=ry;exact W.ne_bytes (aR I q (Ah not nZ))
  |_=>exact absurd (show false=true from hs) AT
 |_=>cases y<;>exact absurd (show false=true from hs) AT
def fg:OpR X (compareOp .Lt) (rI0 λi j=>.bl (decide (i<j))):=iD λ_ _ _ _ _ _ _ q=>lt_int q
def fh:OpR X (compareOp .LtE) (rI0 λi j=>.bl (decide (i<=j))):=iD λ_ _ _ _ _ _ _ q=>le_int q
def fk:OpR X (compareOp .Gt) (rI0 λi j=>.bl (decide (j<i))):=iD λ_ _ _ _ _ _ _ q=>gt_int q
def k9:OpR X (compareOp .GtE) (rI0 λi j=>.bl (decide (j<=i))):=iD λ_ _ _ _ _ _ _ q=>ge_int q
theorem va:OpR X (compareOp .In) (λx y H Q=>∃i j,x=.str i/\y=.str j/\Q (.bl (!(Builtin.Str.occurrences j i 0 j.length 1).isEmpty)) H):=by
 intro Gn s σ H x y v u Q I rx ry h;obtain⟨i,j,rfl,rfl,q⟩:=h;obtain⟨t,rfl⟩:=rx;obtain⟨t',rfl⟩:=ry;exact in_str (aR I q rfl)
theorem aw(b:KY)(h:op≠ .In:=by decide)(h2:op≠ .NotIn:=by decide):behindInMarks op b=false:=by
 have e1:(op==CmpOp.In)=false:=by cases op<;>first|rfl|exact absurd rfl h
 have e2:(op==CmpOp.NotIn)=false:=by cases op<;>first|rfl|exact absurd rfl h2
 cases b<;>first|rfl|(show(_&&(op==CmpOp.In||op==CmpOp.NotIn)&&_)=false;rw[e1,e2,Bool.or_self,CK,Bool.false_and])
theorem dQ(ho:OpR X (compareOp op) r)(ha:PE X a ta)(hb:PE X b tb)(hm:behindInMarks op b=false):PE X (.Compare a [op] [b] pos) (tOp r ta tb):=by
 intro Gn s σ H Q I h;exact wpAny_Compare1 (k7 ha hb I h λv u s2 x y H2 I2 rx ry q=>ho Gn s2 σ H2 x y v u Q I2 rx ry q) hm
inductive tTest_(Q:(Bool->Hp->Prop))(x:V)(H':Hp):Prop
 |mk k:x=.bl k->Q k H'->tTest_ Q x H'
def n4(t:TE):TT:=λσ H Q=>t σ H λx H'=>tTest_ Q x H'
theorem az(ho:OpR X (compareOp op) r)(ha:PE X a ta)(hb:PE X b tb)(hm:behindInMarks op b=false):PT X (.Compare a [op] [b] pos) (n4 (tOp r ta tb)):=by
 intro Gn s σ H Q I h;refine wpAny_isTrue_Compare1 (thn (ha Gn s σ H _ I h) λv s1 ⟨x,H1,I1,r1,q1⟩=>thn (hb Gn s1 σ H1 _ I1 q1) λu s2 ⟨y,H2,I2,r2,q2⟩=>
  thn (ho Gn s2 σ H2 x y v u _ I2 r1 r2 q2) λc s3 ⟨z,H3,I3,r3,k,e,q3⟩=>?_) hm
 subst e;cases r3;exact BF ⟨H3,I3,q3⟩
inductive tChain_(r':R2)(tc:TE)(σ:St)(Q:VK)(y:V)(z:V)(H3:Hp):Prop
 |mk k:z=.bl k->((if k=true then tc σ H3 λw' H4=>r' y w' H4 Q else Q (.bl false) H3))->tChain_ r' tc σ Q y z H3
def vb(r r':R2)(ta tb tc:TE):TE:=λσ H Q=>ta σ H λx H1=>tb σ H1 λy H2=>r x y H2 λz H3=>tChain_ r' tc σ Q y z H3
theorem oa{op':CmpOp}{r':R2}(ho:OpR X (compareOp op) r)(Hk:OpR X (compareOp op') r')(ha:PE X a ta)(hb:PE X b tb)(hc:PE X c tc)
  (hm:lastMarks [op,op'] [b,c]=false:=by with_unfolding_all rfl):PT X (.Compare a [op,op'] [b,c] pos) (n4 (vb r r' ta tb tc)):=by
 intro Gn s σ H Q I h;refine isTrue_chain (thn (ha Gn s σ H _ I h) λv s1 ⟨x,H1,I1,r1,q1⟩=>test_link (thn (hb Gn s1 σ H1 _ I1 q1) λu s2 ⟨y,H2,I2,r2,q2⟩=>
  thn (ho Gn s2 σ H2 x y v u _ I2 r1 r2 q2) λd s3 ⟨z,H3,I3,r3,k,e,q3⟩=>?_)) hm
 subst e;cases r3;refine BF ?_;cases k with
 |false=>
  obtain⟨k',e',q'⟩:=q3;cases e';exact ite_ff ⟨H3,I3,q'⟩
 |true=>
  refine ite_tt (test_last (thn (hc Gn s3 σ H3 _ I3 q3) λw' s4 zu30=>?_));obtain⟨z',H4,I4,r4,q4⟩:=zu30;refine thn (Hk Gn s4 σ H4 y z' u w' _ I4 r2 r4 q4) λd' s5 zu31=>?_;obtain⟨z2,H5,I5,r5,k2,e2,q5⟩:=zu31;subst e2;cases r5;exact BF ⟨H5,I5,q5⟩
theorem vc{Gq:KW KN}(r:ao xs Gq):(!Gq.toArray.isEmpty)= !xs.isEmpty:=by
 cases r<;>simp
theorem fm:(sizeLine:Nat)<2^63:=by rw[As];decide
theorem aG:OpR X (binaryOp .Add) (λx y H Q=>∃i j,x=.str i/\y=.str j/\i.length+j.length<=sizeLine/\Q (.str (i++j)) H):=by
 intro Gn s σ H x y v u Q I rx ry h;obtain⟨i,j,rfl,rfl,hz,q⟩:=h;obtain⟨t,rfl⟩:=rx;obtain⟨t',rfl⟩:=ry;exact add_str (λt' tk=>⟨.str (i++j),H,I.tok _,⟨_,rfl⟩,q⟩) hz
theorem cP{x:V}(r:ao [x] us):∃u,us=[u]/\ar x u:=by
 cases r with
 |cons r1 r2=>cases r2;exact⟨_,rfl,r1⟩
theorem gS{x:V}(r:ao [x,y] us):∃u w',us=[u,w']/\ar x u/\ar y w':=by
 cases r with
 |cons r1 r2=>
  cases r2 with
  |cons r3 r4=>cases r4;exact⟨_,_,rfl,r1,r3⟩
theorem vd(hc:X.calm=true):bB X (.builtin "max") (λxs H Q=>∃i j,xs=[.int i,.int j]/\Q (.int (if j>i then j else i)) H):=by
 intro Gn s σ H xs us Q I r h;obtain⟨i,j,rfl,q⟩:=h;obtain⟨u,w',rfl,⟨t,rfl⟩,⟨t',rfl⟩⟩:=gS r;refine max_two_ints (I.ok.hd hc) λh' tk k=>⟨_,H,I.kept k,?_,q⟩;by_cases hj:j>i
 .rw[A9 hj,A9 hj];exact⟨_,rfl⟩
 .rw[A6 hj,A6 hj];exact⟨_,rfl⟩
theorem ve(hc:X.calm=true):bB X (.builtin "min") (λxs H Q=>∃i j,xs=[.int i,.int j]/\Q (.int (if j<i then j else i)) H):=by
 intro Gn s σ H xs us Q I r h;obtain⟨i,j,rfl,q⟩:=h;obtain⟨u,w',rfl,⟨t,rfl⟩,⟨t',rfl⟩⟩:=gS r;refine min_two_ints (I.ok.hd hc) λh' tk k=>⟨_,H,I.kept k,?_,q⟩;by_cases hj:j<i
 .rw[A9 hj,A9 hj];exact⟨_,rfl⟩
 .rw[A6 hj,A6 hj];exact⟨_,rfl⟩
theorem bO:bB X (.type "str") (λxs H Q=>∃i,xs=[.int i]/\i.natAbs.log2<1920/\Q (.str (toString i)) H):=by
 intro Gn s σ H xs us Q I r h;obtain⟨i,rfl,hz,q⟩:=h;obtain⟨u,rfl,t,rfl⟩:=cP r;exact PySem.P.str_of_int hz ⟨.str _,H,I.tok _,⟨_,rfl⟩,q⟩
end
structure ObjM(h:KZ)(x dx C:KP)(mA:Str->K0 KN):Prop where
 obj:h.get? x=some (W.instObj C dx)
 ns:h.Ns1 dx mA
 ne:dx≠x
theorem vf(n:h.Ns1 dx mA):∃od,h.get? dx=some od/\∀name,W.lookIn name od=some (mA name):=by
 obtain⟨o,es,ep,ho,hd,hk,_,hm⟩:=n;refine⟨o,ho,λname=>?_⟩;have e:=hm name;unfold nsFind findBy at e;rw[<-Array.find?_toList] at e;unfold W.lookIn;rw[hd];dsimp only;split
 .rename_i y q;rw[q] at e;exact Ah some e
 .rename_i q;rw[q] at e;have a:es.toList.any (·.refKey)=false:=by
   rw[List.any_eq_false];intro y hy;obtain⟨z,t,hkey⟩:=hk y (CL.mp hy);simp[DictEntry.refKey,hkey]
  have a':¬es.toList.any (·.refKey)=true:=by rw[a];exact AT
  rw[A6 a'];exact Ah some e
def ObjM.look{x:KP}(I:ObjM h x dx C mA):∃od,W.InstAt h x (W.instObj C dx) C (some od)/\∀name,W.lookIn name od=some (mA name):=
 let ⟨od,ho,hl⟩:=vf I.ns
 ⟨od,⟨I.obj,rfl,rfl,ho⟩,hl⟩
section
variable{prog:KQ}{w:KS}{A:KU}{E:KN->KO->Prop}{s:KO}{K:W.Frag}{x dx C f:KP}{mA:Str->K0 KN}{name:Str}{v:KN}
theorem vg{expr:Bool}(X:K.In s.heap)(I:ObjM s.heap x dx C mA)(hg:W.plainGet K C name=true)(hh:W.hasDictIn K C=true)
  (ha:W.findIn K (.ref C) name=some none) (hv:mA name=some v) (hv':W.handedIn v=true) (h:Q v {s with toks:=s.toks+1}):
  wpAny (model prog w) A (getAttr (.ref x) name expr) Q E s:=by
 obtain⟨od,J,hl⟩:=I.look;exact W.get_value X J (W.plainGet_of hg).1 (W.findObj_own hh ha rfl (by rw[hl,hv])) hv' h
theorem vh{Q:KN×KW KN->KO->Prop}(X:K.In s.heap)(I:ObjM s.heap x dx C mA)(hg:W.plainGet K C name=true)
  (hf:W.findIn K (.ref C) name=some (some (.ref f))) (ht:W.isFn K (.ref f)=true) (hv:mA name=none) (h:Q (.ref f,[.ref x]) s):
  wpAny (model prog w) A (getMethod (.ref x) name pl) Q E s:=by
 obtain⟨od,J,hl⟩:=I.look;exact W.method_fn X J (W.plainGet_of hg).1 (W.plainGet_of hg).2 hf (BM.mp ht) (by show(W.lookIn name od).map (·.isSome)=some false;rw[hl,hv];rfl) h
theorem vi{ns:KW Str}{Q:Unit->KO->Prop}(X:K.In s.heap)(I:ObjM s.heap x dx C mA)
  (hs:W.findIn K (.ref C) "__setattr__"=some (some (.builtin "object.__setattr__"))) (hp:W.plainOver K C=true) (ht:W.takerIn K C name=some none) (hh:W.hasDictIn K C=true)
  (hw:PySem.Within mA ns) (hsz:ns.length<=sizeLine)
  (h:∀h',ObjM h' x dx C (λy=>if y=name then some v else mA y)->Heap.SameBut dx s.heap h'->Q () {s with heap:=h',toks:=s.toks+2}):
  wpAny (model prog w) A (setAttr (.ref x) name v) Q E s:=by
 obtain⟨od,J,hl⟩:=I.look;refine W.set_plain X J hs (W.osa_open (s:={s with toks:=s.toks+1}) (r:=none) X J hp ht λb=>?_);obtain⟨cd,hc,Ib⟩:=W.any_some hh;have hx:s.heap.get? x=some ⟨.ref C,some dx,.plain, #[]⟩:=I.obj;refine A0 (A2 (A0 (A0 (wpAny_loadPart hx (A0 (W.Looks.here (s:={s with toks:=s.toks+1}) (W.looks_clsIn X hc) ?_))))));rw[Ib];refine A2 (a:=some dx) (A0 (A2 (A0 ?_)));refine wpAny_nsSet1 (s:={s with toks:=s.toks+1}) I.ns λh' Ix hs2=>?_;obtain⟨oD,esD,epD,hoD,hdD,hcD⟩:=Ix.count (PySem.Within.cons name v hw);refine A0 (wpAny_lookBehind hoD (by rw[hdD];exact pastItsLine_dict (Am hcD (by rw[AN];lia))) ?_);exact A2 (h _ ⟨(hs2.2 _ (CB I.ne)).trans I.obj,Ix,I.ne⟩ hs2)
theorem vj{R:Result->KO->Prop}{vs:KW KN}(X:K.In s.heap)(hm:W.makesIn K C=true)
  (hi:W.findIn K (.ref C) "__init__"=some (some (.ref f))) (hf:W.typeIn K (.ref f)=some (.type "function"))
  (h:codeAny (model prog w) (A.under (.builtin "type.__call__" ⟨.ref C::vs,kw⟩)) (.call (.ref f) ⟨.ref (s.heap.objs.size+1)::vs,kw⟩) (W.InitBack (s.heap.objs.size+1) R)
   {s with heap:=(s.heap.push W.emptyDict).push (W.instObj C s.heap.objs.size)}):
  codeAny (model prog w) A (.call (.ref C) ⟨vs,kw⟩) R s:=by
 obtain⟨hh,g,d,t,os⟩:=s;exact W.make_core (W.makes_of X hm) (W.looks_findIn X hi) (λself=>W.bind_fn X self hf) (.inl rfl) h
end
def cf(f:Str)(v:V):KW (Str×V)->KW (Str×V)
 |[]=>[(f,v)]
 |(g,x)::r=>if g=f then(g,v)::r else(g,x)::cf f v r
theorem og(f g:Str)(v:V):∀fs:KW (Str×V),(cf f v fs).lookup g=if g=f then some v else fs.lookup g
 |[]=>by
  show List.lookup g [(f,v)]=_;by_cases h:g=f
  .have hb:(g==f)=true:=BM.mpr h;simp only[List.lookup,hb,A9 h]
  .have hb:(g==f)=false:=BR.mpr h;simp only[List.lookup,hb,A6 h]
 |(k,x)::r=>by
  have ih:=og f g v r;rw[show cf f v ((k,x)::r)=(if k=f then(k,v)::r else(k,x)::cf f v r) from rfl];by_cases hk:k=f
  .rw[A9 hk];by_cases h:g=k
   .have hb:(g==k)=true:=BM.mpr h;simp only[List.lookup,hb,A9 (h.trans hk)]
   .have hb:(g==k)=false:=BR.mpr h;simp only[List.lookup,hb,A6 (λe:g=f=>h (e.trans hk.symm))]
  .rw[A6 hk];by_cases h:g=k
   .have hb:(g==k)=true:=BM.mpr h;simp only[List.lookup,hb,A6 (λe:g=f=>hk (h.symm.trans e))]
   .have hb:(g==k)=false:=BR.mpr h;simp only[List.lookup,hb];exact ih
theorem lc(f:Str)(v:V):∀fs:KW (Str×V),f∈(cf f v fs).map (·.1)/\∀g,g∈fs.map (·.1)->g∈(cf f v fs).map (·.1)
 |[]=>⟨by simp[cf],λg h=>by simp at h⟩
 |(k,x)::r=>by
  obtain⟨i1,i2⟩:=lc f v r;rw[show cf f v ((k,x)::r)=(if k=f then(k,v)::r else(k,x)::cf f v r) from rfl];by_cases hk:k=f
  .rw[A9 hk];subst hk;exact⟨by simp,λg h=>by simpa using h⟩
  .rw[A6 hk];refine⟨?_,λg h=>?_⟩
   .rw[AM];exact AU _ i1
   .rw[AM] at h⊢;rcases AH.mp h with e|e
    .exact AH.mpr (.inl e)
    .exact AU _ (i2 g e)
theorem oh(f:Str)(v:V):∀fs:KW (Str×V),(cf f v fs).length<=fs.length+1
 |[]=>by simp[cf]
 |(k,x)::r=>by
  have ih:=oh f v r;rw[show cf f v ((k,x)::r)=(if k=f then(k,v)::r else(k,x)::cf f v r) from rfl];by_cases hk:k=f
  .rw[A9 hk,AN,AN];lia
  .rw[A6 hk,AN,AN];lia
theorem bW.some_of{o:K0 KN}(r:bW (some v) o):∃u,o=some u/\ar v u:=by
 cases o with
 |none=>exact(show False from r).elim
 |some u=>exact⟨u,rfl,r⟩
theorem bW.none_of{o:K0 KN}(r:bW none o):o=none:=by
 cases o with
 |none=>rfl
 |some u=>exact(show False from r).elim
theorem vk(r:ar v u):W.handedIn u=true:=by
 cases v with
 |non=>cases (show u=Value.none from r);rfl
 |bl b=>cases (show u=Value.bool b from r);rfl
 |int i=>obtain⟨t,e⟩:=(show∃t,u=Value.int i t from r);cases e;rfl
 |str x=>obtain⟨t,e⟩:=(show∃t,u=Value.str x t from r);cases e;rfl
 |byt b=>obtain⟨t,e⟩:=(show∃t,u=Value.bytes b t from r);cases e;rfl
 |flt b=>obtain⟨t,e⟩:=(show∃t,u=Value.float b t from r);cases e;rfl
 |ref a=>cases (show u=Value.ref a from r);rfl
 |ty n=>cases (show u=Value.type n from r);rfl
section
variable{P:KQ}{w:KS}{H H':Hp}{h h':KZ}{a C dx:KP}{fs fs':KW (Str×V)}
theorem iF(hok:HOk P w H h)(e:H a=some (.ins C dx fs)):∃mA,ObjM h a dx C mA/\(∀f,bW (fs.lookup f) (mA f))/\PySem.Within mA (fs.map (·.1))/\fs.length<=1000/\H dx=some (.own a):=by
 obtain⟨d,z,ne,ob,mA,n,r,q⟩:=(show aC P w H h a (.ins C dx fs) from hok a _ e);exact⟨mA,⟨ob,n,ne⟩,r,q,z,d⟩
end
structure Cls(K:W.Frag)(C:KP):Prop where
 pg:W.plainGet K C Str.empty=true
 hd:W.hasDictIn K C=true
 po:W.plainOver K C=true
 sa:W.findIn K (.ref C) "__setattr__"=some (some (.builtin "object.__setattr__"))
def Cls.get{K:W.Frag}{C:KP}(c:Cls K C)(f:Str):W.plainGet K C f=true:=c.pg
def dA(K:W.Frag)(C:KP)(f:Str):Prop:=W.findIn K (.ref C) f=some none
theorem dA.taker{f:Str}(n:dA K C f):W.takerIn K C f=some none:=by
 unfold W.takerIn;rw[show W.findIn K (.ref C) f=some none from n];rfl
structure Meth(K:W.Frag)(C:KP)(m:Str)(f:KP):Prop where
 bo:W.findIn K (.ref C) m=some (some (.ref f))
 fn:W.isFn K (.ref f)=true
 kp:W.keepIn K (.ref f)=true
section
variable{X:Cx}{Gn:KW (KP×Obj)}{σ:St}{H:Hp}{s:KO}{a C dx:KP}{fs:KW (Str×V)}{f:Str}{v:V}{A:KU}{E:KN->KO->Prop}
theorem oj{b:Bool}(I:Inv X Gn σ H s)(e:H a=some (.ins C dx fs))(c:Cls X.K C)(n:dA X.K C f)(l:fs.lookup f=some v)
  (h:∀u s',Inv X Gn σ H s'->ar v u->Q u s'):wpAny (model X.prog X.w) A (getAttr (.ref a) f b) Q E s:=by
 obtain⟨mA,O,r,_,_,_⟩:=iF I.hok e;obtain⟨u,hu,ru⟩:=bW.some_of (v:=v) (o:=mA f) (by rw[<-l];exact r f);exact vg I.kIn O (c.get f) c.hd n hu (vk ru) (h u _ (I.tok _) ru)
theorem om{m:Str}{g:KP}{Q:KN×KW KN->KO->Prop}(I:Inv X Gn σ H s)(e:H a=some (.ins C dx fs))(c:Cls X.K C)(k:Meth X.K C m g)(l:fs.lookup m=none)
  (h:Q (.ref g,[.ref a]) s):wpAny (model X.prog X.w) A (getMethod (.ref a) m pl) Q E s:=by
 obtain⟨mA,O,r,_,_,_⟩:=iF I.hok e;have hn:mA m=none:=bW.none_of (by rw[<-l];exact r m);exact vh I.kIn O (c.get m) k.bo k.fn hn h
theorem on{Q:Unit->KO->Prop}(I:Inv X Gn σ H s)(e:H a=some (.ins C dx fs))(c:Cls X.K C)(n:dA X.K C f)(hl:fs.length<1000)(ry:ar y u)
  (h:∀s',Inv X Gn σ (upd H a (.ins C dx (cf f y fs))) s'->Q () s'):wpAny (model X.prog X.w) A (setAttr (.ref a) f u) Q E s:=by
 obtain⟨mA,O,r,wi,_,ho⟩:=iF I.hok e;have hz:(fs.map (·.1)).length<=sizeLine:=by rw[A3,As];lia
 refine vi I.kIn O c.sa c.po n.taker c.hd wi hz λh' O' sb=>h _ ?_;have hd:∃o,h'.get? dx=some o:=let ⟨o,_,_,e',_⟩:=O'.ns;⟨o,e'⟩;refine I.write (x:=a) (e:=dx) (by rw[e];exact True.intro) (.inr ho) (λb q hb z=>(sb.2 b hb).trans z) hd ?_;refine⟨by rw[au O.ne];exact ho,?_,O.ne,O'.obj,_,O'.ns,λg=>?_,λg hg=>?_⟩
 .have:=oh f y fs;lia
 .show bW ((cf f y fs).lookup g) (if g=f then some u else mA g);rw[og];by_cases q:g=f
  .rw[A9 q,A9 q];exact ry
  .rw[A6 q,A6 q];exact r g
 .by_cases q:g=f
  .rw[q];exact(lc f y fs).1
  .refine(lc f y fs).2 g (wi g λz=>hg ?_);show(if g=f then some u else mA g)=none;rw[A6 q];exact z
theorem Inv.made(I:Inv X Gn σ H s):Inv X Gn σ (upd (upd H s.heap.objs.size (.own (s.heap.objs.size+1))) (s.heap.objs.size+1) (.ins C s.heap.objs.size []))
  {s with heap:=(s.heap.push W.emptyDict).push (W.instObj C s.heap.objs.size)}:=by
 have e1:(s.heap.push W.emptyDict).get? s.heap.objs.size=some W.emptyDict:=AC s.heap rfl;have e2:((s.heap.push W.emptyDict).push (W.instObj C s.heap.objs.size)).get? (s.heap.objs.size+1)=some (W.instObj C s.heap.objs.size):=by
  have:=AC (s.heap.push W.emptyDict) (o:=W.instObj C s.heap.objs.size) rfl
  rwa [Aw] at this
 have e3:(s.heap.push W.emptyDict).Ns s.heap.objs.size (λ_=>none):=⟨W.emptyDict, #[],_,e1,rfl,(λe he=>absurd he (by simp)),λ_=>rfl⟩;have I1:=I.laid (a:=s.heap.objs.size) (o:= .own (s.heap.objs.size+1)) (h':=s.heap.push W.emptyDict) (t':=s.toks) (λb u q=>A4 _ q) (A8 _) ⟨_,e1⟩;refine I1.laid (a:=s.heap.objs.size+1) (o:= .ins C s.heap.objs.size []) (t':=s.toks) (λb u q=>A4 _ q) (Nat.le_of_eq (Aw _ _)) ?_;have ne:s.heap.objs.size≠s.heap.objs.size+1:=AE (B8 _);refine⟨by rw[au ne,am],AR _,ne,e2,λ_=>none,(Heap.Ns1.of_empty e3).at λo q=>A4 _ q,λ_=>True.intro,λy hy=>absurd rfl hy⟩
theorem vm{prog:KQ}{env:Env}{f:Str}{pos:Pos}{s:KO}(hb:attributeBase e f env (eval e env)=eval e env)
  (h:wpAny (model prog w) A (eval e env) (λo s₁=>wpAny (model prog w) A (getAttr o f true) Q E s₁) E s):wpAny (model prog w) A (eval (.Attribute e f pos) env) Q E s:=
 Attribute_any_ h (by rw[arm_eval_Attribute,hb])
end
inductive tFld_(K:W.Frag)(f:Str)(Q:VK)(x:V)(H1:Hp):Prop
 |mk a C dx fs v:x=.ref a->H1 a=some (.ins C dx fs)->Cls K C->dA K C f->fs.lookup f=some v->Q v H1->tFld_ K f Q x H1
def vn(K:W.Frag)(ta:TE)(f:Str):TE:=λσ H Q=>ta σ H λx H1=>tFld_ K f Q x H1
inductive sFld_(K:W.Frag)(f:Str)(D:Ends)(σ:St)(y:V)(x:V)(H2:Hp):Prop
 |mk a C dx fs:x=.ref a->H2 a=some (.ins C dx fs)->Cls K C->dA K C f->fs.length<1000->D.nx σ (upd H2 a (.ins C dx (cf f y fs)))->sFld_ K f D σ y x H2
def vo(K:W.Frag)(ta tv:TE)(f:Str):TS:=λD σ H=>tv σ H λy H1=>ta σ H1 λx H2=>sFld_ K f D σ y x H2
def oq(X:Cx)(op:Operator)(rd:V->V->Hp->VK->Prop):Prop:=
 ∀(Gn:KW (KP×Obj)) (s:KO) (σ:St) (H:Hp) (x y:V) (u v:KN) (Q:VK),Inv X Gn σ H s->ar x u->ar y v->rd x y H Q->wpAny (model X.prog X.w) X.A (inplaceOp op u v) (EP X Gn σ Q) X.xe s
inductive sFldAug_(K:W.Frag)(tv:TE)(rd:V->V->Hp->VK->Prop)(f:Str)(D:Ends)(σ:St)(x:V)(H1:Hp):Prop
 |mk a C dx fs v:x=.ref a->H1 a=some (.ins C dx fs)->Cls K C->dA K C f->fs.lookup f=some v->(tv σ H1 λy H2=>rd v y H2 λz H3=>∃dx' fs',H3 a=some (.ins C dx' fs')/\fs'.length<1000/\D.nx σ (upd H3 a (.ins C dx' (cf f z fs'))))->sFldAug_ K tv rd f D σ x H1
def vp(K:W.Frag)(ta tv:TE)(rd:V->V->Hp->VK->Prop)(f:Str):TS:=λD σ H=>ta σ H λx H1=>sFldAug_ K tv rd f D σ x H1
section
variable{X:Cx}{o e value:KY}{f:Str}{pos GJ G7:Pos}{ta tv:TE}
theorem vq(he:PE X e ta)(hb:attributeBase e f X.env (eval e X.env)=eval e X.env):PE X (.Attribute e f pos) (vn X.K ta f):=by
 intro Gn s σ H Q I h;refine vm hb (thn (he Gn s σ H _ I h) λu s1 zu32=>?_);obtain⟨x,H1,I1,rx,a,C,dx,fs,v,ex,ea,c,n,l,q⟩:=zu32;subst ex;obtain rfl:u=Value.ref a:=rx;exact oj I1 ea c n l λu' s2 I2 ru=>⟨v,H1,I2,ru,q⟩
theorem vt(ha:PE X o ta)(hv:PE X value tv)(hs:swapsWith value (some (.Attribute o f GJ)) pos.line X.env=pure false):PS X (.Assign [.Attribute o f GJ] value pos) (vo X.K ta tv f):=by
 intro Gn s σ H D I h;refine plainObj_wpAny_Assign_Attribute (thn (hv Gn s σ H _ I h) λu s1 zu33=>?_) hs;obtain⟨y,H1,I1,ry,q⟩:=zu33;refine thn (ha Gn s1 σ H1 _ I1 q) λov s2 zu34=>?_;obtain⟨x,H2,I2,rx,a,C,dx,fs,ex,ea,c,n,l,q2⟩:=zu34;subst ex;obtain rfl:ov=Value.ref a:=rx;exact on I2 ea c n l ry λs3 I3=>⟨σ,_,I3,q2⟩
theorem vv{op:Operator}{rd:V->V->Hp->VK->Prop}(ha:PE X o ta)(hv:PE X value tv)(hop:oq X op rd):PS X (.AugAssign (.Attribute o f G7) op value pos) (vp X.K ta tv rd f):=by
 intro Gn s σ H D I h;refine wpAny_AugAssign_AttributeAny (thn (ha Gn s σ H _ I h) λov s1 zu35=>?_);obtain⟨x,H1,I1,rx,a,C,dx,fs,v,ex,ea,c,n,l,q⟩:=zu35;subst ex;obtain rfl:ov=Value.ref a:=rx;refine oj I1 ea c n l λu s2 I2 ru=>thn (hv Gn s2 σ H1 _ I2 q) λw3 s3 zu36=>?_;obtain⟨y,H2,I3,ry,q3⟩:=zu36;refine thn (hop Gn s3 σ H2 v y u w3 _ I3 ru ry q3) λw4 s4 zu37=>?_;obtain⟨z,H3,I4,rz,dx',fs',ea',l',q4⟩:=zu37;exact on I4 ea' c n l' rz λs5 I5=>⟨σ,_,I5,q4⟩
inductive rAdd(x:V)(y:V)(H:Hp)(Q:VK):Prop
 |mk i j:x=.int i->y=.int j->Q (.int (i+j)) H->rAdd x y H Q
theorem vw:oq X .Add rAdd:=by
 rintro Gn s σ H x y u v Q I rx ry ⟨i,j,rfl,rfl,q⟩;obtain⟨t,rfl⟩:=(show∃t,u=Value.int i t from rx);obtain⟨t',rfl⟩:=(show∃t',v=Value.int j t' from ry);exact PyProof.Rows.iadd_int ⟨.int (i+j),H,I.tok _,⟨_,rfl⟩,q⟩
end
section
variable{X:Cx}{Gn:KW (KP×Obj)}{σ:St}{H:Hp}{s:KO}{A:KU}{E:KN->KO->Prop}{Q:KN->KO->Prop}{c:KN}{b:Bool}
inductive TyOf(K:W.Frag)(H:Hp):V->Value->Prop where
 |non:TyOf K H .non (.type "NoneType")
 |bl (x:Bool):TyOf K H (.bl x) (.type "bool")
 |int (i:Int):TyOf K H (.int i) (.type "int")
 |str (x:Str):TyOf K H (.str x) (.type "str")
 |flt (x:UInt64):TyOf K H (.flt x) (.type "float")
 |lst {a:Addr}{xs:List V} (e:H a=some (.lst xs)):TyOf K H (.ref a) (.type "list")
 |frz {a:Addr}{o:Obj}{xs:List V} (e:H a=some (.frz o (.lst xs))):TyOf K H (.ref a) (.type "list")
 |tup {a:Addr}{xs:List V} (e:H a=some (.tup xs)):TyOf K H (.ref a) (.type "tuple")
 |dK {a:Addr}{Gp:List (Key×V)} (e:H a=some (.dK Gp)):TyOf K H (.ref a) (.type "dict")
 |dT {a:Addr}{Gp:List (List Key×V)} (e:H a=some (.dT Gp)):TyOf K H (.ref a) (.type "dict")
 |ins {a C dx:Addr}{fs:List (Str×V)} (e:H a=some (.ins C dx fs)) (cl:Cls K C) (ha:W.findIn K (.ref C) "__class__"=some (some (.builtin "object.__class__")))
   (hn:W.specialIn K (.builtin "object.__class__") "__get__"=some (some (.builtin "getset_descriptor.__get__"))) (htk:W.takesIn K (.builtin "object.__class__")=some true)
   (hm:W.mroIn K C (.type "object")=some true):TyOf K H (.ref a) (.ref C)
theorem vx{x:V}{t:KN}(I:Inv X Gn σ H s)(rx:ar x u)(ty:TyOf X.K H x t)(e:W.kitOne X.K t c=some b)(h:∀tk,Q (.bool b) {s with toks:=tk}):
  wpAny (model X.prog X.w) A (call (.builtin "isinstance") [u,c]) Q E s:=by
 cases ty with
 |non=>cases (show u=Value.none from rx);exact BL W.kitx_none I.kIn True.intro e (λz=>nomatch z) h
 |bl y=>cases (show u=Value.bool y from rx);exact BL W.kitx_bool I.kIn True.intro e (λz=>nomatch z) h
 |int i=>obtain⟨t,q⟩:=(show∃t,u=Value.int i t from rx);cases q;exact BL W.kitx_int I.kIn True.intro e (λz=>nomatch z) h
 |str y=>obtain⟨t,q⟩:=(show∃t,u=Value.str y t from rx);cases q;exact BL W.kitx_str I.kIn True.intro e (λz=>nomatch z) h
 |flt y=>obtain⟨t,q⟩:=(show∃t,u=Value.float y t from rx);cases q;exact BL W.kitx_float I.kIn True.intro e (λz=>nomatch z) h
 | @lst a xs ea=>
  cases (show u=Value.ref a from rx);obtain⟨_,_,n,_,h1⟩:=(show aC X.prog X.w H s.heap a (.lst xs) from I.hok a _ ea);exact BL W.kitx_list I.kIn ⟨_,h1,rfl⟩ e (λz=>nomatch z) h
 | @frz a ob xs ea=>
  cases (show u=Value.ref a from rx);obtain⟨_,_,_,n,_,h1⟩:=(show aC X.prog X.w H s.heap a (.frz ob (.lst xs)) from I.hok a _ ea);exact BL W.kitx_list I.kIn ⟨_,h1,rfl⟩ e (λz=>nomatch z) h
 | @tup a xs ea=>
  cases (show u=Value.ref a from rx);obtain⟨_,_,_,p⟩:=(show aC X.prog X.w H s.heap a (.tup xs) from I.hok a _ ea);obtain⟨o,h1,h2,_⟩:=p;exact BL W.kitx_tuple I.kIn ⟨o,h1,h2⟩ e (λz=>nomatch z) h
 | @dK a Gp ea=>
  cases (show u=Value.ref a from rx);obtain⟨_,_,vs,_,p⟩:=(show aC X.prog X.w H s.heap a (.dK Gp) from I.hok a _ ea);obtain⟨o,es,ep,h1,h2,_⟩:=p;exact BL W.kitx_dict I.kIn ⟨o,h1,h2.1⟩ e (λz=>nomatch z) h
 | @dT a Gp ea=>
  cases (show u=Value.ref a from rx);obtain⟨_,_,xs,_,o,es,ep,h1,h2,_⟩:=(show aC X.prog X.w H s.heap a (.dT Gp) from I.hok a _ ea);exact BL W.kitx_dict I.kIn ⟨o,h1,h2.1⟩ e (λz=>nomatch z) h
 | @ins a C dx fs ea cl ha hn htk hm=>
  cases (show u=Value.ref a from rx);obtain⟨mA,O,_⟩:=iF I.hok ea;obtain⟨od,J,_⟩:=O.look;exact BL (W.kitx_own (cl.get _) cl.hd ha hn htk hm) I.kIn J e (λz=>nomatch z) h
end
structure Room(k:Nat)(A:KU):Prop where
 hd:A.handled=none
 dp:A.depth+3*k+5<recursionLimit
 un:A.units+16*k+200<cLine
theorem Room.mono(r:Room k A)(h:j<=k):Room j A:=⟨r.hd,by have:=r.dp;lia,by have:=r.un;lia⟩
theorem Room.deeper{k:Nat}{A:KU}(r:Room (k+1) A)(env:Env):Room k (A.deeper env):=
 ⟨r.hd,by have:=r.dp;show A.depth+1+3*k+5<_;lia,by have:=r.un;show A.units+3+16*k+200<_;lia⟩
theorem vy :(A.under (.builtin "type.__call__" ⟨.ref C::us,kw⟩)).depth=A.depth+1:=by
 first|rfl|simp[Around.under,Code.weight,Code.isCreation,Code.isGuard,Code.isCaller,Code.frames,Code.isFrame,guardIds]
theorem vz :(A.under (.builtin "type.__call__" ⟨.ref C::us,kw⟩)).units=A.units+1:=by
 first|rfl|simp[Around.under,Code.cUnits,Code.frames,Code.isFrame]
theorem Room.make(r:Room (k+1) A)(C:KP)(us:KW KN)(kw:KW (Str×KN)):Room k (A.under (.builtin "type.__call__" ⟨.ref C::us,kw⟩)):=
 ⟨r.hd,by have:=r.dp;rw[vy];lia,by have:=r.un;rw[vz];lia⟩
theorem Room.depth{k:Nat}{A:KU}(r:Room k A):A.depth<recursionLimit:=by have:=r.dp;lia
theorem Room.units{k:Nat}{A:KU}(r:Room k A):A.units+64<cLine:=by have:=r.un;lia
def lg:TA:=λ_ H Q=>Q [] H
def ot(ta:TE)(tr:TA):TA:=λσ H Q=>ta σ H λx H1=>tr σ H1 λxs H2=>Q (x::xs) H2
section
variable{X:Cx}{e:KY}{es:KW KY}{te:TE}{t:TA}{pos:Pos}
def ae:PA X [] lg:=λ_ _ _ _ H Q I h=>Calls.spliced_nil ⟨[],H,I,.nil,h⟩
theorem aa(ha:PE X e te)(hr:PA X es t)(hs:starEach (e::es) X.env=(false,eval e X.env)::starEach es X.env:=by rfl):PA X (e::es) (ot te t):=by
 intro pos Gn s σ H Q I h;rw[hs];show wpAny _ _ (spliced ((false,eval e X.env)::backTo pos (starEach es X.env))) _ _ s;refine BI (thn (ha Gn s σ H _ I h) λu s1 zu38=>?_);obtain⟨x,H1,I1,r1,q1⟩:=zu38;exact thn (hr pos Gn s1 σ H1 _ I1 q1) λus s2 GB=>by obtain⟨xs,H2,I2,r2,q2⟩:=GB;exact⟨x::xs,H2,I2,.cons r1 r2,q2⟩
def vA(t:TA):TE:=λσ H Q=>t σ H λxs H1=>xs.length<=sizeLine/\∀p,H1 p=none->Q (.ref p) (upd H1 p (.tup xs))
def vB(t:TA):TE:=λσ H Q=>t σ H λxs H1=>xs.length<=sizeLine/\∀p,H1 p=none->Q (.ref p) (upd H1 p (.lst xs))
theorem iG{x1}(h:PA X es t):PE X (.Tuple es x1 pos) (vA t):=by
 intro Gn s σ H Q I hq;refine wpAny_Tuple_spliced (thn (h pos Gn s σ H _ I hq) λus s1 ⟨xs,H1,I1,r,z,q⟩=>⟨by rw[<-r.length];exact z,?_⟩);have hf:H1 s1.heap.objs.size=none:=I1.hok.fresh (A8 _);refine⟨.ref s1.heap.objs.size,upd H1 s1.heap.objs.size (.tup xs),I1.laid (t':=s1.toks) (λb u e=>A4 _ e) (A8 _) ?_,rfl,q _ hf⟩;exact⟨z,us,r,⟨_,AC _ rfl,rfl,_,rfl⟩⟩
theorem iH(h:PA X es t):PE X (.List es pos) (vB t):=by
 intro Gn s σ H Q I hq;refine wpAny_List_spliced (thn (h pos Gn s σ H _ I hq) λus s1 ⟨xs,H1,I1,r,z,q⟩=>⟨by rw[<-r.length];exact z,?_⟩);have hf:H1 s1.heap.objs.size=none:=I1.hok.fresh (A8 _);refine⟨.ref s1.heap.objs.size,upd H1 s1.heap.objs.size (.lst xs),I1.laid (t':=s1.toks) (λb u e=>A4 _ e) (A8 _) ?_,rfl,q _ hf⟩;exact⟨z,us,0,r,AC _ rfl⟩
end
abbrev Sp:=KW V->Hp->VK->XK->Prop
variable{sp:Sp}
abbrev CXT:=KW Env->Hp->KO->XK->KN->KO->Prop
variable{CX:CXT}
structure Env0(P:KQ)(w:KS)(K:W.Frag)(mg:Str->K0 KN)(base:KZ)(A:KU)(outer:KW Env)(s:KO)(H:Hp):Prop where
 frames:A.frames=some outer
 mod:Mod K mg base
 bs:∀b o,base.get? b=some o->s.heap.get? b=some o/\H b=none
 bsz:base.objs.size<=s.heap.objs.size
 funs:s.heap.FunFrames base outer
 frf:∀b∈frs outer,H b=none
 hok:HOk P w H s.heap
 bare:AllBare s.gens
def CE(outer:KW Env)(P:KQ)(w:KS)(H:Hp)(s:KO)(Q:VK)(u:KN)(s':KO):Prop:=
 ∃v H',s'.os=s.os/\AllBare s'.gens/\Un (frs outer) [] H H' s.heap s'.heap/\HOk P w H' s'.heap/\ar v u/\Q v H'
def CR(CX:CXT)(outer:KW Env)(P:KQ)(w:KS)(H:Hp)(s:KO)(Q:VK)(E:XK)(r:Result)(s':KO):Prop:=
 match r with
 |.ok (.ret u)=>CE outer P w H s Q u s'
 |.ok _=>False
 |.error e=>CX outer H s E e s'
structure FnOk(P:KQ)(w:KS)(K:W.Frag)(mg:Str->K0 KN)(base:KZ)(CX:CXT)(k:Nat)(f:KP)(fd:KR)(ps:KW Str)(sp:Sp):Prop where
 len:∀vs H Q E,sp vs H Q E->vs.length=ps.length
 run:∀(A:Around) (outer:List Env) (s:Shared) (H:Hp) (args:Args) (us:List Value) (vs:List V) (Q:VK) (E:XK),Room k A->Env0 P w K mg base A outer s H->BindsTo s fd args (ps.zip us)->ao vs us->sp vs H Q E->
  codeAny (model P w) A (.call (.ref f) args) (CR CX outer P w H s Q E) s
def FnOk.imp{sp':Sp}(F:FnOk P w K mg base CX k f fd ps sp)
  (h:∀vs H Q E,sp' vs H Q E->sp vs H Q E):FnOk P w K mg base CX k f fd ps sp':=
 ⟨λvs H Q E q=>F.len vs H Q E (h _ _ _ _ q),λA outer s H args us vs Q E hr he hb hv hs=>F.run A outer s H args us vs Q E hr he hb hv (h _ _ _ _ hs)⟩
theorem Env0.make(e:Env0 P w K mg base A outer s H)(C:KP)(us:KW KN)(kw:KW (Str×KN)):
  Env0 P w K mg base (A.under (.builtin "type.__call__" ⟨.ref C::us,kw⟩)) outer s H:=⟨by first|exact e.frames|(simpa[Around.under,Code.envs,Code.isFrame,pushEnvs] using e.frames),e.mod,e.bs,e.bsz,e.funs,e.frf,e.hok,e.bare⟩
section
variable{X:Cx}{Gn:KW (KP×Obj)}{σ:St}{H:Hp}{s s':KO}
def Inv.env0(I:Inv X Gn σ H s):Env0 X.prog X.w X.K X.mg X.base X.A X.stack s H:=
 ⟨I.ok.frames,I.ok.mod,I.bs,Am I.ok.bsz I.sz,I.stack,I.stkFree,I.hok,I.bare⟩
theorem Inv.after{Q:VK}(I:Inv X Gn σ H s)(h:CE X.stack X.prog X.w H s Q u s'):EP X Gn σ Q u s':=by
 obtain⟨v,H',os,bare,un,hok,r,q⟩:=h;obtain⟨hh,g,d,t,Kd⟩:=s';obtain rfl:Kd=s.os:=os;exact⟨v,H',I.call (h':=hh) (g':=g) (d':=d) (t':=t) (ch:=[]) un hok bare (λb z=>absurd z (by simp)),r,q⟩
end
def ll(sp:Sp)(GG:KW V)(E:XK)(t:TA):TE:=λσ H Q=>t σ H λvs H1=>sp (vs++GG) H1 Q E
inductive tMeth_(C:Addr)(m:Str)(sp:Sp)(GG:List V)(E:XK)(t:TA)(σ:St)(Q:VK)(x:V)(H1:Hp):Prop
 |mk a dx fs:x=.ref a->H1 a=some (.ins C dx fs)->fs.lookup m=none->(t σ H1 λvs H2=>sp (x::(vs++GG)) H2 Q E)->tMeth_ C m sp GG E t σ Q x H1
def ou(C:KP)(m:Str)(sp:Sp)(GG:KW V)(E:XK)(ta:TE)(t:TA):TE:=λσ H Q=>ta σ H λx H1=>tMeth_ C m sp GG E t σ Q x H1
def vC(C:KP)(sp:Sp)(GG:KW V)(E:XK)(t:TA):TE:=λσ H Q=>t σ H λvs H1=>∀x dx,H1 x=none->H1 dx=none->dx≠x->
 sp (.ref x::(vs++GG)) (upd (upd H1 dx (.own x)) x (.ins C dx [])) (λv H2=>v=.non/\Q (.ref x) H2) E
def cL(K:W.Frag)(fd:KR)(ps:KW Str)(ds:KW KN):Prop:=
 ∀(s:KO) (us:KW KN),K.In s.heap->(us++ds).length=ps.length->BindsTo s fd ⟨us,[]⟩ (ps.zip (us++ds))
theorem cL.all(h:∀us:KW KN,us.length=ps.length->bindArgs fd ⟨us,[]⟩=pure (ps.zip us)):cL K fd ps []:=λs us _ hl=>by
 rw[BW] at hl⊢;exact .of_eq (h us hl)
def cr(CX:CXT)(X:Cx)(E:XK):Prop:=∀(Gn:KW (KP×Obj)) (σ:St) (H:Hp) (s:KO) (e:KN) (s':KO),Inv X Gn σ H s->CX X.stack H s E e s'->X.xe e s'
section
variable{X:Cx}{CX:CXT}{k:Nat}{f C:KP}{fd:KR}{ps:KW Str}{sp:Sp}{GG:KW V}{ds:KW KN}{E:XK}{x m:Str}{p pos GC:Pos}{e o:KY}{es:KW KY}{ta:TE}{t:TA}
theorem ow{σ:St}{Q:VK}(F:FnOk X.prog X.w X.K X.mg X.base CX k f fd ps sp)(hr:Room k X.A)(hb:cL X.K fd ps ds)(hd:ao GG ds)(hx:cr CX X E)
  (I:Inv X Gn σ H s) (r:ao vs us) (h:sp (vs++GG) H Q E):wpAny (model X.prog X.w) X.A (call (.ref f) us) (EP X Gn σ Q) X.xe s:=by
 have r2:ao (vs++GG) (us++ds):=r.append hd;have hl:(us++ds).length=ps.length:=by rw[<-r2.length];exact F.len _ _ _ _ h
 refine wpAny_call (CD (F.run X.A X.stack s H ⟨us,[]⟩ (us++ds) (vs++GG) Q E hr I.env0 (hb s us I.kIn hl) r2 h) λr s' hq=>?_);cases r with
 |error e=>exact hx Gn σ H s e s' I hq
 |ok fl=>
  cases fl with
  |ret u=>exact I.after hq
  |next=>exact False.elim hq
  |brk=>exact False.elim hq
  |cont=>exact False.elim hq
theorem aA(F:FnOk X.prog X.w X.K X.mg X.base CX k f fd ps sp)(hr:Room k X.A)(hg:Gl X x)(hm:X.mg x=some (.ref f))(hk:W.keepIn X.K (.ref f)=true)(hb:cL X.K fd ps ds)(hd:ao GG ds)(hx:cr CX X E)
  (ha:PA X (e::es) t) (Ie:(x==("__debug__":Str))=false:=by decide) (he:starEach (e::es) X.env=(false,eval e X.env)::starEach es X.env:=by rfl) (G5:(backTo pos (starEach es X.env)).any (·.1)=false:=by rfl):
  PE X (.Call (.Name x p) (e::es) [] pos) (ll sp GG E t):=by
 intro Gn s σ H Q I h;refine BH (fV I hg hm ?_ Ie);refine D9 (h₀:=X.base) I.ok.mod.kin hk (thn (ha pos Gn s σ H _ I h) λus s1 zu39=>?_) he G5;obtain⟨vs,H1,I1,r,q⟩:=zu39;refine⟨I1.kIn,?_⟩;exact ow F hr hb hd hx I1 r q
theorem iI{pl:Sem Bool}(he:PE X o ta)(c:Cls X.K C)(hm:Meth X.K C m f)(F:FnOk X.prog X.w X.K X.mg X.base CX k f fd ps sp)(hr:Room k X.A)(hb:cL X.K fd ps ds)(hd:ao GG ds)(hx:cr CX X E)(ha:PA X (e::es) t)
  (Hw:starEach (e::es) X.env=(false,eval e X.env)::starEach es X.env:=by rfl) (G5:(backTo pos (starEach es X.env)).any (·.1)=false:=by rfl)
  (ht:eval (.Call (.Attribute o m GC) (e::es) [] pos) X.env=(do
   let ov<-eval o X.env
   standAt GC.atName
   let (f,first)<-holding [ov] (getMethod ov m pl)
   callWith pos f first (backTo pos (starEach (e::es) X.env)) (backToKw pos (keywordEach [] X.env))):=by rfl):
  PE X (.Call (.Attribute o m GC) (e::es) [] pos) (ou C m sp GG E ta t):=by
 intro Gn s σ H Q I h;refine W.methodCall_KW (pl:=pl) (thn (he Gn s σ H _ I h) λu s1 zu40=>?_) ht;obtain⟨x,H1,I1,rx,a,dx,fs,ex,ea,l,q⟩:=zu40;subst ex;obtain rfl:u=Value.ref a:=rx;refine om I1 ea c hm l ?_;refine D9 (first:=[.ref a]) (h₀:=X.base) I.ok.mod.kin hm.kp (thn (ha pos Gn s1 σ H1 _ I1 q) λus s2 zu41=>?_) Hw G5;obtain⟨vs,H2,I2,r,q2⟩:=zu41;refine⟨I2.kIn,?_⟩;exact ow (us:= .ref a::us) (vs:= .ref a::vs) F hr hb hd hx I2 (.cons rfl r) q2
structure Mk(K:W.Frag)(C f:KP):Prop where
 makes:W.makesIn K C=true
 init:W.findIn K (.ref C) "__init__"=some (some (.ref f))
 fn:W.isFn K (.ref f)=true
 kp:W.keepIn K (.ref C)=true
theorem vD{σ:St}{Q:VK}(M:Mk X.K C f)(F:FnOk X.prog X.w X.K X.mg X.base CX k f fd ps sp)(hr:Room (k+1) X.A)(hb:cL X.K fd ps ds)(hd:ao GG ds)
  (hx:cr CX X E) (I:Inv X Gn σ H s) (r:ao vs us)
  (h:∀x dx,H x=none->H dx=none->dx≠x->sp (.ref x::(vs++GG)) (upd (upd H dx (.own x)) x (.ins C dx [])) (λv H2=>v=.non/\Q (.ref x) H2) E):
  wpAny (model X.prog X.w) X.A (call (.ref C) us) (EP X Gn σ Q) X.xe s:=by
 have hq:=h (s.heap.objs.size+1) s.heap.objs.size (I.hok.fresh (Bj _)) (I.hok.fresh (A8 _)) (AE (B8 _));have I2:=Inv.made (C:=C) I;have r2:ao (V.ref (s.heap.objs.size+1)::(vs++GG)) (Value.ref (s.heap.objs.size+1)::(us++ds)):= .cons rfl (r.append hd);have hl:(Value.ref (s.heap.objs.size+1)::us++ds).length=ps.length:=by
  have e:=r2.length;rw[F.len _ _ _ _ hq] at e;exact e.symm
 refine wpAny_call (vj (f:=f) I.kIn M.makes M.init (BM.mp M.fn) (CD (F.run _ X.stack _ _ ⟨Value.ref (s.heap.objs.size+1)::us,[]⟩ (Value.ref (s.heap.objs.size+1)::(us++ds)) _ _ E (hr.make C us [])
  (I2.env0.make C us []) (hb _ (Value.ref (s.heap.objs.size+1)::us) I2.kIn hl) r2 hq) λr s' Jk=>?_))
 cases r with
 |error e=>exact hx Gn σ _ _ e s' I2 Jk
 |ok fl=>
  cases fl with
  |ret u=>
   obtain⟨v,H',I3,rv,ev,q3⟩:=I2.after Jk;subst ev;exact⟨rv,⟨V.ref (s.heap.objs.size+1),H',I3,rfl,q3⟩⟩
  |next=>exact False.elim Jk
  |brk=>exact False.elim Jk
  |cont=>exact False.elim Jk
theorem vE(M:Mk X.K C f)(F:FnOk X.prog X.w X.K X.mg X.base CX k f fd ps sp)(hr:Room (k+1) X.A)(hg:Gl X x)(hm:X.mg x=some (.ref C))(hb:cL X.K fd ps ds)(hd:ao GG ds)(hx:cr CX X E)
  (Ie:(x==("__debug__":Str))=false:=by decide):PE X (.Call (.Name x p) [] [] pos) (vC C sp GG E lg):=by
 intro Gn s σ H Q I h;refine BH (fV I hg hm ?_ Ie);exact W.callWith_K0 I.kIn M.kp (vD (us:=[]) M F hr hb hd hx I .nil h)
end
structure FnScope(N P:KW Str)(sc:Scope):Prop where
 kind:sc.kind=.function
 co:sc.isCoroutine=false
 gen:sc.isGenerator=false
 nd:N.Nodup
 pre:N.take P.length=P
 par:∀x∈P,sc.names.lookup x=some .local\/sc.names.lookup x=some .cell
 nofree:∀y∈sc.names,y.2≠ .free
theorem ox{kindOf:Str->K0 NameKind}{x:Str}:∀{binds:KW (Str×KN)}{m:Str->K0 KN},(∀v,(x,v)∉binds)->bindL kindOf binds m x=m x
 |[],_,_=>rfl
 |(n,v)::r,m,h=>by
  unfold bindL;rw[ox λw hw=>h w (AU _ hw)];split
  .have:x≠n:=by rintro rfl;exact h v Ai
   simp[this]
  .rfl
theorem oy{kindOf:Str->K0 NameKind}{x:Str}:∀{binds:KW (Str×KN)}{m:Str->K0 KN},(∀v,(x,v)∉binds)->bindC kindOf binds m x=m x
 |[],_,_=>rfl
 |(n,v)::r,m,h=>by
  unfold bindC;rw[oy λw hw=>h w (AU _ hw)];split
  .rfl
  .have:x≠n:=by rintro rfl;exact h v Ai
   simp[this]
theorem oz{kindOf:Str->K0 NameKind}{x:Str}{v:KN}:∀{P:KW Str}{vs:KW KN}{i:Nat}{m:Str->K0 KN},P.Nodup->P[i]? =some x->vs[i]? =some v->kindOf x=some .local->
  bindL kindOf (P.zip vs) m x=some v
 |[],_,_,_,_,h,_,_=>by simp at h
 |_::_,[],_,_,_,_,h,_=>by simp at h
 |p::P,w::vs,0,m,nd,h1,h2,hk=>by
  simp at h1 h2;subst h1;subst h2;show bindL kindOf ((p,w)::P.zip vs) m p=_;unfold bindL;rw[ox λv hv=>(Bd.mp nd).1 (List.of_mem_zip hv).1,A9 hk];simp
 |p::P,w::vs,i+1,m,nd,h1,h2,hk=>by
  show bindL kindOf ((p,w)::P.zip vs) m x=_;unfold bindL;exact oz (i:=i) (Bd.mp nd).2 (by simpa using h1) (by simpa using h2) hk
theorem oA{kindOf:Str->K0 NameKind}{x:Str}{v:KN}:∀{P:KW Str}{vs:KW KN}{i:Nat}{m:Str->K0 KN},P.Nodup->P[i]? =some x->vs[i]? =some v->kindOf x≠some .local->
  bindC kindOf (P.zip vs) m x=some v
 |[],_,_,_,_,h,_,_=>by simp at h
 |_::_,[],_,_,_,_,h,_=>by simp at h
 |p::P,w::vs,0,m,nd,h1,h2,hk=>by
  simp at h1 h2;subst h1;subst h2;show bindC kindOf ((p,w)::P.zip vs) m p=_;unfold bindC;rw[oy λv hv=>(Bd.mp nd).1 (List.of_mem_zip hv).1,A6 hk];simp
 |p::P,w::vs,i+1,m,nd,h1,h2,hk=>by
  show bindC kindOf ((p,w)::P.zip vs) m x=_;unfold bindC;exact oA (i:=i) (Bd.mp nd).2 (by simpa using h1) (by simpa using h2) hk
def start(N:KW Str)(vs:KW V):St:=vs.map some++List.replicate (N.length-vs.length) none
def bC(CX:CXT)(P:KQ)(w:KS)(K:W.Frag)(mg:Str->K0 KN)(base:KZ)(N:KW Str)(Gs:Str)(scope:Scope)(f:KP)(cd:KN)(A:KU)(outer:KW Env)(s:KO)(H:Hp)(E:XK):Cx where
 prog:=P
 w:=w
 K:=K
 mg:=mg
 base:=base
 A:=A.deeper (envOfC Gs scope s.heap.objs.size f cd)
 N:=N
 s₀:=s
 H₀:=H
 env:=envOfC Gs scope s.heap.objs.size f cd
 outer:=outer
 stack:=envOfC Gs scope s.heap.objs.size f cd::outer
 ex:=[]
 calm:=true
 fn:=λ_=>true
 pn:=[]
 xe:=λe s'=>wpAny (model P w) (A.deeper (envOfC Gs scope s.heap.objs.size f cd)) (leaving (envOfC Gs scope s.heap.objs.size f cd) e) (λ_ HJ=>CX outer H s E e HJ) (λe' HJ=>CX outer H s E e' HJ) s'
theorem oB{sc:Scope}(h:sc.names.lookup x=some .cell):∃c,(cellsFrom n sc.names []).lookup x=some c:=by
 have q:=W.cellsFrom_some sc.names n [] (.inl h);exact Option.isSome_iff_exists.mp q
theorem oC{cd:KN}{s1:KO}{E:XK}
  (S:FnScope N ps scope) (hd:A.handled=none) (e0:Env0 P w K mg base A outer s H) (hl:vs.length=ps.length) (r:ao vs us)
  (x:InCallC s s.heap.objs.size (bindL (envOfC Gs scope s.heap.objs.size f cd).kindOf (ps.zip us) λ_=>none) (cellsFrom (s.heap.objs.size+1) scope.names []) (bindC (envOfC Gs scope s.heap.objs.size f cd).kindOf (ps.zip us) λ_=>none) s1):
  Inv (bC CX P w K mg base N Gs scope f cd A outer s H E) [] (start N vs) H s1:=by
 have G5:ps.length<=N.length:=by have:=Ah List.length S.pre;rw[Ao] at this;lia
 obtain⟨h1,tk,rfl,hk⟩:=x.done;have noA:∀b:KP,b∉(bC CX P w K mg base N Gs scope f cd A outer s H E).ex:=λb z=>absurd (show b∈([]:KW KP) from z) (by simp);refine⟨⟨e0.mod,S.kind,rfl,rfl,A8 _,λy z c h1 h2=>?_,λy hy=>?_,λy c _ h=>?_,λ_=>hd,Around.frames_deeper e0.frames,.inr ⟨rfl,rfl⟩,λb z=>absurd z (noA b),e0.bs,e0.bsz,λb _ _=>noA b,λb z=>absurd z (noA b),e0.funs,e0.frf⟩,
  rfl,e0.bare,Un.kept hk,⟨_,x.toInCall.ns,λi y v h1 h2 h3=>?_⟩,λy c h=>⟨_,x.cell y c h⟩,e0.hok.fresh (A8 _),λy c h=>?_,λp hp=>absurd (show p∈([]:KW (KP×Obj)) from hp) (by simp),e0.hok.kept hk,?_⟩
 .exact name_of_addr x.apart (BS h1) (BS h2)
 .have hy:scope.names.lookup y=some .cell\/scope.names.lookup y=some .free:=hy;rcases hy with hy|hy
  .exact oB hy
  .exact absurd rfl (S.nofree _ (BS hy))
 .exact Ar (x.above y c (BS h))
 .have hi:i<vs.length:=by
   unfold start at h2;by_cases hi:i<vs.length
   .exact hi
   .rw[CJ (by simpa using hi)] at h2;rw[List.getElem?_replicate] at h2;split at h2<;>cases h2
  have ha:vs[i]? =some v:=by
   unfold start at h2;rw[CP (by simpa using hi),AF] at h2;cases e:vs[i]? with
   |none=>rw[e] at h2;cases h2
   |some a=>rw[e] at h2;cases h2;rfl
  obtain⟨u,hu,rv⟩:=r.get ha;have hp:ps[i]? =some y:=by
   rw[<-S.pre,List.getElem?_take_of_lt (by lia)];exact h1
  have ndP:ps.Nodup:=by rw[<-S.pre];exact S.nd.sublist (List.take_sublist _ _)
  refine⟨u,rv,?_⟩;rcases S.par y (Aa hp) with k|k
  .exact .inl ⟨k,oz ndP hp hu k⟩
  .obtain⟨c,e⟩:=oB (n:=s.heap.objs.size+1) k;refine .inr ⟨.inl k,c,e,?_⟩;have q:=x.cell y c e;rw[oA ndP hp hu (by show scope.names.lookup y≠_;rw[k];decide)] at q;exact q
 .exact e0.hok.fresh (Ar (x.above y c (BS h)))
 .unfold start;show _=N.length;rw[AX,A3,Ct];lia
theorem lp{name:Str}{params:Arguments}{dV kV Hl pm Gu ct oc:KN}{an od:K0 KP}
  {IL:Array (K0 KN)}(lk:K.lookup f=some ⟨oc,od,.func (W.fnOf name Gs params body scope dV kV Hl pm an Gu ct),IL⟩) (G6:W.codeIn K Gu Gs=true) (S:FnScope N ps scope)
  (len:∀vs H Q E,sp vs H Q E->vs.length=ps.length)
  (GI:∀(A:KU) (outer:KW Env) (s:KO) (H:Hp) (vs:KW V) (Q:VK) (E:XK),Room k (A.deeper (envOfC Gs scope s.heap.objs.size f Gu))->sp vs H Q E->
   ∃t,PSs (bC CX P w K mg base N Gs scope f Gu A outer s H E) body t/\t {nx:=λ_ H'=>Q .non H',rt:=Q} (start N vs) H):
  FnOk P w K mg base CX (k+1) f (W.fnOf name Gs params body scope dV kV Hl pm an Gu ct) ps sp:=by
 refine⟨len,λA outer s H args us vs Q E hr e0 hb r HK=>?_⟩;have hl:=len _ _ _ _ HK;have KX:K.In s.heap:=e0.mod.kin.keeps λb o e=>(e0.bs b o e).1;have lim:s.heap.NoLimit:=e0.mod.nolimit.keeps λb o e=>(e0.bs b o e).1;have GE:∀y∈ps.zip us,scope.names.lookup y.1=some .local\/(scope.names.lookup y.1=some .cell/\((cellsFrom (s.heap.objs.size+1) scope.names []).lookup y.1).isSome=true):=λHv hy=>by
  obtain⟨n,v⟩:=Hv;rcases S.par n (List.of_mem_zip hy).1 with q|q
  .exact .inl q
  .exact .inr ⟨q,W.cellsFrom_some _ _ _ (.inl q)⟩
 refine codeAny_call_function hr.depth (KX _ _ lk) rfl S.co S.gen rfl (W.codeRec_of KX G6) (hb _ _ _ _ ?_);refine wpAny_newFunctionEnv_cells S.kind GE λenv he s1 x=>?_;subst he;refine⟨lim.keeps x.toInCall.keep,codeAny_func ?_⟩;obtain⟨t,ht,hq⟩:=GI A outer s H vs Q E (hr.deeper _) HK;have I:Inv (bC CX P w K mg base N Gs scope f Gu A outer s H E) [] (start N vs) H s1:=oC S hr.hd e0 hl r x;refine BD (ht [] s1 (start N vs) H _ I hq) (λfl s' hs=>?_) λe s' hs=>hs;have fin:∀{σ':St}{H':Hp}{v:V}{u:KN},Inv (bC CX P w K mg base N Gs scope f Gu A outer s H E) [] σ' H' s'->ar v u->Q v H'->CE outer P w H s Q u s':=
  fun{σ' H' v u} J rv q=>⟨v,H',J.os,J.bare,J.base,J.hok,rv,q⟩
 cases fl with
 |ret u=>
  obtain⟨v,σ',H',J,rv,q⟩:=hs;exact fin J rv q
 |next=>
  obtain⟨σ',H',J,q⟩:=hs;exact fin (v:=V.non) (u:=Value.none) J rfl q
 |brk=>
  obtain⟨_,_,_,q⟩:=hs;exact False.elim q
 |cont=>
  obtain⟨_,_,_,q⟩:=hs;exact False.elim q
section
variable{X:Cx}{x:Str}{p pos:Pos}{e:KY}{es:KW KY}{t:TA}{id T:String}{r:KW V->Hp->VK->Prop}
def tCB(r:KW V->Hp->VK->Prop)(t:TA):TE:=λσ H Q=>t σ H λvs H1=>r vs H1 Q
theorem aZ(hc:bB X (.builtin id) r)(hg:Gl X x)(hm:X.mg x=none)(hv:bootBuiltins x=some (.builtin id))(ha:PA X (e::es) t)(hn:x≠"__name__":=by decide)(Ie:(x==("__debug__":Str))=false:=by decide)
  (he:starEach (e::es) X.env=(false,eval e X.env)::starEach es X.env:=by rfl) (G5:(backTo pos (starEach es X.env)).any (·.1)=false:=by rfl):PE X (.Call (.Name x p) (e::es) [] pos) (tCB r t):=by
 intro Gn s σ H Q I h;refine BH (dw I hg hm hv ?_ hn Ie);exact Cu (thn (ha pos Gn s σ H _ I h) λus s1 GB=>by obtain⟨vs,H1,I1,r1,q1⟩:=GB;exact hc Gn s1 σ H1 vs us Q I1 r1 q1) he G5
theorem bH(hc:bB X (.type T) r)(hg:Gl X x)(hm:X.mg x=none)(hv:bootBuiltins x=some (.type T))(ha:PA X (e::es) t)(hn:x≠"__name__":=by decide)(Ie:(x==("__debug__":Str))=false:=by decide)
  (he:starEach (e::es) X.env=(false,eval e X.env)::starEach es X.env:=by rfl) (G5:(backTo pos (starEach es X.env)).any (·.1)=false:=by rfl):PE X (.Call (.Name x p) (e::es) [] pos) (tCB r t):=by
 intro Gn s σ H Q I h;refine BH (dw I hg hm hv ?_ hn Ie);exact BP (thn (ha pos Gn s σ H _ I h) λus s1 GB=>by obtain⟨vs,H1,I1,r1,q1⟩:=GB;exact hc Gn s1 σ H1 vs us Q I1 r1 q1) he G5
end
end L2
namespace HT
open PySem PyProof.Rows
variable{Q:KN->KO->Prop}{hi lo:K0 Int}{sl:KP}{vl vu:KN}
section
open PySem.SeqAt
open PySem.AutoSeq1 (wpAny_loadPart')
open PySem.MeetsSeq PySem.MeetsSeq2 PySem.MeetsSeq3
end
section
variable{prog:KQ}{w:KS}{A:KU}{E:KN->KO->Prop}{s:KO}
theorem cat_tup{t b:KP}{vs ws:KW KN}(ht:IsTup s.heap t vs.toArray)(hb:IsTup s.heap b ws.toArray)(hv:vs≠[])
  (h1:ws=[]->Q (.ref t) s) (h2:ws≠[]->Q (.ref s.heap.objs.size) {s with heap:=s.heap.push {cls:= .type "tuple",data:= .seq (vs++ws).toArray}})
  (hsz:vs.length+ws.length<=sizeLine):wpAny (model prog w) A (binaryOp .Add (.ref t) (.ref b)) Q E s:=by
 obtain⟨⟨cls,dd,data,sl⟩,ho,hc,n,hd⟩:=id ht;obtain⟨⟨Js,HL,data2,Hx⟩,G9,HM,n2,G4⟩:=id hb;simp only at hc hd HM G4;subst hc hd HM G4;have e:vs.toArray++ws.toArray=(vs++ws).toArray:=by simp
 by_cases hw:ws=[]
 .exact concat_meets ⟨_,ho,rfl⟩ ⟨_,G9,rfl⟩ noFill_tuple_add seq_tuple_add PySem.F.slot_tuple_add PySem.F.entry_tuple_add (PySem.F.args_tuple_add_2 _ _)
   (tuple_addW1 t b vs.toArray ws.toArray n n2 dd HL sl Hx (by simpa using hv) (by simp[hw])) ⟨ho,G9,h1 hw⟩
 .refine concat_meets ⟨_,ho,rfl⟩ ⟨_,G9,rfl⟩ noFill_tuple_add seq_tuple_add PySem.F.slot_tuple_add PySem.F.entry_tuple_add (PySem.F.args_tuple_add_2 _ _)
   (tuple_addW2 t b vs.toArray ws.toArray n n2 dd HL sl Hx (by simpa using hv) (by simpa using hw) (by rw[AA,AA];exact hsz)) ⟨ho,G9,?_⟩
  rw[e];exact h2 hw
def sIx(n d:Nat):K0 Int->Nat
 |none=>d
 |some v=>if v<0 then(v+(n:Int)).toNat else min v.toNat n
def sIx_none(n d:Nat):sIx n d none=d:=rfl
theorem sIx_nat(n d k:Nat):sIx n d (some (k:Int))=min k n:=by
 show(if(k:Int)<0 then((k:Int)+(n:Int)).toNat else min (k:Int).toNat n)=min k n;rw[A6 (by lia),B0]
theorem vF(n d:Nat)(hd:d<=n)(o:K0 Int):sIx n d o<=n:=by
 cases o with
 |none=>exact hd
 |some v=>
  show(if v<0 then(v+(n:Int)).toNat else min v.toNat n)<=n;by_cases hv:v<0
  .rw[A9 hv];lia
  .rw[A6 hv];exact Nat.min_le_right _ _
theorem oE(v:Int)(n d:Nat):(if v<0 then max (v+(n:Int)) 0 else min v (n:Int))=((sIx n d (some v):Nat):Int):=by
 show(if v<0 then max (v+(n:Int)) 0 else min v (n:Int))=(((if v<0 then(v+(n:Int)).toNat else min v.toNat n):Nat):Int);by_cases hv:v<0
 .simp only[A9 hv];lia
 .simp only[A6 hv];lia
theorem vG(lo hi:K0 Int)(n:Nat):Builtin.Slice.sliceAdjust lo hi 1 (n:Int)=(((sIx n 0 lo:Nat):Int),((sIx n n hi:Nat):Int)):=by
 have h1:¬((1:Int)<0):=by lia
 unfold Builtin.Slice.sliceAdjust;simp only[h1,At];refine Prod.ext ?_ ?_
 .cases lo with
  |none=>rfl
  |some v=>exact oE v n 0
 .cases hi with
  |none=>rfl
  |some v=>exact oE v n n
theorem vH(i j:Nat):Builtin.Slice.slicePlaces (i:Int) (j:Int) 1=j-i:=by
 unfold Builtin.Slice.slicePlaces;have h1:(1:Int)>0:=by lia
 simp only[h1,Bh,Int.ediv_one];split<;>lia
theorem oF{v:KN}{o:K0 Int}{Q:K0 Int->KO->Prop}(p:IsPart v o)(h:Q o s):wpAny (model prog w) A (Builtin.Slice.slicePartIndex v) Q E s:=by
 cases p with
 |none=>exact slicePart_none h
 |int i t=>exact slicePart_int h
theorem oG{n:Nat}{Q:Int×Int×Nat->KO->Prop}(hs:s.heap.IsSliceOf sl vl vu .none)(pl:IsPart vl lo)(pu:IsPart vu hi)
  (h:Q (((sIx n 0 lo:Nat):Int),1,sIx n n hi-sIx n 0 lo) s):wpAny (model prog w) A (Builtin.Slice.sliceApplied (.ref sl) (pure (n:Int))) Q E s:=by
 obtain⟨os,Ke,hcs,hds⟩:=id hs;unfold Builtin.Slice.sliceApplied Builtin.Slice.sliceFields;refine A0 (A0 (BB Ke hds (x:=vl) rfl (A0 (BB Ke hds (x:=vu) rfl (A0 (BB Ke hds (x:= .none) rfl (A2 ?_)))))));refine A0 (slicePart_none ?_);show wpAny _ _ (if((1:Int)==0)=true then _ else _) _ _ s;rw[A6 (by decide)];refine A0 (oF pl (A0 (oF pu (A0 (A2 ?_)))));show wpAny _ _ (match Builtin.Slice.sliceAdjust lo hi 1 (n:Int) with|(lo,hi)=>pure (lo,(1:Int),Builtin.Slice.slicePlaces lo hi 1)) _ _ s;rw[vG lo hi n];show wpAny _ _ (pure (((sIx n 0 lo:Nat):Int),(1:Int),Builtin.Slice.slicePlaces ((sIx n 0 lo:Nat):Int) ((sIx n n hi:Nat):Int) 1)) _ _ s;rw[vH];exact A2 h
theorem vI(xs:Array KN)(i k:Nat):((List.range k).filterMap fun(m:Nat)=>xs[((i:Int)+(m:Int)*1).toNat]?).toArray=((xs.toList.drop i).take k).toArray:=by
 have e:(fun(m:Nat)=>xs[((i:Int)+(m:Int)*1).toNat]?)=λm=>xs[i+m]? :=by
  funext m
  have:((i:Int)+(m:Int)*1).toNat=i+m:=by lia
  rw[this]
 rw[e];have:=pick_run xs i k;rw[List.filterMap_map] at this;have e2:((λx=>xs[x]?)∘λx=>i+x)=λm=>xs[i+m]? :=rfl;rw[e2] at this;rw[this]
theorem getItem_tuple_cut{t:KP}{items:Array KN}(ht:IsTup s.heap t items)(hs:s.heap.IsSliceOf sl vl vu .none)(pl:IsPart vl lo)(pu:IsPart vu hi)
  (hw:¬(sIx items.size 0 lo=0/\sIx items.size items.size hi=items.size))
  (h:Q (.ref s.heap.objs.size) {s with heap:=s.heap.push {cls:= .type "tuple",data:= .seq ((items.toList.drop (sIx items.size 0 lo)).take (sIx items.size items.size hi-sIx items.size 0 lo)).toArray}})
  (hsz:items.size<=sizeLine):wpAny (model prog w) A (getItem (.ref t) (.ref sl)) Q E s:=by
 have Iu:sizeOk (.seq ((items.toList.drop (sIx items.size 0 lo)).take (sIx items.size items.size hi-sIx items.size 0 lo)).toArray):=by
  show((items.toList.drop (sIx items.size 0 lo)).take (sIx items.size items.size hi-sIx items.size 0 lo)).toArray.size<=sizeLine;rw[AA,Ao,CN,AV];lia
 have hj:sIx items.size items.size hi<=items.size:=vF _ _ (A8 _) hi;obtain⟨os,Ke,hcs,hds⟩:=id hs;have hTs:s.TypeIs (.ref sl) "slice":=⟨os,Ke,hcs⟩;unfold getItem;try with_reducible refine Ap ?_
 first|refine A0 (A2 ?_)|skip
 refine A0 (wpAny_sequenceKey ht.typeIs (by decide) ?_);refine A0 (B2 (name:=Str.ofString "__getitem__") ht.typeIs BE
  (Ag BE ht.typeIs entry_tuple_getitem ?_ (args_tuple_getitem _ _)))
 show wpAny _ _ (Builtin.Tuple.tupleItemsOf (.ref t)>>=_) _ _ s;refine A0 (tupleItemsOf_ ht ?_);refine A0 (DD hTs ?_);rw[A9 (by decide)];refine A0 (oG hs pl pu ?_);have Iv:¬((((sIx items.size 0 lo:Nat):Int)==0&&(1:Int)==1&&(sIx items.size items.size hi-sIx items.size 0 lo)==items.size)=true):=by
  intro q;rw[AB,AB] at q;have q1:((sIx items.size 0 lo:Nat):Int)=0:=eq_of_beq q.1.1;have q2:sIx items.size items.size hi-sIx items.size 0 lo=items.size:=eq_of_beq q.2;exact hw ⟨by lia,by lia⟩
 show wpAny _ _ (if(((sIx items.size 0 lo:Nat):Int)==0&&(1:Int)==1&&(sIx items.size items.size hi-sIx items.size 0 lo)==items.size)=true then _ else _) _ _ s;rw[A6 Iv,vI];first
  |exact A0 (m:=Builtin.Tuple.tupleExact _) (Aq (A2 ⟨_,rfl,A2 h⟩) Iu)
  |exact A0 (m:=Builtin.Tuple.tupleExact _) (Aq (A0 (A2 (A2 ⟨_,rfl,A2 h⟩))) Iu)
  |exact A0 (A0 (m:=Builtin.Tuple.tupleExact _) (Aq (A2 (A2 ⟨_,rfl,A2 h⟩)) Iu))
  |exact A0 (A0 (m:=Builtin.Tuple.tupleExact _) (Aq (A2 ⟨_,rfl,A2 h⟩) Iu))
end
end HT
namespace L2
open PySem PySem.Spec PyProof.Rows
variable{Gn:KW (KP×Obj)}{H:Hp}{i:Int}{j n:Nat}{s:KO}{xs:KW V}
abbrev TO:=St->Hp->(K0 Int->Hp->Prop)->Prop
def PO(X:Cx)(e:K0 KY)(t:TO):Prop:=
 ∀(Gn:KW (KP×Obj)) (s:KO) (σ:St) (H:Hp) (Q:K0 Int->Hp->Prop),Inv X Gn σ H s->t σ H Q->
  wpAny (model X.prog X.w) X.A (evalPart e X.env) (λu s'=>∃o H',Inv X Gn σ H' s'/\IsPart u o/\Q o H') X.xe s
def vJ:TO:=λ_ H Q=>Q none H
inductive tPart_(Q:(Option Int->Hp->Prop))(x:V)(H1:Hp):Prop
 |mk i:x=.int i->Q (some i) H1->tPart_ Q x H1
def vK(t:TE):TO:=λσ H Q=>t σ H λx H1=>tPart_ Q x H1
theorem oH{ns:KW Int}:∀{us:KW KN},ao (ns.map V.int) us->IntsAre us ns:=by
 induction ns with
 |nil=>intro us r;rw[List.map_nil] at r;cases r;exact .nil
 |cons n ns ih=>
  intro us r;rw[AM] at r;cases r with
  |cons r1 r2=>
   obtain⟨t,e⟩:=r1;subst e;exact .cons n t (ih r2)
section
variable{X:Cx}{e:KY}{te:TE}{lo hi:K0 KY}{tl th:TO}{pos p2:Pos}
theorem fZ:PO X none vJ:=by
 intro Gn s σ H Q I h;rw[evalPart_none];exact A2 ⟨none,H,I,.none,h⟩
theorem eE(h:PE X e te):PO X (some e) (vK te):=by
 intro Gn s σ H Q I hw;rw[evalPart_some];refine thn (h Gn s σ H _ I hw) λu s1 zu42=>?_;obtain⟨x,H1,I1,r1,q1⟩:=zu42;obtain⟨i,rfl,q⟩:=q1;obtain⟨t,rfl⟩:=r1;exact⟨some i,H1,I1,.int i t,q⟩
def SlR(X:Cx)(r:V->K0 Int->K0 Int->Hp->VK->Prop):Prop:=
 ∀(Gn:KW (KP×Obj)) (s:KO) (σ:St) (H:Hp) (x:V) (v vl vu:KN) (lo hi:K0 Int) (sl:KP) (Q:VK),Inv X Gn σ H s->ar x v->s.heap.IsSliceOf sl vl vu .none->IsPart vl lo->IsPart vu hi->r x lo hi H Q->
  ∃T id,typeLookup (.type T) "__getitem__"=pure (some (.builtin id))/\s.TypeIs v T/\wpAny (model X.prog X.w) X.A (getItem v (.ref sl)) (EP X Gn σ Q) X.xe s
def tSl(r:V->K0 Int->K0 Int->Hp->VK->Prop)(te:TE)(tl th:TO):TE:=λσ H Q=>te σ H λx H1=>tl σ H1 λl H2=>th σ H2 λu H3=>r x l u H3 Q
theorem fq{r:V->K0 Int->K0 Int->Hp->VK->Prop}(hr:SlR X r)(he:PE X e te)(hl:PO X lo tl)(hu:PO X hi th):PE X (.Subscript e (.Slice lo hi none p2) pos) (tSl r te tl th):=by
 intro Gn s σ H Q I h;refine Subscript_ (thn (he Gn s σ H _ I h) λv s1 zu43=>?_);obtain⟨x,H1,I1,r1,q1⟩:=zu43;refine wpAny_Slice (thn (hl Gn s1 σ H1 _ I1 q1) λvl s2 zu44=>?_);obtain⟨l,H2,I2,pl,q2⟩:=zu44;refine thn (hu Gn s2 σ H2 _ I2 q2) λvu s3 zu45=>?_;obtain⟨u,H3,I3,pu,q3⟩:=zu45;rw[evalPart_none];refine A2 ?_;have I4:Inv X Gn σ H3 {s3 with heap:=s3.heap.push {cls:= .type "slice",data:= .fields #[vl,vu,.none]}}:=I3.kept (t':=s3.toks) λb ob q=>A4 _ q;obtain⟨T,id,hT,ht,hg⟩:=hr Gn {s3 with heap:=s3.heap.push {cls:= .type "slice",data:= .fields #[vl,vu,.none]}} σ H3 x v vl vu l u s3.heap.objs.size Q I4 r1 (Heap.IsSliceOf.new ..) pl pu q3;show wpAny (model X.prog X.w) X.A (subscriptTail e (.Slice lo hi none p2) v (.ref s3.heap.objs.size)) (EP X Gn σ Q) X.xe {s3 with heap:=s3.heap.push {cls:= .type "slice",data:= .fields #[vl,vu,.none]}};exact tail_any (ops:=[.ref s3.heap.objs.size,v]) ht hT hg (by with_unfolding_all rfl)
def bh(xs:KW V)(lo hi:K0 Int):KW V:=(xs.drop (HT.sIx xs.length 0 lo)).take (HT.sIx xs.length xs.length hi-HT.sIx xs.length 0 lo)
theorem oI(xs:KW V)(lo hi:K0 Int):(bh xs lo hi).length<=xs.length:=by
 unfold bh;rw[Ao,CN];lia
inductive rSlT(K:W.Frag)(x:V)(lo:Option Int)(hi:Option Int)(H:Hp)(Q:VK):Prop
 |mk a xs:x=.ref a->SqT K H a xs->¬(HT.sIx xs.length 0 lo=0/\HT.sIx xs.length xs.length hi=xs.length)->(∀p,H p=none->Q (.ref p) (upd H p (.tup (bh xs lo hi))))->rSlT K x lo hi H Q
theorem vL:SlR X (rSlT X.K):=by
 intro Gn s σ H x v vl vu lo hi sl Q I rx hs pl pu h;obtain⟨a,xs,rfl,hx,hw,q⟩:=h;cases rx;obtain⟨Gq,r,ht,hz⟩:=I.tuple hx;have Gv:Gq.toArray.size=xs.length:=by rw[AA];exact r.length.symm
 refine⟨"tuple",_,BE.lookup,ht.typeIs,?_⟩;refine HT.getItem_tuple_cut ht hs pl pu (by rw[Gv];exact hw) ?_ (by rw[Gv];exact hz);rw[Gv];refine⟨.ref s.heap.objs.size,_,I.laid (t':=s.toks) (o:= .tup (bh xs lo hi)) (λb ob q=>A4 _ q) (A8 _) ?_,rfl,q _ (I.hok.fresh (A8 _))⟩;exact⟨Am (oI xs lo hi) hz,_,(r.drop (HT.sIx xs.length 0 lo)).take (HT.sIx xs.length xs.length hi-HT.sIx xs.length 0 lo),IsTup.new _ _⟩
inductive rCatT(K:W.Frag)(x:V)(y:V)(H:Hp)(Q:VK):Prop
 |mk a b xs ys:x=.ref a->y=.ref b->SqT K H a xs->SqT K H b ys->xs≠[]->xs.length+ys.length<=sizeLine->((ys=[]->Q (.ref a) H))->((ys≠[]->∀p,H p=none->Q (.ref p) (upd H p (.tup (xs++ys)))))->rCatT K x y H Q
theorem ao.nil_iff{us:KW KN}(r:ao xs us):us=[]↔xs=[]:=by
 cases r with
 |nil=>simp
 |cons _ _=>simp
theorem vM:OpR X (binaryOp .Add) (rCatT X.K):=by
 intro Gn s σ H x y v u Q I rx ry h;obtain⟨a,b,xs,ys,rfl,rfl,ha,hb,hx,hz,q1,q2⟩:=h;cases rx;cases ry;obtain⟨Gq,r1,p1,_⟩:=I.tuple ha;obtain⟨Hy,r2,p2,_⟩:=I.tuple hb;refine HT.cat_tup p1 p2 (λz=>hx (r1.nil_iff.mp z)) (λz=>⟨.ref a,H,I,rfl,q1 (r2.nil_iff.mp z)⟩) (λz=>?_) (by rw[<-r1.length,<-r2.length];exact hz);refine⟨.ref s.heap.objs.size,_,I.laid (t':=s.toks) (o:= .tup (xs++ys)) (λb ob q=>A4 _ q) (A8 _) ?_,rfl,q2 (λw=>z (r2.nil_iff.mpr w)) _ (I.hok.fresh (A8 _))⟩;exact⟨by rw[AX];exact hz,_,r1.append r2,IsTup.new _ _⟩
end
def ixN(n:Nat)(i:Int):K0 Nat:=if 0<=i then(if i<n then some i.toNat else none) else if -(n:Int)<=i then some (i+n).toNat else none
def atI{α:Type}(xs:KW α)(i:Int):K0 α:=(ixN xs.length i).bind λj=>xs[j]?
theorem oJ(h:ixN n i=some j):seqIndex? i n=some j/\j<n/\-(n:Int)<=i/\i<n:=by
 unfold ixN at h;by_cases h0:0<=i
 .rw[A9 h0] at h;by_cases h1:i<n
  .rw[A9 h1] at h;have e:i.toNat=j:=AL h;exact⟨by rw[seqIndex_of h0 h1,e],by lia,by lia,h1⟩
  .rw[A6 h1] at h;cases h
 .rw[A6 h0] at h;by_cases h1: -(n:Int)<=i
  .rw[A9 h1] at h;have e:(i+n).toNat=j:=AL h;exact⟨by rw[seqIndex_neg (by lia) h1,e],by lia,h1,by lia⟩
  .rw[A6 h1] at h;cases h
theorem oK{α:Type}{xs:KW α}{v:α}(h:atI xs i=some v):∃j,seqIndex? i xs.length=some j/\xs[j]? =some v/\j<xs.length/\-(xs.length:Int)<=i/\i<xs.length:=by
 unfold atI at h;cases e:ixN xs.length i with
 |none=>rw[e] at h;cases h
 |some j=>
  rw[e] at h;obtain⟨h1,h2,h3,h4⟩:=oJ e;exact⟨j,h1,h,h2,h3,h4⟩
theorem oM{α:Type}{xs:KW α}{v:α}(h:xs[j]? =some v):atI xs (j:Int)=some v:=by
 have hj:j<xs.length:=(AJ.mp h).1;have e:ixN xs.length (j:Int)=some j:=by
  unfold ixN;rw[A9 (by lia),A9 (by lia)];simp
 unfold atI;rw[e];exact h
def vN(b:KY):Prop:=∀o i,subscripted b false o i=operate [o,i] (getItem o i)
def IxR(X:Cx)(r:R2):Prop:=
 ∀(value slice:KY) (Gn:KW (KP×Obj)) (s:KO) (σ:St) (H:Hp) (x y:V) (v u:KN) (Q:VK),Inv X Gn σ H s->ar x v->ar y u->r x y H Q->
  subscripted slice false v u=operate [v,u] (getItem v u)->wpAny (model X.prog X.w) X.A (subscriptTail value slice v u) (EP X Gn σ Q) X.xe s
def MtR(X:Cx)(id:String)(r:V->KW V->Hp->VK->Prop):Prop:=
 ∀(Gn:KW (KP×Obj)) (s:KO) (σ:St) (H:Hp) (x:V) (xs:KW V) (v:KN) (us:KW KN) (Q:VK),Inv X Gn σ H s->ar x v->ao xs us->r x xs H Q->
  wpAny (model X.prog X.w) X.A (call (.builtin id) (v::us)) (EP X Gn σ Q) X.xe s
section
variable{X:Cx}{a b:KY}{ta tb:TE}{pos:Pos}
theorem aE{r:R2}(hr:IxR X r)(ha:PE X a ta)(hb:PE X b tb)(hs:vN b):PE X (.Subscript a b pos) (tOp r ta tb):=by
 intro Gn s σ H Q I h;exact Subscript_ (k7 ha hb I h λv u s2 x y H2 I2 rx ry q=>hr a b Gn s2 σ H2 x y v u Q I2 rx ry q (hs _ _))
inductive rIxL(K:W.Frag)(x:V)(y:V)(H:Hp)(Q:VK):Prop
 |mk p xs i v:x=.ref p->y=.int i->SqL K H p xs->atI xs i=some v->Q v H->rIxL K x y H Q
inductive rIxT(K:W.Frag)(x:V)(y:V)(H:Hp)(Q:VK):Prop
 |mk p xs i v:x=.ref p->y=.int i->SqT K H p xs->atI xs i=some v->Q v H->rIxT K x y H Q
theorem bp:IxR X (rIxL X.K):=by
 intro value slice Gn s σ H x y v u Q I rx ry h hs;obtain⟨p,xs,i,z,rfl,rfl,hq,he,q⟩:=h;cases rx;obtain⟨t,rfl⟩:=ry;obtain⟨Gq,r,pl,hz⟩:=I.list hq;obtain⟨j,h1,h2,h3,h4,h5⟩:=oK he;obtain⟨w,ew,HN⟩:=r.get h2;have hl:=r.length;have hn:=fm;have fin:EP X Gn σ Q w s:=⟨z,H,I,HN,q⟩;by_cases h0:0<=i
 .have hj:i.toNat=j:=by
   rw[seqIndex_of h0 h5] at h1;exact AL h1
  exact item_listR pl.isList h0 (by lia) (by rw[hj];simpa using ew) fin hs
 .have hj:(i+(Gq.toArray.size:Int)).toNat=j:=by
   rw[seqIndex_neg (by lia) h4] at h1;rw[AA,<-hl];exact AL h1
  exact subscriptTail_builtinR (x:=w) pl.isList.typeIs slot_list_getitem.lookup
   (wpAny_getItem_list_neg (Q:=λr s'=>r=w/\EP X Gn σ Q r s') pl.isList (by lia) (by rw[AA]<;>lia) (by lia) (by rw[hj];simpa using ew) ⟨rfl,fin⟩) hs
theorem iJ:IxR X (rIxT X.K):=by
 intro value slice Gn s σ H x y v u Q I rx ry h hs;obtain⟨p,xs,i,z,rfl,rfl,hq,he,q⟩:=h;cases rx;obtain⟨t,rfl⟩:=ry;obtain⟨Gq,r,pl,hz⟩:=I.tuple hq;obtain⟨j,h1,h2,h3,h4,h5⟩:=oK he;obtain⟨w,ew,HN⟩:=r.get h2;have hl:=r.length;have hn:=fm;have fin:EP X Gn σ Q w s:=⟨z,H,I,HN,q⟩;exact subscriptTail_builtinR (x:=w) pl.typeIs slot_tuple_getitem.lookup
  (getItem_tuple (j:=j) (Q:=λr s'=>r=w/\EP X Gn σ Q r s') pl (by lia) (by lia) (by rw[AA,<-hl];exact h1) (by simpa using ew) ⟨rfl,fin⟩) hs
theorem vO(Gq:KW KN)(n j:Nat)(u:KN):Obj.mapSeq (·.setIfInBounds j u) {cls:= .type "list",data:= .seq Gq.toArray n}={cls:= .type "list",data:= .seq (Gq.set j u).toArray n}:=by
 simp[Obj.mapSeq]
theorem Inv.lst{Gn:KW (KP×Obj)}{σ:St}{H:Hp}{s:KO}{p:KP}{xs:KW V}(I:Inv X Gn σ H s)(h:H p=some (.lst xs)):
  ∃(Gq:KW KN) (n:Nat),ao xs Gq/\s.heap.get? p=some {cls:= .type "list",data:= .seq Gq.toArray n}/\xs.length<=sizeLine:=by
 obtain⟨z,Gq,n,r,e⟩:=I.hok p _ h;exact⟨Gq,n,r,e,z⟩
theorem Inv.lstUpd{σ:St}{p:KP}{ys:KW V}{Gq its':KW KN}{n n':Nat}{f:Obj->Obj}(I:Inv X Gn σ H s)(h:H p=some (.lst xs))
  (ho:s.heap.get? p=some {cls:= .type "list",data:= .seq Gq.toArray n}) (hf:f {cls:= .type "list",data:= .seq Gq.toArray n}={cls:= .type "list",data:= .seq its'.toArray n'}) (r:ao ys its') (hz:ys.length<=sizeLine) (t:Nat):
  Inv X Gn σ (upd H p (.lst ys)) {s with heap:=s.heap.update p f,toks:=t}:=by
 have e:(s.heap.update p f).get? p=some {cls:= .type "list",data:= .seq its'.toArray n'}:=by
  rw[Bw f ho (by rw[hf]<;>rfl),hf]
 refine I.write (x:=p) (e:=p) (by rw[h];trivial) (.inl rfl) (λb u hb q=>(Cz _ _ (CB hb)).trans q) ⟨_,e⟩ ?_;exact⟨hz,its',n',r,e⟩
inductive rSetL(o:V)(i:V)(v:V)(H:Hp)(Q:(Hp->Prop)):Prop
 |mk p xs k j:o=.ref p->i=.int k->H p=some (.lst xs)->ixN xs.length k=some j->Q (upd H p (.lst (xs.set j v)))->rSetL o i v H Q
theorem lq:k6 X rSetL:=by
 intro Gn s σ H o i v ov iv u Q I ro ri rv h;obtain⟨p,xs,k,j,rfl,rfl,hp,hj,q⟩:=h;cases ro;obtain⟨t,rfl⟩:=ri;obtain⟨Gq,n,r,ho,hz⟩:=I.lst hp;obtain⟨h1,h2,h3,h4⟩:=oJ hj;have hl:=r.length;have hn:=fm;have I':Inv X Gn σ (upd H p (.lst (xs.set j v))) {s with heap:=s.heap.update p (Obj.mapSeq (·.setIfInBounds j u))}:=
  I.lstUpd hp ho (vO Gq n j u) (r.set rv j) (by rw[BU];exact hz) s.toks
 by_cases h0:0<=k
 .have hk:k.toNat=j:=by
   rw[seqIndex_of h0 h4] at h1;exact AL h1
  exact W.ki_setAt ho h0 (by lia) (by rw[AA,<-hl];exact h4) (by rw[hk];exact⟨_,I',q⟩)
 .have hk:(k+(Gq.toArray.size:Int)).toNat=j:=by
   rw[seqIndex_neg (by lia) h3] at h1;rw[AA,<-hl];exact AL h1
  exact W.ki_setBack ho (by lia) (by rw[AA,<-hl];exact h3) (by lia) (by rw[hk];exact⟨_,I',q⟩)
theorem vP(lo hi:K0 Int)(n:Nat):(sliceBounds lo hi none n).1=((HT.sIx n 0 lo:Nat):Int)/\(sliceBounds lo hi none n).2.1=((HT.sIx n n hi:Nat):Int)/\(sliceBounds lo hi none n).2.2=1:=by
 refine⟨?_,?_,rfl⟩
 .cases lo with
  |none=>simp[sliceBounds,HT.sIx]
  |some i=>
   simp only[sliceBounds,HT.sIx,Option.getD_none,show(1:Int)>0 by decide,Bh];by_cases h:i<0
   .simp only[h,Bh]<;>lia
   .simp only[h,At]<;>lia
 .cases hi with
  |none=>simp[sliceBounds,HT.sIx]
  |some i=>
   simp only[sliceBounds,HT.sIx,Option.getD_none,show(1:Int)>0 by decide,Bh];by_cases h:i<0
   .simp only[h,Bh]<;>lia
   .simp only[h,At]<;>lia
theorem vQ(Gq:KW KN)(lo hi:K0 Int):slicePick Gq.toArray lo hi none=((Gq.drop (HT.sIx Gq.length 0 lo)).take (HT.sIx Gq.length Gq.length hi-HT.sIx Gq.length 0 lo)).toArray:=by
 obtain⟨h1,h2,h3⟩:=vP lo hi Gq.toArray.size;unfold slicePick;rw[h1,h2,h3];simp only[sliceRange_one,pick_run,AA]<;>rfl
inductive rSlL(K:W.Frag)(x:V)(lo:Option Int)(hi:Option Int)(H:Hp)(Q:VK):Prop
 |mk a xs:x=.ref a->SqL K H a xs->(∀p,H p=none->Q (.ref p) (upd H p (.lst (bh xs lo hi))))->rSlL K x lo hi H Q
theorem iK:SlR X (rSlL X.K):=by
 intro Gn s σ H x v vl vu lo hi sl Q I rx hs pl pu h;obtain⟨a,xs,rfl,hx,q⟩:=h;cases rx;obtain⟨Gq,r,ht,hz⟩:=I.list hx;have Gv:=r.length;refine⟨"list",_,slot_list_getitem.lookup,ht.isList.typeIs,?_⟩;refine wpAny_getItem_list_slice ht.isList hs pl pu .none (by simp) ?_ (by rw[AA]<;>lia)
 rw[vQ,<-Gv];refine⟨.ref s.heap.objs.size,_,I.laid (t':=s.toks) (o:= .lst (bh xs lo hi)) (λb ob q=>A4 _ q) (A8 _) ?_,rfl,q _ (I.hok.fresh (A8 _))⟩;exact⟨Am (oI xs lo hi) hz,_,0,(r.drop (HT.sIx xs.length 0 lo)).take (HT.sIx xs.length xs.length hi-HT.sIx xs.length 0 lo),AC _ rfl⟩
theorem f':bB X (.builtin "len") (λxs H Q=>∃p ys,xs=[.ref p]/\(SqL X.K H p ys\/SqT X.K H p ys)/\Q (.int ys.length) H):=by
 intro Gn s σ H xs us Q I r h;obtain⟨p,ys,rfl,hq,q⟩:=h;obtain⟨u,rfl,rx⟩:=cP r;cases rx;have hn:=fm;rcases hq with hq|hq
 .obtain⟨Gq,r',pl,hz⟩:=I.list hq;have Gv:=r'.length;exact Calls.call_len_list pl.isList (by simp only[AA]<;>lia) ⟨.int ys.length,H,I.tok _,⟨s.toks+1,by rw[AA,Gv]⟩,q⟩
 .obtain⟨Gq,r',pl,hz⟩:=I.tuple hq;have Gv:=r'.length;exact len_tuple pl (by simp only[AA]<;>lia) ⟨.int ys.length,H,I.tok _,⟨s.toks+1,by rw[AA,Gv]⟩,q⟩
theorem oN:bB X (.builtin "len") (λxs H Q=>∃z,xs=[.str z]/\z.length<=sizeLine/\Q (.int z.length) H):=by
 intro Gn s σ H xs us Q I r h;obtain⟨z,rfl,hz,q⟩:=h;obtain⟨u,rfl,t,rfl⟩:=cP r;have hn:=fm;exact len_str (by lia) ⟨.int z.length,H,I.tok _,⟨_,rfl⟩,q⟩
theorem vR:bB X (.type "tuple") (λxs H Q=>∃p ys,xs=[.ref p]/\((SqL X.K H p ys/\∀l,H l=none->Q (.ref l) (upd H l (.tup ys)))\/(SqT X.K H p ys/\Q (.ref p) H))):=by
 intro Gn s σ H xs us Q I r h;obtain⟨p,ys,rfl,h⟩:=h;obtain⟨u,rfl,rx⟩:=cP r;cases rx;rcases h with⟨hq,q⟩|⟨hq,q⟩
 .obtain⟨Gq,r',pl,hz⟩:=I.list hq;have Gv:=r'.length;refine call_tuple_list pl.isList (λh' kp=>?_) (by simp only[AA]<;>lia)
  have I1:Inv X Gn σ H {s with heap:=h'}:=I.kept (t':=s.toks) kp;have I2:Inv X Gn σ (upd H h'.objs.size (.tup ys)) {s with heap:=h'.push {cls:= .type "tuple",data:= .seq Gq.toArray}}:=
   I1.laid (t':=s.toks) (λb o e=>A4 _ e) (A8 _) (show aC X.prog X.w _ _ _ (.tup ys) from⟨hz,Gq,r',IsTup.new _ _⟩)
  exact⟨.ref h'.objs.size,_,I2,rfl,q _ (I1.hok.fresh (A8 _))⟩
 .obtain⟨Gq,r',pl,hz⟩:=I.tuple hq;exact call_tuple_same pl ⟨.ref p,H,I,rfl,q⟩
def tyV(K:W.Frag)(T:String)(x:V)(H:Hp):Prop:=match x with
 |.str _=>T="str"
 |.int _=>T="int"
 |.ref p=>(T="list"/\∃xs,SqL K H p xs)\/(T="tuple"/\∃o,K.lookup p=some o/\o.cls=.type "tuple"/\o.dict=none)\/
   (T="dict"/\((∃Gp,H p=some (.dK Gp))\/∃Gp,H p=some (.dT Gp)))\/(T="set"/\∃S n,H p=some (.set S n))
 |_=>False
theorem oO{σ:St}{T:String}{x:V}{v:KN}(I:Inv X Gn σ H s)(r:ar x v)(ty:tyV X.K T x H):
  s.TypeIs v T/\∀a,v=.ref a->∃ob,s.heap.get? a=some ob/\ob.dict=none:=by
 cases x with
 |str z=>
  obtain⟨t,rfl⟩:=r;cases (show T="str" from ty);exact⟨typeIs_str s z t,λ_ e=>nomatch e⟩
 |int i=>
  obtain⟨t,rfl⟩:=r;cases (show T="int" from ty);exact⟨typeIs_int s i t,λ_ e=>nomatch e⟩
 |ref p=>
  cases r;rcases ty with⟨rfl,xs,hq⟩|⟨rfl,o,hk,hc,hd⟩|⟨rfl,hk⟩|⟨rfl,S,n,hk⟩
  .obtain⟨Gq,_,pl,_⟩:=I.list hq;refine⟨pl.isList.typeIs,λa e=>?_⟩;cases e;obtain⟨o,n,e,c,hd,_⟩:=pl;exact⟨o,e,hd⟩
  .refine⟨⟨o,I.kIn p o hk,hc⟩,λa e=>?_⟩;cases e;exact⟨o,I.kIn _ o hk,hd⟩
  .have z:∃o,s.heap.get? p=some o/\o.ExactDict:=by
    rcases hk with⟨Gp,hk⟩|⟨Gp,hk⟩
    .obtain⟨_,_,_,_,o,_,_,e,ex,_⟩:=I.hok p _ hk;exact⟨o,e,ex⟩
    .obtain⟨_,_,_,_,o,_,_,e,ex,_⟩:=I.hok p _ hk;exact⟨o,e,ex⟩
   obtain⟨o,e,ex⟩:=z;refine⟨⟨o,e,ex.1⟩,λa e2=>?_⟩;cases e2;exact⟨o,e,ex.2.1⟩
  .obtain⟨o,_,_,_,e,ex,_⟩:=I.hok p _ hk;refine⟨⟨o,e,ex.1⟩,λa e2=>?_⟩;cases e2;exact⟨o,e,ex.2.1⟩
 |_=>exact False.elim ty
def vS(K:W.Frag)(T:String)(r:V->KW V->Hp->VK->Prop)(to:TE):TE:=λσ H Q=>to σ H λx H1=>tyV K T x H1/\r x [] H1 Q
def tBM(K:W.Frag)(T:String)(r:V->KW V->Hp->VK->Prop)(to:TE)(t:TA):TE:=λσ H Q=>to σ H λx H1=>tyV K T x H1/\t σ H1 λxs H2=>r x xs H2 Q
variable{o e:KY}{es:KW KY}{to:TE}{t:TA}{name:Str}{GC Gy:Pos}{T id:String}{r:V->KW V->Hp->VK->Prop}
theorem vT(pa:PlainAttrs T)(slot:Slot T name id)(hty:typeOf (.builtin id)=pure (.type "method_descriptor"))(hm:MtR X id r)(ho:PE X o to)
  (G':attributeBase o name X.env (eval o X.env)=eval o X.env:=by rfl) (Ha:(GC.endLine==Gy.line)=true:=by rfl):PE X (.Call (.Attribute o name GC) [] [] Gy) (vS X.K T r to):=by
 intro Gn s σ H Q I h;refine wpAny_Call_method0_late G' Ha (thn (ho Gn s σ H _ I h) λv s1 zu46=>?_);obtain⟨x,H1,I1,r1,ty,q1⟩:=zu46;obtain⟨h1,h2⟩:=oO I1 r1 ty;exact⟨T,id,pa,slot,hty,h1,h2,CF rfl (PySem.evalArgs_none (hm Gn s1 σ H1 x [] v [] Q I1 r1 .nil q1))⟩
theorem cu(pa:PlainAttrs T)(slot:Slot T name id)(hty:typeOf (.builtin id)=pure (.type "method_descriptor"))(hm:MtR X id r)(ho:PE X o to)(ha:PA X (e::es) t)
  (G':attributeBase o name X.env (eval o X.env)=eval o X.env:=by rfl)
  (Kf:((backTo Gy (starEach (e::es) X.env)).all (λx=> !x.1)&&(backToKw Gy (keywordEach [] X.env)).all (λx=>x.1.isSome)
   &&decide ((e::es).length+([]:KW Keyword).length+(if([]:KW Keyword).isEmpty then 0 else 1)<30))=true:=by rfl)
  (Ha:(GC.endLine==Gy.line)=true:=by rfl) (hs:starEach (e::es) X.env=(false,eval e X.env)::starEach es X.env:=by rfl) (Kg:(backTo Gy (starEach es X.env)).any (·.1)=false:=by rfl):
  PE X (.Call (.Attribute o name GC) (e::es) [] Gy) (tBM X.K T r to t):=by
 intro Gn s σ H Q I h;refine wpAny_Call_method_late G' Kf Ha rfl (thn (ho Gn s σ H _ I h) λv s1 zu47=>?_);obtain⟨x,H1,I1,r1,ty,q1⟩:=zu47;obtain⟨h1,h2⟩:=oO I1 r1 ty;refine⟨T,id,pa,slot,hty,h1,h2,?_⟩;have hA:=ha Gy Gn s1 σ H1 _ I1 q1;rw[hs] at hA⊢;refine CF (by show(false||(backTo Gy (starEach es X.env)).any (·.1))=false;rw[Kg]<;>rfl) (D' ?_)
 exact thn hA λus s2 GB=>by obtain⟨vs,H2,I2,r2,q2⟩:=GB;exact hm Gn s2 σ H2 x vs v us Q I2 r1 r2 q2
end
def MtM(X:Cx)(id:String)(r:V->KW V->Hp->VK->Prop):Prop:=
 ∀(Gn:KW (KP×Obj)) (s:KO) (σ:St) (H:Hp) (x:V) (xs:KW V) (v:KN) (us:KW KN) (Q:VK),Inv X Gn σ H s->ar x v->ao xs us->r x xs H Q->
  wpAny (model X.prog X.w) X.A (call (.builtin id) (v::us)) (EP X Gn σ Q) X.xe s
theorem ao.one:∀{x:V}{us:KW KN},ao [x] us->∃u,us=[u]/\ar x u:=by
 intro x us h;cases h with|cons r t=>cases t;exact⟨_,rfl,r⟩
theorem ao.rep{xs:KW V}{us:KW KN}(h:ao xs us):∀k:Nat,ao (List.replicate k xs).flatten (List.replicate k us).flatten
 |0=>.nil
 |k+1=>by
  rw[BK,BK,Ck,Ck];exact ao.append h (ao.rep h k)
theorem oP(Gq:KW KN):∀(k:Nat) (acc:KW KN),
  List.foldl (λx1 x2=>x1++x2) acc.toArray (List.replicate k Gq.toArray)=(acc++(List.replicate k Gq).flatten).toArray
 |0,acc=>by simp
 |k+1,acc=>by
  have e:acc.toArray++Gq.toArray=(acc++Gq).toArray:=by simp
  have e2:(acc++Gq)++(List.replicate k Gq).flatten=acc++(List.replicate (k+1) Gq).flatten:=by
   rw[BK,Ck,Cm]
  rw[<-e2,<-oP Gq k (acc++Gq),<-e,BK,List.foldl_cons]
section
variable{X:Cx}{Gn:KW (KP×Obj)}{σ:St}{H:Hp}{s:KO}{l b:KP}{xs ys zs:KW V}
theorem Inv.lset{Gq its':KW KN}{n:Nat}{f:Array KN->Array KN}{t':Nat}(I:Inv X Gn σ H s)(hH:H l=some (.lst xs))
  (e:s.heap.get? l=some {cls:= .type "list",data:= .seq Gq.toArray n}) (hf:f Gq.toArray=its'.toArray) (hv:ao ys its') (hz:ys.length<=sizeLine):
  Inv X Gn σ (upd H l (.lst ys)) {s with heap:=s.heap.update l (Obj.mapSeq f),toks:=t'}:=by
 have q:=PySem.IsL.update e f;rw[hf] at q;refine I.write (x:=l) (e:=l) (by rw[hH];exact trivial) (.inl rfl) (λb' u hb hu=>(Cz s.heap (Obj.mapSeq f) (CB hb)).trans hu) ⟨_,q⟩ ?_;exact⟨hz,its',_,hv,q⟩
def Inv.lnew{Gq:KW KN}{t':Nat}(I:Inv X Gn σ H s)(hv:ao ys Gq)(hz:ys.length<=sizeLine):
  Inv X Gn σ (upd H s.heap.objs.size (.lst ys)) {s with heap:=s.heap.push {cls:= .type "list",data:= .seq Gq.toArray},toks:=t'}:=
 I.laid (λ_ _ q=>A4 _ q) (A8 _) ⟨hz,Gq,0,hv,AC _ rfl⟩
theorem Inv.fresh(I:Inv X Gn σ H s):H s.heap.objs.size=none:=I.hok.fresh (A8 _)
theorem Inv.lstM(I:Inv X Gn σ H s)(hH:H l=some (.lst xs)):xs.length<=sizeLine/\∃(Gq:KW KN) (n:Nat),ao xs Gq/\xs.length=Gq.length/\s.heap.get? l=some {cls:= .type "list",data:= .seq Gq.toArray n}:=by
 obtain⟨z,Gq,n,r,e⟩:=I.hok l _ hH;exact⟨z,Gq,n,r,r.length,e⟩
theorem oQ(h:n<=sizeLine):Builtin.List.listTooLong n=false:=by
 unfold Builtin.List.listTooLong;exact Al (by lia)
end
section
variable{X:Cx}
inductive rAppend(x:V)(vs:List V)(H:Hp)(Q:VK):Prop
 |mk l xs y:x=.ref l->vs=[y]->H l=some (.lst xs)->xs.length<sizeLine->Q .non (upd H l (.lst (xs++[y])))->rAppend x vs H Q
theorem fx:MtM X "list.append" rAppend:=by
 intro Gn s σ H x vs v us Q I rx rv h;obtain⟨l,xs,y,rfl,rfl,hH,hz,q⟩:=h;cases rx;obtain⟨u,rfl,ru⟩:=rv.one;obtain⟨z,Gq,n,r,hl,e⟩:=I.lstM hH;refine Cp F.slot_list_append ⟨_,e,rfl⟩ F.entry_list_append (F.args_list_append_2 _ _) (PySem.list_append l Gq.toArray n u (by rw[AA];lia)) ⟨e,?_⟩;refine⟨.non,_,I.lset (its':=Gq++[u]) hH e (by simp) (r.append (.cons ru .nil)) ?_,rfl,q⟩;rw[AX,Cs];lia
inductive rExtend(x:V)(vs:List V)(H:Hp)(Q:VK):Prop
 |mk l b xs zs:x=.ref l->vs=[.ref b]->H l=some (.lst xs)->H b=some (.lst zs)->xs.length+zs.length<=sizeLine->Q .non (upd H l (.lst (xs++zs)))->rExtend x vs H Q
theorem oR:MtM X "list.extend" rExtend:=by
 intro Gn s σ H x vs v us Q I rx rv h;obtain⟨l,b,xs,zs,rfl,rfl,hH,hB,hz,q⟩:=h;cases rx;obtain⟨u,rfl,ru⟩:=rv.one;cases ru;obtain⟨z,Gq,n,r,hl,e⟩:=I.lstM hH;obtain⟨z2,Hy,n2,r2,HP,e2⟩:=I.lstM hB;have hsz:Gq.toArray.size+Hy.toArray.size<=sizeLine:=by rw[AA,AA];lia
 have IM:¬(!Gq.toArray.isEmpty&&Builtin.List.listTooLong (Gq.toArray.size+Hy.toArray.size))=true:=by
  rw[oQ hsz,CK];exact AT
 refine Cp F.slot_list_extend ⟨_,e,rfl⟩ F.entry_list_extend (F.args_list_extend_2 _ _)
  (AutoSeq1.list_extend_list_list_0 l Gq.toArray n b Hy.toArray n2 IM (by rw[AA];lia) (by lia)) ⟨e,e2,?_⟩
 refine⟨.non,_,I.lset (its':=Gq++Hy) hH e (by simp) (r.append r2) ?_,rfl,q⟩;rw[AX];lia
inductive rCat(x:V)(y:V)(H:Hp)(Q:VK):Prop
 |mk l b xs zs:x=.ref l->y=.ref b->H l=some (.lst xs)->H b=some (.lst zs)->xs.length+zs.length<=sizeLine->(∀p,H p=none->Q (.ref p) (upd H p (.lst (xs++zs))))->rCat x y H Q
theorem oS:OpR X (binaryOp .Add) rCat:=by
 intro Gn s σ H x y v u Q I rx ry h;obtain⟨l,b,xs,zs,rfl,rfl,hH,hB,hz,q⟩:=h;cases rx;cases ry;obtain⟨z,Gq,n,r,hl,e⟩:=I.lstM hH;obtain⟨z2,Hy,n2,r2,HP,e2⟩:=I.lstM hB;refine PySem.P.add_list e e2 ?_ (by rw[AA,AA];lia);have ea:Gq.toArray++Hy.toArray=(Gq++Hy).toArray:=by simp
 rw[ea];exact⟨.ref _,_,I.lnew (t':=s.toks) (r.append r2) (by rw[AX];lia),rfl,q _ I.fresh⟩
inductive rRep(x:V)(y:V)(H:Hp)(Q:VK):Prop
 |mk l k xs:x=.ref l->y=.int k->H l=some (.lst xs)->-(2^63)<=k->k<2^63->xs.length*k.toNat<=sizeLine->(∀p,H p=none->Q (.ref p) (upd H p (.lst (List.replicate k.toNat xs).flatten)))->rRep x y H Q
theorem vU{α:Type}(xs:KW α)(k:Nat):(List.replicate k xs).flatten.length=k*xs.length:=by
 induction k with
 |zero=>simp
 |succ k ih=>rw[BK,Ck,AX,ih,Nat.succ_mul,Nat.add_comm]
theorem vV:OpR X (binaryOp .Mult) rRep:=by
 intro Gn s σ H x y v u Q I rx ry h;obtain⟨l,k,xs,rfl,rfl,hH,h1,h2,hz,q⟩:=h;cases rx;obtain⟨t,rfl⟩:=ry;obtain⟨z,Gq,n,r,hl,e⟩:=I.lstM hH;have Gv:Gq.toArray.size*k.toNat<=sizeLine:=by rw[AA,<-hl];exact hz
 have Hz:¬Gq.toArray.size*k.toNat>(2^63-1)/8:=by
  have:(sizeLine:Nat)<=(2^63-1)/8:=by decide
  lia
 have hfit:¬(!Builtin.List.listFitsIndex k)=true:=by
  rw[fitsIndex_both h1 h2];exact AT
 have IM:¬Builtin.List.listTooLong (Gq.toArray.size*k.toNat)=true:=by
  rw[oQ Gv];exact AT
 have Kh:List.foldl (λx1 x2=>x1++x2) #[] (List.replicate (if Gq.toArray.isEmpty=true then 0 else k.toNat) Gq.toArray)=(List.replicate k.toNat Gq).flatten.toArray:=by
  have f0:∀m:Nat,List.foldl (λx1 x2=>x1++x2) #[] (List.replicate m Gq.toArray)=(List.replicate m Gq).flatten.toArray:=λm=>by
   have:=oP Gq m [];rw[List.nil_append] at this;exact this
  rw[f0];cases Gq with
  |nil=>simp
  |cons a r'=>rw[A6 (by simp)]
 refine wpAny_binaryOp_repeat_ref (T:="list") (U:="int") (by decide) ⟨_,e,rfl⟩ (λs'=>typeIs_int s' k t) noFill_list_mul F.fills_int_mul F.slot_int_rmul repeat_list F.slot_int_index.lookup
  (Cp F.slot_int_rmul (typeIs_int s k t) F.entry_int_rmul (F.args_int_rmul_2 _ _) (int___rmul___int_list k t l Gq.toArray n)
   ⟨e,rfl,⟨_,e,rfl⟩,Cp F.slot_list_mul ⟨_,e,rfl⟩ F.entry_list_mul (F.args_list_mul_2 _ _) (AutoListH.list___mul___list_int_3 l Gq.toArray n k t hfit Hz IM) ⟨e,?_⟩⟩)
 rw[Kh];exact⟨.ref _,_,I.lnew (t':=s.toks) (r.rep k.toNat) (by rw[vU,Nat.mul_comm];exact hz),rfl,q _ I.fresh⟩
end
end L2
namespace Att
open PySem PySem.W PySem.Calls PyProof.Rows
variable{P:Params}{h:KZ}{l:OpenLaw}{n:Nat}
theorem vW :∀(ns:KW Int) (vs:KW KN),WellAll P h vs (ns.map WData.int)->IntsAre vs ns:=by
 intro ns;induction ns with
 |nil=>
  intro vs w;rw[List.map_nil] at w;cases w;exact .nil
 |cons n ns ih=>
  intro vs w;rw[AM] at w;cases w with
  |cons a b=>
   cases a;exact .cons _ _ (ih _ b)
theorem vX(hn:l.most=some n){args:KW WData}{Ki:KW KN}
  (Jt:l.row.toRowW.claim.pre args=true) (HQ:WellAll P h Ki args):
  ∃a vs ns,Ki=[Value.ref a]/\args=[WData.list (ns.map WData.int)]/\h.get? a=some {cls:= .type "list",data:= .seq vs.toArray}/\IntsAre vs ns/\ns.length<=n:=by
 have hsh:WShape.hasAll [] args [.list .int]=true:=(pre_splitW Jt).1;have hc:l.pre.holds [] {args:=args}=true:=(pre_splitW Jt).2;obtain⟨d,r,rfl,h1,h2⟩:=hasAllW_cons hsh;obtain rfl:=hasAllW_nil h2;obtain⟨xs,rfl,h3⟩:=hasW_list h1;obtain⟨ns,rfl⟩:=items_int h3;have Gv:ns.length<=n:=by
  unfold OpenLaw.pre at hc;have h4:(WTm.not (.lt (.lit (.int (n:Int))) (.len (.arg 0)))).holds [] {args:=[.list (ns.map .int)]}=true:=by
   have h4:=(holds_andW hc).1;rw[hn] at h4;exact h4
  have h5:=condW_of h4 (w_not (w_lt w_lit (w_len_list (w_arg rfl))));rw[A3] at h5;refine Nat.le_of_not_lt λq=>?_;have q':(n:Int)<((ns.length:Nat):Int):=by lia
  first
   |(rw[B3 q'] at h5;exact absurd h5 (by decide))
   |(simp at h5;lia)
 cases HQ with
 |cons w1 w2=>
  cases w2;cases w1 with
  |list ho Hn=>exact⟨_,_,ns,rfl,rfl,ho,vW ns _ Hn,Gv⟩
theorem vY(l:OpenLaw)(args:KW WData):l.row.toRowW.claim.post args (.bool true) args=true:=
 postW_of (r:=l.row.toRowW) (X:=(true==true))
  (show WShape.has [] (.bool true) .bool=true by first|rfl|decide|simp[WShape.has,WShape.arms,WShape.armsAll])
  (show(WTm.eq .res (.lit (.bool true))).value [] {args:=args,res:=some (.bool true),after:=args}=some (.bool (true==true)) from w_eq_bool (w_res rfl) w_lit) rfl
theorem attach_call{q:KQ}{Ht:KW Str}{XP:(Str->K0 KN)->KZ->Prop}{YP:KS->KZ->Prop}{d:DefRec}
  (hn:l.most=some n) (hdf:d.params.defaults=[])
  (call:∀(w:KS) (s₀ s₁:KO) (mg mb:Str->K0 KN) (fa:KP) (o:Obj) (pm cd Hl:KN) (a:KP) (vs:KW KN) (ns:KW Int),
   Ground q Ht [] XP w s₀ mg mb s₁.heap->YP w s₁.heap->
   s₁.heap.get? fa=some o->o.data=.func (docDef d.name d.params d.body d.scope pm cd Hl)->s₁.heap.CodeRec cd d.name->mg d.name=some (.ref fa)->
   s₁.heap.get? a=some {cls:= .type "list",data:= .seq vs.toArray}->IntsAre vs ns->ns.length<=n->s₁.gens= #[]->
   codeAny (model l.prog w) callerA (.call (.ref fa) ⟨[.ref a],[]⟩) (λr s'=>r=.ok (.ret (.bool true))/\OldK s₁.heap s'.heap/\s'.os=s₁.os/\AllBare s'.gens) s₁):
  WalkO q Ht XP YP l.row.toRowW d [] (λf vs=>PySem.call f vs):=by
 intro w s₀ s₁ mg mb G Y fa o pm cd Hl dV kV ho hd G6 hD hmg hg args Ki as Jt hlay hrd HQ hlo;obtain rfl:dV=.none:=Dflts.none hD hdf;obtain rfl:kV=.none:=Dflts.noKw hD;obtain⟨a,vs,ns,rfl,rfl,Kj,IN,Gv⟩:=vX hn Jt HQ;refine enter_call (CD (call w s₀ s₁ mg mb fa o pm cd Hl a vs ns G Y ho (fd_plain hd) G6 hmg Kj IN Gv hg) λr s' hq=>?_);obtain⟨rfl,h2,h3,h4⟩:=hq;exact⟨.inl ⟨.bool true,.bool true,[],rfl,λ_=>rfl,.bool true,vY l _,λ_=>⟨List.Pairwise.nil,λ_ hm=>(nomatch hm)⟩⟩,h2,h3,h4⟩
section
variable{prog:KQ}{w:KS}{A:KU}{E:KN->KO->Prop}{s:KO}{K:Frag}
def Gm(h:KZ)(L d:KP):KW (KP×Obj):=(List.range h.objs.size).filterMap λa=>if a=L\/a=d then none else(h.get? a).map λo=>(a,o)
end
end Att
namespace L2
open PySem PySem.Spec PyProof.Rows
variable{A B c:Prop}{E Q:KN->KO->Prop}{GQ:KW KY}{GT tg:KY}{Gn:KW (KP×Obj)}{Gp:KW (KW Key×V)}{Gs x:Str}{H H':Hp}{K:W.Frag}{N ps:KW Str}{P:KQ}{X:Cx}{a b f l:KP}{d i k n own:Nat}{e:Bool}{env:Env}{fd:KR}{g:TG}{h':KZ}{j:Int}{js:KW Nat}{o:K0 V}{pos:Pos}{s:KO}{scope:Scope}{st:K1}{te:TE}{u:KN}{v y:V}{w:KS}{xs:KW (KW Key×KP×KN)}
theorem vZ:∀{vs:KW KN}{ns:KW Int},IntsAre vs ns->ao (ns.map V.int) vs:=by
 intro vs ns h;induction h with
 |nil=>exact .nil
 |cons n t h ih=>exact .cons ⟨t,rfl⟩ ih
def lv(H:Hp):Prop:=∀b,H b=none\/∃o xs,H b=some (.frz o (.lst xs))
theorem wb{P:KQ}{w:KS}{mg mb:Str->K0 KN}{CX:CXT}{k:Nat}{fa:KP}{fd:KR}{sp:Sp}{s₁:KO}{vs:KW KN}{ns:KW Int}
  (KX:K.In s₁.heap) (HF:s₁.heap.Ns mainGlobals mg) (hb:s₁.heap.Ns builtinsNs mb) (hbb:∀x:Str,x≠"__name__"->mb x=bootBuiltins x) (hlim:s₁.heap.NoLimit) (hg:s₁.gens= #[])
  (ha:s₁.heap.get? a=some {cls:= .type "list",data:= .seq vs.toArray}) (hi:IntsAre vs ns) (hl:ns.length<=sizeLine) (hr:Room k callerA)
  (F:∀base:KZ,K.In base->base.Ns mainGlobals mg->FnOk P w K mg base CX k fa fd [x] sp) (hbind:∀(s:KO) (u:KN),BindsTo s fd ⟨[u],[]⟩ [(x,u)])
  (HK:∀H:Hp,lv H->SqL K H a (ns.map V.int)->sp [.ref a] H (λv _=>v=.bl true) λ_ _ _=>False)
  (hCX:∀H e s',CX [] H s₁ (λ_ _ _=>False) e s'->False):
  codeAny (model P w) callerA (.call (.ref fa) ⟨[.ref a],[]⟩) (λr s'=>r=.ok (.ret (.bool true))/\OldK s₁.heap s'.heap/\s'.os=s₁.os/\AllBare s'.gens) s₁:=by
 have rv:=vZ hi;have lenV:=hi.length;have core:∀H:Hp,lv H->SqL K H a (ns.map V.int)->HOk P w H s₁.heap->(∀b,H b≠none->b=a)->(H a≠none->K.lookup a=none)->
   codeAny (model P w) callerA (.call (.ref fa) ⟨[.ref a],[]⟩) (λr s'=>r=.ok (.ret (.bool true))/\OldK s₁.heap s'.heap/\s'.os=s₁.os/\AllBare s'.gens) s₁:=by
  intro H hO hS hok hA hK;have base_of:∀{b:KP}{o:Obj},s₁.heap.get? b=some o->H b=none->(dP s₁.heap H).get? b=some o:=λe n=>uv e n;have noA:∀{b:KP}{o:Obj}{es:Array DictEntry}{ep:Nat},s₁.heap.get? b=some o->o.data=.dict es ep->H b=none:=fun{b o es ep} e d=>by
   cases q:H b with
   |none=>rfl
   |some u=>
    have e':b=a:=hA b (by rw[q];simp);subst e';rw[ha] at e;cases e;have d':Data.seq vs.toArray _=Data.dict es ep:=d;cases d'
  have nsK:∀{b:KP}{m:Str->K0 KN},s₁.heap.Ns b m->(dP s₁.heap H).Ns b m:=fun{b m} GB=>by obtain⟨o,es,ep,e,d,r⟩:=GB;exact⟨o,es,ep,base_of e (noA e d),d,r⟩
  have hKb:K.In (dP s₁.heap H):=λb o e=>base_of (KX b o e) (by
   cases q:H b with
   |none=>rfl
   |some u=>
    have e':b=a:=hA b (by rw[q];simp);subst e';rw[hK (by rw[q];simp)] at e;cases e)
  have hM:Mod K mg (dP s₁.heap H):=⟨hKb,nsK HF,⟨mb,nsK hb,hbb⟩,let ⟨mc,h1,h2⟩:=hlim;⟨mc,nsK h1,h2⟩⟩;have e0:Env0 P w K mg (dP s₁.heap H) callerA [] s₁ H:=⟨rfl,hM,λb o e=>ux e,Nat.le_of_eq (uu _ _),trivial,λb hb=>absurd (show b∈([]:KW KP) from hb) (by simp),hok,.of_eq hg⟩;refine CD ((F _ hKb (nsK HF)).run callerA [] s₁ H ⟨[.ref a],[]⟩ [.ref a] [.ref a] _ _ hr e0 (hbind s₁ (.ref a)) (.cons rfl .nil) (HK H hO hS)) λr s' h=>?_;cases r with
  |error e=>exact(hCX H e s' h).elim
  |ok fl=>
   cases fl with
   |next=>exact False.elim h
   |brk=>exact False.elim h
   |cont=>exact False.elim h
   |ret u=>
    obtain⟨v,H',os,bare,un,hok',r',q⟩:=h;have q':v=.bl true:=q;subst q';obtain rfl:u=Value.bool true:=r';refine⟨rfl,OldK.of_keep λb o e=>?_,os,bare⟩;cases q:H b with
    |none=>exact un.keep b o e q (by intro z;exact absurd (show b∈([]:KW KP) from z) (by simp)) (by simp)
    |some u=>
     rcases hO b with z|⟨ob,xs,z⟩
     .rw[q] at z;cases z
     .have z2:=un.frzs b ob _ z;obtain⟨e1,_⟩:=hok b _ z;obtain⟨e2,_⟩:=hok' b _ z2;rw[e] at e1;cases e1;exact e2
 cases hk:K.lookup a with
 |some o=>
  have e:=KX a o hk;rw[ha] at e;cases e;refine core (λ_=>none) (λ_=>.inl rfl) (.inr ⟨_,vs.toArray,_,hk,rfl,rfl,rfl,by rw[AA,lenV];exact hl,by simpa using rv⟩) (λb u z=>by have z':(none:K0 HO)=some u:=z;cases z') (λb z=>absurd rfl z) λz=>absurd rfl z
 |none=>
  refine core (λb=>if b=a then some (.frz {cls:= .type "list",data:= .seq vs.toArray} (.lst (ns.map V.int))) else none) (λb=>?_) (.inl (.inr ⟨{cls:= .type "list",data:= .seq vs.toArray},A9 rfl⟩)) (λb u z=>?_) (λb z=>?_) λ_=>hk
  .by_cases hb:b=a
   .exact .inr ⟨_,_,A9 hb⟩
   .exact .inl (A6 hb)
  .by_cases hb:b=a
   .have z':=(A9 hb).symm.trans z;cases z';subst hb;exact⟨ha,by rw[A3];exact hl,vs,_,rv,ha⟩
   .have z':=(A6 hb).symm.trans z;cases z'
  .by_cases hb:b=a
   .exact hb
   .exact absurd (A6 hb) z
theorem wc{l:W.OpenLaw}{q:KQ}{Ht:KW Str}{XP:(Str->K0 KN)->KZ->Prop}{YP:KS->KZ->Prop}{d:DefRec}{K:Params->W.Frag}{CX:KS->CXT}{sp:KS->Sp}
  (hn:l.most=some n) (Ix:n<=sizeLine) (hdf:d.params.defaults=[]) (hr:Room k callerA)
  (hY:∀(w:KS) (h:KZ),YP w h->(K w.params).In h)
  (F:∀(w:KS) (mg:Str->K0 KN) (fa:KP) (h:KZ),(K w.params).In h->h.Ns mainGlobals mg->mg d.name=some (.ref fa)->
   ∃fd:KR,(∀(s:KO) (u:KN),BindsTo s fd ⟨[u],[]⟩ [(x,u)])/\
    ∀base:KZ,(K w.params).In base->base.Ns mainGlobals mg->FnOk l.prog w (K w.params) mg base (CX w) k fa fd [x] (sp w))
  (HK:∀(w:KS) (H:Hp) (a:KP) (ns:KW Int),ns.length<=n->lv H->SqL (K w.params) H a (ns.map V.int)->sp w [.ref a] H (λv _=>v=.bl true) λ_ _ _=>False)
  (hCX:∀(w:KS) (H:Hp) (s:KO) (e:KN) (s':KO),CX w [] H s (λ_ _ _=>False) e s'->False):
  W.WalkO q Ht XP YP l.row.toRowW d [] (λf vs=>PySem.call f vs):=by
 refine Att.attach_call hn hdf λw s₀ s₁ mg mb fa o pm cd Hl a vs ns G Y ho hd G6 hmg Kj IN Gv hg=>?_;have KX:=hY w _ Y;obtain⟨fd,hb,hF⟩:=F w mg fa _ KX G.T.g hmg;exact wb KX G.T.g G.T.b G.T.builtins G.T.nolimit hg Kj IN (Am Gv Ix) hr hF hb (λH hO hS=>HK w H a ns Gv hO hS) λH e s'=>hCX w H s₁ e s'
def oU(s:K1)(j:Nat):K1:=match s with
 |.ClassDef _ _ _ body _ _ _ _ _ _ _=>body.getD j (.Pass ⟨0,0,0,0⟩)
 |_=>.Pass ⟨0,0,0,0⟩
def c7(s:K1):Arguments:=match s with
 |.FunctionDef _ a _ _ _ _ _ _ _ _=>a
 |_=>{posonlyargs:=[],args:=[],vararg:=none,kwonlyargs:=[],kw_defaults:=[],kwarg:=none,defaults:=[]}
def av(s:K1):KW K1:=match s with
 |.FunctionDef _ _ b _ _ _ _ _ _ _=>b
 |_=>[]
def ak(s:K1):Scope:=match s with
 |.FunctionDef _ _ _ _ _ _ sc _ _ _=>sc
 |_=>{kind:= .function,names:=[],isGenerator:=false,isCoroutine:=false}
abbrev CX0:CXT:=λ_ _ _ _ _ _=>False
abbrev E0:XK:=λ_ _ _=>False
def iL :cr CX0 X E0:=λ_ _ _ _ _ _ _ h=>h.elim
structure Fun(K:W.Frag)(x Gs:Str)(st:K1)(f:KP)(fd:KR):Prop where
 ex:∃(oc:Value) (od:Option Addr) (kV Hl pm:Value) (an:Option Addr) (Gu ct:Value) (IL:Array (Option Value)),
  fd=W.fnOf x Gs (c7 st) (av st) (ak st) .none kV Hl pm an Gu ct/\K.lookup f=some ⟨oc,od,.func fd,IL⟩/\W.codeIn K Gu Gs=true
 kp:W.keepIn K (.ref f)=true
section
variable{P:KQ}{w:KS}{K:W.Frag}{mg:Str->K0 KN}{base:KZ}
theorem Fun.ok{sp:Sp}(F:Fun K x Gs st f fd)(S:FnScope N ps (ak st))(len:∀vs H Q E,sp vs H Q E->vs.length=ps.length)
  (GI:∀(Gu:KN) (A:KU) (outer:KW Env) (s:KO) (H:Hp) (vs:KW V) (Q:VK) (E:XK),Room k (A.deeper (envOfC Gs (ak st) s.heap.objs.size f Gu))->sp vs H Q E->
   ∃t,PSs (bC CX0 P w K mg base N Gs (ak st) f Gu A outer s H E).nox (av st) t/\t {nx:=λ_ H'=>Q .non H',rt:=Q} (start N vs) H):FnOk P w K mg base CX0 (k+1) f fd ps sp:=by
 obtain⟨oc,od,kV,Hl,pm,an,Gu,ct,IL,rfl,lk,G6⟩:=F.ex;refine lp lk G6 S len λA outer s H vs Q E hr HK=>?_;obtain⟨t,h,q⟩:=GI Gu A outer s H vs Q E hr HK;exact⟨t,h.nox,q⟩
theorem Fun.binds(F:Fun K x Gs st f fd)
  (h:∀(kV Hl pm:KN) (an:K0 KP) (Gu ct:KN) (us:KW KN),us.length=ps.length->bindArgs (W.fnOf x Gs (c7 st) (av st) (ak st) .none kV Hl pm an Gu ct) ⟨us,[]⟩=pure (ps.zip us)):cL K fd ps []:=by
 obtain⟨oc,od,kV,Hl,pm,an,Gu,ct,IL,rfl,lk,G6⟩:=F.ex;exact .all (h kV Hl pm an Gu ct)
def oV{oc:KN}{od an:K0 KP}{IL:Array (K0 KN)}{kV Hl pm Gu ct:KN}(l:K.lookup f=some ⟨oc,od,.func (W.fnOf x Gs (c7 st) (av st) (ak st) .none kV Hl pm an Gu ct),IL⟩)
  (c:W.codeIn K Gu Gs=true) (k:W.keepIn K (.ref f)=true):Fun K x Gs st f (W.fnOf x Gs (c7 st) (av st) (ak st) .none kV Hl pm an Gu ct):=⟨⟨oc,od,kV,Hl,pm,an,Gu,ct,IL,rfl,l,c⟩,k⟩
end
theorem iM{A:KU}(hr:Room k A):A.units+1<cLine:=Nat.lt_of_le_of_lt (Nat.add_le_add_left (by decide:1<=64) _) hr.units
theorem bt(h:n<=1000):n<sizeLine:=Nat.lt_of_le_of_lt h (by decide)
section
variable{X:Cx}
theorem pv(i:Nat){pos:Pos}(hN:X.N[i]? =some x:=by rfl)(hv:Vis X.env.scope x:=by trivial)(hd:(x==("__debug__":Str))=false:=by decide)
  (G6:(x==("__classdict__":Str))=false:=by decide):PE X (.Name x pos) (tVar i):=uA hN hv hd G6
end
theorem aH(h:B):if false=true then A else B:=by
 rw[A6 AT];exact h
theorem aN(h:A):if true=true then A else B:=by
 rw[A9 rfl];exact h
def af(H H':Hp):Prop:=∀b o,H b=some o->H' b=some o
def af.refl(H:Hp):af H H:=λ_ _ h=>h
def af.trans{H1 H2:Hp}(a:af H H1)(b:af H1 H2):af H H2:=λc o h=>b c o (a c o h)
theorem af.free(e:af H H')(h:H' l=Option.none):H l=Option.none:=by
 cases q:H l with
 |none=>rfl
 |some o=>
  rw[e l o q] at h;cases h
theorem af.seq{xs:KW V}(e:af H H')(h:SqL K H a xs):SqL K H' a xs:=by
 rcases h with(h|⟨o,h⟩)|h
 .exact .inl (.inl (e _ _ h))
 .exact .inl (.inr ⟨o,e _ _ h⟩)
 .exact .inr h
section
variable{κ:Type}[DecidableEq κ]
def cC(Gp:KW (κ×V))(k:κ):K0 V:=(Gp.find? λkv=>decide (kv.1=k)).map (·.2)
def cg(Gp:KW (κ×V))(k:κ)(v:V):KW (κ×V):=
 if(Gp.any λkv=>decide (kv.1=k))=true then Gp.map (λkv=>if kv.1=k then(kv.1,v) else kv) else Gp++[(k,v)]
theorem lw{p:κ×V}{r:KW (κ×V)}{k:κ}(e:p.1=k):cC (p::r) k=some p.2:=by simp[cC,BV,e]
theorem lx{p:κ×V}{r:KW (κ×V)}{k:κ}(e:¬p.1=k):cC (p::r) k=cC r k:=by simp[cC,BV,e]
theorem oW(k:κ):∀Gp:KW (κ×V),(Gp.any λkv=>decide (kv.1=k))=(cC Gp k).isSome
 |[]=>rfl
 |p::r=>by
  rw[List.any_cons];by_cases e:p.1=k
  .simp only[lw e,B3 e,Bool.true_or,Option.isSome_some]
  .rw[lx e,Al e,Bool.false_or];exact oW k r
theorem oX(Gp:KW (κ×V))(k:κ)(v:V):(cg Gp k v).length<=Gp.length+1:=by
 unfold cg;split
 .rw[A3];lia
 .rw[AX,AN,List.length_nil];lia
theorem bW.isSome_eq{u:K0 KN}(r:bW o u):o.isSome=u.isSome:=by
 cases o with
 |none=>cases u with
  |none=>rfl
  |some _=>exact(show False from r).elim
 |some _=>cases u with
  |none=>exact(show False from r).elim
  |some _=>rfl
theorem bW.getD{o:K0 V}{u:K0 KN}{d:V}{d':KN}(r:bW o u)(rd:ar d d'):ar (o.getD d) (u.getD d'):=by
 cases o with
 |none=>cases u with
  |none=>exact rd
  |some _=>exact(show False from r).elim
 |some _=>cases u with
  |none=>exact(show False from r).elim
  |some _=>exact r
theorem KV.val{Gp:KW (κ×V)}{vs:KW (κ×KN)}(r:KV Gp vs)(k:κ):bW (cC Gp k) (valueAt vs k):=by
 unfold KV at r;induction r with
 |nil=>exact True.intro
 | @cons p q ps qs h t ih=>
  obtain⟨h1,h2⟩:=h;by_cases e:p.1=k
  .have e':q.1=k:=h1.symm.trans e;have b:valueAt (q::qs) k=some q.2:=by simp[valueAt,BV,e']
   rw[lw e,b];exact h2
  .have e':¬q.1=k:=λz=>e (h1.trans z);have b:valueAt (q::qs) k=valueAt qs k:=by simp[valueAt,BV,e']
   rw[lx e,b];exact ih
theorem KV.any{Gp:KW (κ×V)}{vs:KW (κ×KN)}(r:KV Gp vs)(k:κ):(Gp.any λkv=>decide (kv.1=k))=vs.any λkv=>decide (kv.1=k):=by
 unfold KV at r;induction r with
 |nil=>rfl
 |cons h t ih=>rw[List.any_cons,List.any_cons,ih,h.1]
theorem KV.repl{Gp:KW (κ×V)}{vs:KW (κ×KN)}(r:KV Gp vs)(k:κ)(ry:ar y u):
  KV (Gp.map λkv=>if kv.1=k then(kv.1,y) else kv) (vs.map λkv=>if kv.1=k then(kv.1,u) else kv):=by
 unfold KV at r⊢;induction r with
 |nil=>exact .nil
 | @cons p q ps qs h t ih=>
  rw[AM,AM];refine .cons ?_ ih;obtain⟨h1,h2⟩:=h;by_cases e:p.1=k
  .rw[A9 e,A9 (h1.symm.trans e)];exact⟨h1,ry⟩
  .rw[A6 e,A6 (λz=>e (h1.trans z))];exact⟨h1,h2⟩
theorem KV.put{Gp:KW (κ×V)}{vs:KW (κ×KN)}(r:KV Gp vs)(k:κ)(ry:ar y u):KV (cg Gp k y) (stored vs k u):=by
 unfold cg stored;rw[r.any k];by_cases e:(vs.any λkv=>decide (kv.1=k))=true
 .rw[A9 e,A9 e];exact r.repl k ry
 .rw[A6 e,A6 e];exact Paired.snoc r ⟨rfl,ry⟩
theorem KV.length{Gp:KW (κ×V)}{vs:KW (κ×KN)}(r:KV Gp vs):Gp.length=vs.length:=CM r
end
theorem iN{k:Key}(r:ar (kV k) u):(cb P w).is k u=true:=by
 cases k with
 |inl i=>obtain⟨t,e⟩:=(show∃t,u=Value.int i t from r);subst e;exact uq P w i t
 |inr x=>obtain⟨t,e⟩:=(show∃t,u=Value.str x t from r);subst e;exact ur P w x t
theorem oY{P:KQ}{w:KS}:∀{ks:KW Key}{us:KW KN},ao (ks.map kV) us->ItemsAre (cb P w) ks us
 |[],_,r=>by rw[List.map_nil] at r;cases r;exact .nil
 |k::ks,_,r=>by
  rw[AM] at r;cases r with
  |cons h t=>exact .cons (iN h) (oY t)
abbrev KT(H:Hp):KW (KW Key×V)->KW (KW Key×KP×KN)->Prop:=Paired λp q=>p.1=q.1/\H q.2.1=some (.tup (p.1.map kV))/\ar p.2 q.2.2
theorem KT.val(r:KT H Gp xs)(k:KW Key):bW (cC Gp k) ((atKey xs k).map (·.2)):=by
 induction r with
 |nil=>exact True.intro
 | @cons p q ps qs h t ih=>
  obtain⟨h1,_,h2⟩:=h;by_cases e:p.1=k
  .have e':q.1=k:=h1.symm.trans e;have b:atKey (q::qs) k=some q.2:=by simp[atKey,BV,e']
   rw[lw e,b];exact h2
  .have e':¬q.1=k:=λz=>e (h1.trans z);have b:atKey (q::qs) k=atKey qs k:=by simp[atKey,BV,e']
   rw[lx e,b];exact ih
theorem KT.repl(r:KT H Gp xs)(k:KW Key)(ry:ar y u):
  KT H (Gp.map λkv=>if kv.1=k then(kv.1,y) else kv) (xs.map (putAt k u)):=by
 induction r with
 |nil=>exact .nil
 | @cons p q ps qs h t ih=>
  rw[AM,AM];refine .cons ?_ ih;obtain⟨h1,h2,h3⟩:=h;unfold putAt;by_cases e:p.1=k
  .rw[A9 e,A9 (h1.symm.trans e)];exact⟨h1,h2,ry⟩
  .rw[A6 e,A6 (λz=>e (h1.trans z))];exact⟨h1,h2,h3⟩
theorem KT.put(r:KT H Gp xs)(k:KW Key)(hb:H b=some (.tup (k.map kV)))(ry:ar y u):
  KT H (cg Gp k y) (storedH xs k b u):=by
 have e:(Gp.any λkv=>decide (kv.1=k))=(atKey xs k).isSome:=by
  rw[oW,(r.val k).isSome_eq,Option.isSome_map]
 unfold cg storedH;rw[e];by_cases q:(atKey xs k).isSome=true
 .rw[A9 q,A9 q];exact r.repl k ry
 .rw[A6 q,A6 q];exact Paired.snoc r ⟨rfl,hb,ry⟩
def KT.keeps(r:KT H Gp xs)(ht:∀b ys,H b=some (.tup ys)->H' b=some (.tup ys)):KT H' Gp xs:=
 Paired.mapP r λ_ _ z=>⟨z.1,ht _ _ z.2.1,z.2.2⟩
section
variable{P:KQ}{w:KS}{H:Hp}{h:KZ}{a:KP}
def iO{u:HO}(ok:HOk P w H h)(e:Rd H a u):aC P w H h a u:=e.ok ok
def gb{Gp:KW (Key×V)}(ok:HOk P w H h)(e:Rd H a (.dK Gp)):Gp.length<=sizeLine/\(a==sysModules)=false/\∃vs,KV Gp vs/\h.DictOf (cb P w) a vs:=
 show aC P w H h a (.dK Gp) from iO ok e
def wd{Gp:KW (Key×V)}(ok:HOk P w H h)(e:H a=some (.dK Gp)):Gp.length<=sizeLine/\(a==sysModules)=false/\∃vs,KV Gp vs/\h.DictOf (cb P w) a vs:=gb ok (.inl e)
theorem gT{ks:KW Key}(ok:HOk P w H h)(e:H a=some (.tup (ks.map kV))):(tupleKind (cb P w)).is h ks a:=by
 obtain⟨_,Gq,r,o,h1,h2,n,h3⟩:=(show aC P w H h a (.tup (ks.map kV)) from ok a _ e);exact⟨o,Gq.toArray,n,h1,h2,h3,by simpa using oY r⟩
theorem gU(ok:HOk P w H h)(e:Rd H a (.dT Gp)):Gp.length<=sizeLine/\(a==sysModules)=false/\
  ∃xs,KT H Gp xs/\h.DictOfH (tupleKind (cb P w)) a xs:=by
 obtain⟨z,y,xs,r,o,es,ep,h1,h2,h3,h4,h5⟩:=(show aC P w H h a (.dT Gp) from iO ok e);refine⟨z,y,xs,r,o,es,ep,h1,h2,h3,h4,λx hx=>?_,h5⟩;have all:∀{l:KW (KW Key×V)}{m:KW (KW Key×KP×KN)},KT H l m->∀x∈m,(tupleKind (cb P w)).is h x.1 x.2.1:=by
  intro l m q;induction q with
  |nil=>intro x hx;exact nomatch hx
  | @cons p q ps qs hq t ih=>
   intro x hx;rcases AH.mp hx with e|hx
   .subst e;exact gT ok (by rw[<-hq.1];exact hq.2.1)
   .exact ih x hx
 exact all r x hx
def oZ(ok:HOk P w H h)(e:H a=some (.dT Gp)):Gp.length<=sizeLine/\(a==sysModules)=false/\
  ∃xs,KT H Gp xs/\h.DictOfH (tupleKind (cb P w)) a xs:=gU ok (.inl e)
end
def eI(H:Hp)(a:KP)(y:V)(r:K0 V):Prop:=
 (∃Gp k,Rd H a (.dK Gp)/\y=kV k/\r=cC Gp k)\/∃Gp k b,Rd H a (.dT Gp)/\y=.ref b/\H b=some (.tup (k.map kV))/\r=cC Gp k
def gW(H:Hp)(a:KP)(y v:V)(H':Hp):Prop:=
 (∃Gp k,H a=some (.dK Gp)/\y=kV k/\Gp.length<sizeLine/\H'=upd H a (.dK (cg Gp k v)))\/
 ∃Gp k b,H a=some (.dT Gp)/\y=.ref b/\H b=some (.tup (k.map kV))/\Gp.length<sizeLine/\H'=upd H a (.dT (cg Gp k v))
def eI.t{k:KW Key}(e:H a=some (.dT Gp))(eb:H b=some (.tup (k.map kV))):eI H a (.ref b) (cC Gp k):= .inr ⟨Gp,k,b,.inl e,rfl,eb,rfl⟩
def gW.t{k:KW Key}(e:H a=some (.dT Gp))(eb:H b=some (.tup (k.map kV)))(hl:Gp.length<sizeLine):
  gW H a (.ref b) v (upd H a (.dT (cg Gp k v))):= .inr ⟨Gp,k,b,e,rfl,eb,hl,rfl⟩
section
variable{X:Cx}{Gn:KW (KP×Obj)}{σ:St}{H:Hp}{s:KO}{a:KP}{y v:V}{u r:KN}{o:K0 V}{A:KU}{E:KN->KO->Prop}
theorem Inv.big(I:Inv X Gn σ H s):sysModules<s.heap.objs.size:=by
 have h:mainGlobals<s.heap.objs.size:=(I.mod.glob.keeps I.bk).lt;exact Ci (by decide) h
theorem we(hu:A.units+1<cLine)(I:Inv X Gn σ H s)(g:eI H a y (some v))(ry:ar y u)(h:∀w' s',Inv X Gn σ H s'->ar v w'->Q w' s'):
  wpAny (model X.prog X.w) A (getItem (.ref a) u) Q E s:=by
 rcases g with⟨Gp,k,e,ey,l⟩|⟨Gp,k,b,e,ey,eb,l⟩
 .subst ey;obtain⟨z,hd,vs,GM,dd⟩:=gb I.hok e;obtain⟨w',hw,HN⟩:=bW.some_of (v:=v) (o:=valueAt vs k) (by rw[l];exact GM.val k);exact wpAny_getItem_of (iN ry) dd.mapOf hw (h w' _ (I.tok _) HN)
 .subst ey;cases (show u=Value.ref b from ry);obtain⟨z,hd,xs,GM,dd⟩:=gU I.hok e;obtain⟨w',hw,HN⟩:=bW.some_of (v:=v) (o:=(atKey xs k).map (·.2)) (by rw[l];exact GM.val k);obtain⟨p,hp,hp2⟩:=AY.mp hw;refine wpAny_getItem_heap (tupleKind_room_in1 hu) (gT I.hok eb) dd hp ?_;rw[hp2];exact h w' _ (I.tok _) HN
def iP{t':Nat}{ob:HO}(I:Inv X Gn σ H s)(mu:Mut (H a))(hs:Heap.SameBut a s.heap h')(he:∃q,h'.get? a=some q)(new:aC X.prog X.w (upd H a ob) h' a ob):
  Inv X Gn σ (upd H a ob) {s with heap:=h',toks:=t'}:=
 I.write (x:=a) (e:=a) mu (.inl rfl) (λb q hb z=>(hs.2 b hb).trans z) he new
def wf{Gp:KW (Key×V)}{vs:KW (Key×KN)}(z:Gp.length<=sizeLine)(hd:(a==sysModules)=false)(GM:KV Gp vs)(dd:h'.DictOf (cb P w) a vs):
  aC P w H' h' a (.dK Gp):=⟨z,hd,vs,GM,dd⟩
theorem wg{Q:Unit->KO->Prop}(hu:A.units+1<cLine)(I:Inv X Gn σ H s)(g:gW H a y v H')(ry:ar y u)(rv:ar v r)(h:∀s',Inv X Gn σ H' s'->Q () s'):
  wpAny (model X.prog X.w) A (setItem (.ref a) u r) Q E s:=by
 rcases g with⟨Gp,k,e,ey,l,eH⟩|⟨Gp,k,b,e,ey,eb,l,eH⟩
 .subst ey eH;obtain⟨z,hd,vs,GM,dd⟩:=wd I.hok e;have hz:vs.length<=sizeLine:=by rw[<-GM.length];exact z
  have hl:(cg Gp k v).length<=sizeLine:=by have:=oX Gp k v;lia
  refine wpAny_setItem_pairs (hsz:=hz) (iN ry) dd λh' JO hs=>h _ ?_;have he:∃q,h'.get? a=some q:=let ⟨q,_,_,hq,_⟩:=JO;⟨q,hq⟩;exact iP I (by rw[e];exact True.intro) hs he (wf hl hd (GM.put k rv) JO)
 .subst ey eH;cases (show u=Value.ref b from ry);obtain⟨z,hd,xs,GM,dd⟩:=oZ I.hok e;have hz:xs.length<=sizeLine:=by rw[<-CM GM];exact z
  have hl:(cg Gp k v).length<=sizeLine:=by have:=oX Gp k v;lia
  refine wpAny_setItem_heap (hsz:=hz) (tupleKind_room_in1 hu) (gT I.hok eb) dd λh' JO hs=>h _ ?_;obtain⟨q,es,ep,hq,h2,h3,h4,_,h5⟩:=JO;refine iP I (by rw[e];exact True.intro) hs ⟨q,hq⟩ ⟨hl,hd,_,(GM.put k eb rv).keeps λc ys ec=>?_,q,es,ep,hq,h2,h3,h4,h5⟩;rw[au (kY ec e (λz=>nomatch z))];exact ec
end
section
variable{X:Cx}{Gn:KW (KP×Obj)}{σ:St}{H:Hp}{s:KO}{a:KP}{Gp:KW (Key×V)}{k:Key}{u:KN}{A:KU}{E:KN->KO->Prop}
theorem dh(I:Inv X Gn σ H s)(e:Rd H a (.dK Gp))(h:∀t s',Inv X Gn σ H s'->Q (.int Gp.length t) s'):wpAny (model X.prog X.w) A (call (.builtin "len") [.ref a]) Q E s:=by
 obtain⟨z,hd,vs,GM,dd⟩:=gb I.hok e;refine call_len_dict hd dd (by rw[<-GM.length];rw[As] at z;lia) ?_;rw[<-GM.length];exact h _ _ (I.tok _)
end
def iQ(i:KY):Prop:=∀ov iv,subscripted i false ov iv=operate [ov,iv] (getItem ov iv)
theorem lz{prog:KQ}{A:KU}{value slice:KY}{T id:String}
  (hl:typeLookup (.type T) "__getitem__"=pure (some (.builtin id))) (hs:iQ slice)
  (h:wpAny (model prog w) A (eval value env) (λo s₁=>wpAny (model prog w) A (eval slice env) (λi s₂=>s₂.TypeIs o T/\wpAny (model prog w) A (getItem o i) Q E s₂) E s₁) E s):
  wpAny (model prog w) A (eval (.Subscript value slice pos) env) Q E s:=by
 refine Subscript_ (BD h (λo s₁ h₁=>BD h₁ (λi s₂ h₂=>?_) λ_ _ x=>x) λ_ _ x=>x);obtain⟨hT,h₂⟩:=h₂;unfold subscriptTail;refine A0 ?_;rw[getitemInPython_of_ne hT.not_modules];refine A0 (wpAny_specialOf hT hl ?_);have fin:wpAny (model prog w) A (subscripted slice false o i) (λr s₃=>wpAny (model prog w) A (letTemporaryGo value o r>>=λ_=>pure r) Q E s₃) E s₂:=by
  rw[hs o i];exact wpAny_operating (BD h₂ (λr s₃ h₃=>A0 (wpAny_letTemporaryGo (A2 h₃))) λ_ _ x=>x)
 first
  |exact A2 (A0 fin)
  |exact A0 (A2 (A0 fin))
  |exact A0 fin
theorem wj{σ:St}(I:Inv X Gn σ H s)(g:eI H a y o):s.TypeIs (.ref a) "dict":=by
 rcases g with⟨Gp,k,e,_,_⟩|⟨Gp,k,b,e,_,_,_⟩
 .obtain⟨_,_,vs,_,dd⟩:=gb I.hok e;exact dd.typeIs
 .obtain⟨_,_,xs,_,dd⟩:=gU I.hok e;exact dd.typeIs
inductive tDGet_(Q:VK)(x:V)(y:V)(H2:Hp):Prop
 |mk a v:x=.ref a->eI H2 a y (some v)->Q v H2->tDGet_ Q x y H2
def wk(td ty:TE):TE:=λσ H Q=>td σ H λx H1=>ty σ H1 λy H2=>tDGet_ Q x y H2
inductive sDPut_(D:Ends)(σ:St)(v:V)(x:V)(y:V)(H3:Hp):Prop
 |mk a H4:x=.ref a->gW H3 a y v H4->D.nx σ H4->sDPut_ D σ v x y H3
def wm(td ty tv:TE):TS:=λD σ H=>tv σ H λv H1=>td σ H1 λx H2=>ty σ H2 λy H3=>sDPut_ D σ v x y H3
section
variable{X:Cx}{o i e value:KY}{pos GJ G7:Pos}{td ty tv:TE}
theorem wn(hu:X.A.units+1<cLine)(ho:PE X o td)(hi:PE X i ty)(hs:iQ i):PE X (.Subscript o i pos) (wk td ty):=by
 intro Gn s σ H Q I h;refine lz PySem.F.slot_dict_getitem.lookup hs (thn (ho Gn s σ H _ I h) λu s1 zu48=>?_);obtain⟨x,H1,I1,rx,q1⟩:=zu48;refine thn (hi Gn s1 σ H1 _ I1 q1) λiv s2 zu49=>?_;obtain⟨y,H2,I2,ry,a,v,ex,g,q2⟩:=zu49;subst ex;obtain rfl:u=Value.ref a:=rx;exact⟨wj I2 g,we hu I2 g ry λw' s3 I3 HN=>⟨v,H2,I3,HN,q2⟩⟩
theorem wo(hu:X.A.units+1<cLine)(ho:PE X o td)(hi:PE X i ty)(hv:PE X value tv)(hs:swapsWith value (some (.Subscript o i GJ)) pos.line X.env=pure false):
  PS X (.Assign [.Subscript o i GJ] value pos) (wm td ty tv):=by
 intro Gn s σ H D I h;refine wpAny_Assign_Subscript (thn (hv Gn s σ H _ I h) λr s1 zu50=>?_) hs;obtain⟨v,H1,I1,rv,q1⟩:=zu50;refine thn (ho Gn s1 σ H1 _ I1 q1) λu s2 zu51=>?_;obtain⟨x,H2,I2,rx,q2⟩:=zu51;refine thn (hi Gn s2 σ H2 _ I2 q2) λiv s3 zu52=>?_;obtain⟨y,H3,I3,ry,a,H4,ex,g,q3⟩:=zu52;subst ex;obtain rfl:u=Value.ref a:=rx;exact wg hu I3 g ry rv λs4 I4=>⟨σ,H4,I4,q3⟩
end
def wq(h:KZ)(hb:sysModules<h.objs.size):aC P w H (h.push {cls:= .type "dict",data:= .dict #[]}) h.objs.size (.dK []):=
 ⟨AR _,BR.mpr (CB (AE hb)),[],.nil,Heap.DictOf.new h⟩
def o0(h:KZ)(hb:sysModules<h.objs.size):aC P w H (h.push {cls:= .type "dict",data:= .dict #[]}) h.objs.size (.dT []):=
 ⟨AR _,BR.mpr (CB (AE hb)),[],.nil,_, #[],0,AC _ rfl,⟨rfl,rfl,rfl⟩,rfl,rfl,List.nodup_nil⟩
def wu:TE:=λ_ H Q=>∀p,H p=none->Q (.ref p) (upd H p (.dK []))
def wv:TE:=λ_ H Q=>∀p,H p=none->Q (.ref p) (upd H p (.dT []))
section
variable{X:Cx}{pos:Pos}
def ww:PE X (.Dict [] [] pos) wu:=λGn s σ H Q I h=>
 wpAny_Dict_empty ⟨.ref s.heap.objs.size,_,I.laid (a:=s.heap.objs.size) (o:= .dK []) (t':=s.toks) (λ_ _ q=>A4 _ q) (A8 _) (wq s.heap I.big),rfl,h _ (I.hok.fresh (A8 _))⟩
def wx:PE X (.Dict [] [] pos) wv:=λGn s σ H Q I h=>
 wpAny_Dict_empty ⟨.ref s.heap.objs.size,_,I.laid (a:=s.heap.objs.size) (o:= .dT []) (t':=s.toks) (λ_ _ q=>A4 _ q) (A8 _) (o0 s.heap I.big),rfl,h _ (I.hok.fresh (A8 _))⟩
end
structure M2(X:Cx)(o:KY)(m:Str)(GC:Pos)(e f:KY)(Gy:Pos):Prop where
 base:attributeBase o m X.env (eval o X.env)=eval o X.env
 few:((backTo Gy (starEach [e,f] X.env)).all (λx=> !x.1)&&(backToKw Gy (keywordEach [] X.env)).all (λx=>x.1.isSome)
  &&decide (([e,f]:List Expr).length+([]:List Keyword).length+(if([]:List Keyword).isEmpty then 0 else 1)<30))=true
 line:(GC.endLine==Gy.line)=true
 trees:backTo Gy (starEach [e,f] X.env)=[(false,eval e X.env),(false,eval f X.env)]
def IsD(H:Hp)(a:KP):Prop:=(∃Gp,Rd H a (.dK Gp))\/∃Gp,Rd H a (.dT Gp)
theorem o6{σ:St}(I:Inv X Gn σ H s)(d:IsD H a):
  s.TypeIs (.ref a) "dict"/\(∀b,Value.ref a=.ref b->∃ob,s.heap.get? b=some ob/\ob.dict=none)/\(a==sysModules)=false:=by
 rcases d with⟨Gp,e⟩|⟨Gp,e⟩
 .obtain⟨_,hd,vs,_,dd⟩:=gb I.hok e;refine⟨dd.typeIs,λb q=>?_,hd⟩;cases q;obtain⟨ob,_,_,h1,h2,_⟩:=dd;exact⟨ob,h1,h2.2.1⟩
 .obtain⟨_,hd,xs,_,dd⟩:=gU I.hok e;refine⟨dd.typeIs,λb q=>?_,hd⟩;cases q;obtain⟨ob,_,_,h1,h2,_⟩:=dd;exact⟨ob,h1,h2.2.1⟩
section
variable{X:Cx}{Gn:KW (KP×Obj)}{σ:St}{H:Hp}{s:KO}{a:KP}{y d:V}{u r:KN}{o:K0 V}{A:KU}{E:KN->KO->Prop}
theorem wy(hu:A.units+1<cLine)(I:Inv X Gn σ H s)(g:eI H a y o)(ry:ar y u)(rd:ar d r)(h:∀w' s',Inv X Gn σ H s'->ar (o.getD d) w'->Q w' s'):
  wpAny (model X.prog X.w) A (call (.builtin "dict.get") [.ref a,u,r]) Q E s:=by
 rcases g with⟨Gp,k,e,ey,l⟩|⟨Gp,k,b,e,ey,eb,l⟩
 .subst ey;obtain⟨z,hd,vs,GM,dd⟩:=gb I.hok e;refine call_meetsIn PySem.F.slot_dict_get dd.typeIs PySem.F.entry_dict_get (PySem.F.args_dict_get_3 _ _ _) (meets_dict_get_default (cb X.prog X.w) a (iN ry) hd r) ⟨_,dd.mapOf,h _ _ (I.tok _) ?_⟩;rw[l];exact(GM.val k).getD rd
 .subst ey;cases (show u=Value.ref b from ry);obtain⟨z,hd,xs,GM,dd⟩:=gU I.hok e;refine call_meetsIn PySem.F.slot_dict_get dd.typeIs PySem.F.entry_dict_get (PySem.F.args_dict_get_3 _ _ _) (meetsH_dict_get_default (tupleKind (cb X.prog X.w)) a b hd r) ⟨tupleKind_room_in1 hu,k,xs,gT I.hok eb,dd,h _ _ (I.tok _) ?_⟩;rw[l];exact(GM.val k).getD rd
end
inductive tDGet2_(ty:TE)(tx:TE)(σ:St)(Q:VK)(x:V)(H1:Hp):Prop
 |mk a:x=.ref a->IsD H1 a->(ty σ H1 λy H2=>tx σ H2 λz H3=>∃o,eI H3 a y o/\Q (o.getD z) H3)->tDGet2_ ty tx σ Q x H1
def wz(td ty tx:TE):TE:=λσ H Q=>td σ H λx H1=>tDGet2_ ty tx σ Q x H1
section
variable{X:Cx}{o e f:KY}{GC Gy:Pos}{td ty tx:TE}
theorem wA(hu:X.A.units+1<cLine)(ho:PE X o td)(he:PE X e ty)(hf:PE X f tx)(m:M2 X o "get" GC e f Gy):PE X (.Call (.Attribute o "get" GC) [e,f] [] Gy) (wz td ty tx):=by
 intro Gn s σ H Q I h;refine wpAny_Call_method m.base m.few m.line PySem.F.plainAttrs_dict PySem.F.slot_dict_get PySem.F.type_dict_get (thn (ho Gn s σ H _ I h) λu s1 zu53=>?_);obtain⟨x,H1,I1,rx,a,ex,d,q1⟩:=zu53;subst ex;obtain rfl:u=Value.ref a:=rx;obtain⟨t1,t2,_⟩:=o6 I1 d;refine⟨t1,t2,?_⟩;rw[m.trees];refine CF rfl (D' (BI (thn (he Gn s1 σ H1 _ I1 q1) λiv s2 ⟨y,H2,I2,ry,q2⟩=>
  BI (thn (hf Gn s2 σ H2 _ I2 q2) λfv s3 ⟨z,H3,I3,rz,ov,g,q3⟩=>Calls.spliced_nil ?_))))
 exact wy hu I3 g ry rz λw' s4 I4 HN=>⟨_,H3,I4,HN,q3⟩
end
section
variable{X:Cx}{pos:Pos}{a b c d:KY}{ta tb tc td:TE}
theorem lA:bB X (.builtin "isinstance") (λxs H Q=>∃x n t b,xs=[x,.ty n]/\TyOf X.K H x t/\W.kitOne X.K t (.type n)=some b/\Q (.bl b) H):=by
 intro Gn s σ H xs us Q I r h;obtain⟨x,n,t,b,rfl,ty,e,q⟩:=h;obtain⟨u,w',rfl,ru,HN⟩:=gS r;obtain rfl:w'=Value.type n:=HN;exact vx I ru ty e λtk=>⟨.bl b,H,I.tok tk,rfl,q⟩
end
section
open PySem.W
variable{K:Frag}
theorem o7{t:String}:kitOne K (.type t) (.type t)=some true:=by
 unfold kitOne;rw[A9 (by simp)]
theorem gc{t c:String}{b:Bool}(h1:(Value.type t==Value.type c)=false)(h2:kitMeta c=true)(h3:(fastBuiltinMro t).map (·.contains (Value.type c))=some b):kitOne K (.type t) (.type c)=some b:=by
 unfold kitOne;rw[A6 (by rw[h1];decide)];unfold kitCls;show(if kitMeta c=true then subIn K (.type t) (.type c) else none)=some b;rw[A9 h2];exact h3
theorem wB:kitOne K (.type "int") (.type "bool")=some false:=gc (by ac_nf) (by ac_nf) (by ac_nf)
theorem wC:kitOne K (.type "bool") (.type "int")=some true:=gc (by ac_nf) (by ac_nf) (by ac_nf)
end
theorem aF[Decidable c](h1:c->A)(h2:¬c->B):if decide c=true then A else B:=by
 by_cases h:c
 .rw[A9 (B3 h)];exact h1 h
 .rw[A6 (by rw[Al h];decide)];exact h2 h
theorem ci[Decidable c](h1:¬c->A)(h2:c->B):if(!decide c)=true then A else B:=by
 by_cases h:c
 .rw[A6 (by rw[B3 h];decide)];exact h2 h
 .rw[A9 (by rw[Al h];rfl)];exact h1 h
def bD{i:Int}(h1:i=j->A)(h2:i≠j->B):if decide (V.int i=V.int j)=true then A else B:=aF (λh=>h1 (V.int.inj h)) λh=>h2 λe=>h (Ah V.int e)
def gX{i:Int}(h1:i≠j->A)(h2:i=j->B):if(!decide (V.int i=V.int j))=true then A else B:=ci (λh=>h1 λe=>h (Ah V.int e)) λh=>h2 (V.int.inj h)
theorem af.put{H1:Hp}{o:HO}(s:af H H1)(n:H l=none):af H (upd H1 l o):=λb u e=>by
 rw[au (bF e n)];exact s b u e
def af.new{o:HO}(n:H l=none):af H (upd H l o):=(af.refl H).put n
theorem o8{prog:Program}{w:World}{A:Around}{R:Result->Shared->Prop}{s:Shared}{GT GX aB:Expr}{GQ:List Expr}{it acc:Value}(I:Nat->Shared->Prop)
  (turn:∀n s,I n s->wpAny (model prog w) A (pyNext it) (λr s₁=>match r with
   |none=>R (.ok .next) s₁
   |some v=>wpAny (model prog w) A (letOwnedTupleGo GX it v) (λ_ s₁'=>wpAny (model prog w) A (assign GX env v) (λ_ s₂=>
     wpAny (model prog w) A (forIn GQ true λc r=>if r=true then do let ok<-isTrue c env (eval c env);pure (ForInStep.yield ok) else pure (ForInStep.yield r)) (λok s₃=>
      if ok=true then wpAny (model prog w) A (eval GT env) (λx s₄=>
       wpAny (model prog w) A (call (.builtin "list.append") [acc,x]) (λ_ s₅=>∃m,m<n/\I m s₅) (notedBy (model prog w) A env λe s'=>R (.error e) s') s₄) (notedBy (model prog w) A env λe s'=>R (.error e) s') s₃
      else∃m,m<n/\I m s₃) (notedBy (model prog w) A env λe s'=>R (.error e) s') s₂) (notedBy (model prog w) A env λe s'=>R (.error e) s') s₁') (notedBy (model prog w) A env λe s'=>R (.error e) s') s₁) (notedBy (model prog w) A env λe s'=>R (.error e) s') s)
  (n:Nat) (h:I n s):
  codeAny (model prog w) A (.compLoop (.ListComp GT [⟨GX,aB,GQ,0⟩] scope pos) 0 it acc env) R s:=by
 refine codeAny_loop rfl I (λn s hI=>?_) n h;show wpAny _ A ((compTurn (.ListComp GT [⟨GX,aB,GQ,0⟩] scope pos) 0 it acc env).onRaise (λx=>do noteFrame x env;theTreesLotGoes x)) _ _ s;refine wpAny_noted ?_;rw[compTurn_list];refine A0 (wpAny_standAt (A0 (BD (turn n s hI) (λr s₁ h₁=>?_) λ_ _ h'=>h')));cases r with
 |none=>exact A2 h₁
 |some v=>
  refine A0 (BD h₁ (λ_ s₁' h₁'=>A0 (BD h₁' (λ_ s₂ h₂=>A0 (BD h₂ (λok s₃ h₃=>?_) λ_ _ h'=>h')) λ_ _ h'=>h')) λ_ _ h'=>h');cases ok with
  |false=>exact A2 ⟨rfl,h₃⟩
  |true=>
   exact A0 (A0 (BD h₃ (λx s₄ h₄=>A0 (BD h₄ (λ_ s₅ h₅=>A2 (A2 ⟨rfl,h₅⟩)) λ_ _ h'=>h')) λ_ _ h'=>h'))
def bK(env:Env):KW (Str×NameKind)->KW (Str×KP)->KW (Str×KP)
 |[],cs=>cs
 |(n,k)::r,cs=>bK env r (if k=.free then(n,(env.cells.lookup n).getD 0)::cs else cs)
theorem lB{env:Env}:∀(ns:List (Str×NameKind)) (cs:List (Str×Addr)),(∀y∈ns,y.2=.free->∃c,env.cells.lookup y.1=some c)->
  (forIn ns cs fun(x:Str×NameKind) (r:List (Str×Addr))=>(if(x.2== .free)=true then do let c<-cellOf env x.1;pure (ForInStep.yield ((x.1,c)::r)) else pure (ForInStep.yield r):Sem (ForInStep (List (Str×Addr)))))=(pure (bK env ns cs):Sem _)
 |[],cs,_=>rfl
 |(n,k)::r,cs,h=>by
  have hr:=λy hy=>h y (AU _ hy);by_cases hk:k=.free
  .obtain⟨c,hc⟩:=h (n,k) Ai hk;subst hk;rw[List.forIn_cons];have e:cellOf env n=pure c:=by unfold cellOf;rw[hc]
   simp only[beq_self_eq_true,Bh,e,pure_bind];rw[lB r _ hr];show _=pure (bK env r (if NameKind.free=NameKind.free then(n,(env.cells.lookup n).getD 0)::cs else cs));rw[A9 rfl,show env.cells.lookup n=some c from hc];rfl
  .have hb:(k==NameKind.free)=false:=by simpa using hk
   rw[List.forIn_cons];simp only[hb,AI,At,pure_bind];rw[lB r _ hr];show _=pure (bK env r (if k=NameKind.free then(n,(env.cells.lookup n).getD 0)::cs else cs));rw[A6 hk]
theorem o9(h:∀y∈scope.names,y.2=.free->∃c,env.cells.lookup y.1=some c):closureFor scope env=pure (bK env scope.names []):=by
 unfold closureFor;have e:=lB scope.names [] h;simp only[bind_pure] at e⊢;exact e
theorem lC{env:Env}{x:Str}{c:KP}:∀(ns:KW (Str×NameKind)) (cs:KW (Str×KP)),(∀y∈ns,y.2=.free->∃c,env.cells.lookup y.1=some c)->(∀x c,cs.lookup x=some c->env.cells.lookup x=some c)->
  (bK env ns cs).lookup x=some c->env.cells.lookup x=some c
 |[],cs,_,hc,e=>hc x c e
 |(n,k)::r,cs,h,hc,e=>by
  unfold bK at e;refine lC r _ (λy hy=>h y (AU _ hy)) (λx' c' e'=>?_) e;by_cases hk:k=.free
  .rw[A9 hk] at e';obtain⟨c0,h0⟩:=h (n,k) Ai hk;rw[h0] at e';rw[BY] at e';by_cases q:x'==n
   .rw[q] at e';cases e';rw[BM.mp q];exact h0
   .have q':(x'==n)=false:=by simpa using q
    rw[q'] at e';exact hc x' c' e'
  .rw[A6 hk] at e';exact hc x' c' e'
theorem pc{env:Env}{x:Str}:∀(ns:KW (Str×NameKind)) (cs:KW (Str×KP)),(∃c,cs.lookup x=some c)->∃c,(bK env ns cs).lookup x=some c
 |[],cs,h=>h
 |(n,k)::r,cs,h=>by
  unfold bK;refine pc r _ ?_;by_cases hk:k=.free
  .rw[A9 hk,BY];by_cases q:x==n
   .rw[q];exact⟨_,rfl⟩
   .have q':(x==n)=false:=by simpa using q
    rw[q'];exact h
  .rw[A6 hk];exact h
theorem gY{env:Env}{x:Str}:∀(ns:KW (Str×NameKind)) (cs:KW (Str×KP)),(x,NameKind.free)∈ns->∃c,(bK env ns cs).lookup x=some c
 |(n,k)::r,cs,h=>by
  unfold bK;rcases AH.mp h with e|e
  .cases e;rw[A9 rfl];exact pc r _ ⟨_,by rw[BY,beq_self_eq_true]⟩
  .exact gY r _ e
def Cx.comp(X:Cx)(scope:Scope)(C:KP)(N:KW Str)(s₀:KO)(H₀:Hp)(ex:KW KP)(E:KN->KO->Prop):Cx where
 prog:=X.prog
 w:=X.w
 K:=X.K
 mg:=X.mg
 base:=X.base
 A:=X.A
 N:=N
 s₀:=s₀
 H₀:=H₀
 env:=compEnvC scope (bK X.env scope.names []) C X.env
 outer:=X.stack
 stack:=X.stack
 ex:=ex
 fn:=λ_=>false
 calm:=X.calm
 pn:=[]
 xe:=E
def dR(X:Cx)(GQ:List Expr)(t:TT):Prop:=
 ∀(Gn:List (Addr×Obj)) (s:Shared) (σ:St) (H:Hp) (Q:Bool->Hp->Prop),Inv X Gn σ H s->t σ H Q->
  wpAny (model X.prog X.w) X.A (forIn GQ true λc r=>if r=true then do let ok<-isTrue c X.env (eval c X.env);pure (ForInStep.yield ok) else pure (ForInStep.yield r)) (TP X Gn σ Q) X.xe s
def iR:TT:=λ_ H Q=>Q true H
def dS :dR X [] iR:=λ_ _ _ H _ I h=>wpAny_tests_nil ⟨H,I,h⟩
def wD{c:KY}{t:TT}(h:PT X c t):dR X [c] t:=λGn s σ H Q I q=>wpAny_tests_one (h Gn s σ H Q I q)
def cG(own:Nat)(js:KW Nat)(σ:St):St:=List.replicate own none++js.map λj=>(σ[j]?).getD none
def gZ(J:It)(own:Nat)(js:KW Nat)(g:TG)(ti:TT)(te:TE)(σ:St)(H1:Hp)(acc:KP)(Q:VK):Prop:=
 ∃Wq:Nat->Nat->Hp->Prop,(∃m,Wq 0 m (upd H1 acc (.lst [])))/\∀i m H2,Wq i m H2->
  (J.stop i H2/\Q (.ref acc) H2)\/(J.go i H2/\∀x H3,J.yld i H2 x H3->g x (cG own js σ) H3 λσ4 H4=>ti σ4 H4 λb H5=>
   if b=true then te σ4 H5 λy H6=>rAppend (.ref acc) [y] H6 λ_ H7=>∃m',m'<m/\Wq (i+1) m' H7 else∃m',m'<m/\Wq (i+1) m' H5)
def fy(own:Nat)(js:KW Nat)(wi:TI)(g:TG)(ti:TT)(te:TE):TE:=λσ H Q=>wi σ H λJ H1=>∀acc,H1 acc=none->gZ J own js g ti te σ H1 acc Q
def fA{α:Type}{t:Sem α}{Q Q':α->KO->Prop}{M:Model}{A:KU}(h:wpAny M A t Q (λ_ _=>False) s)(hQ:∀a s,Q a s->Q' a s):wpAny M A t Q' E s:=BD h hQ λ_ _ f=>f.elim
theorem iS{scope:Scope}{env:Env}{x:Str}:∀{names:KW (Str×NameKind)},((names.map fun(n,k)=>if(k==NameKind.free&&env.scope.kind== .function&&env.kindOf n==some .cell) then(n,NameKind.cell) else(n,k)).lookup x=some .cell\/
  (names.map fun(n,k)=>if(k==NameKind.free&&env.scope.kind== .function&&env.kindOf n==some .cell) then(n,NameKind.cell) else(n,k)).lookup x=some .free)->(∀y∈names,y.2≠ .cell)->(x,NameKind.free)∈names
 |[],h,_=>by simp at h
 |(n,k)::r,h,hc=>by
  have hr:∀y∈r,y.2≠ .cell:=λy hy=>hc y (AU _ hy);have h0:k≠ .cell:=hc (n,k) Ai;rw[AM,BY] at h;by_cases hb:(k==NameKind.free&&env.scope.kind== .function&&env.kindOf n==some .cell)=true
  .rw[A9 hb] at h;dsimp only at h;by_cases q:x==n
   .have hk:k=.free:=by simp only[AB,BM] at hb;exact hb.1.1
    rw[BM.mp q,hk];exact Ai
   .have q':(x==n)=false:=by simpa using q
    rw[q'] at h;exact AU _ (iS (scope:=scope) h hr)
  .rw[A6 hb] at h;dsimp only at h;by_cases q:x==n
   .rw[q] at h;dsimp only at h;have hk:k=.free:=by
     rcases h with h|h
     .exact absurd (AL h) h0
     .exact AL h
    rw[BM.mp q,hk];exact Ai
   .have q':(x==n)=false:=by simpa using q
    rw[q'] at h;exact AU _ (iS (scope:=scope) h hr)
def dU(own:Nat)(g:TG):Prop:=∀v σ H (Q:St->Hp->Prop),g v σ H Q->g v σ H λσ' H'=>Q σ' H'/\σ'.length=σ.length/\∀i,own<=i->σ'[i]? =σ[i]?
theorem fB(h:i<own):dU own (cn i):=λv σ H Q q=>⟨q,BU ..,λj hj=>by rw[Bv (by lia)]⟩
theorem pe(own:Nat)(js:KW Nat)(σ:St):(cG own js σ).length=own+js.length:=by simp[cG]
theorem iT{σ:St}(h:(cG own js σ)[i]? =some (some v)):own<=i/\∃j,js[i-own]? =some j/\σ[j]? =some (some v):=by
 unfold cG at h;by_cases hi:i<own
 .rw[CP (by simpa using hi),List.getElem?_replicate,A9 hi] at h;cases h
 .rw[CJ (by simpa using hi),Ct,AF] at h;refine⟨by lia,?_⟩;cases e:js[i-own]? with
  |none=>rw[e] at h;cases h
  |some j=>
   rw[e] at h;refine⟨j,rfl,?_⟩;have h':(σ[j]?).getD none=some v:=AL h;cases e2:σ[j]? with
   |none=>rw[e2] at h';cases h'
   |some o=>rw[e2] at h';exact Ah some h'
theorem wE{aB:KY}{pos ps:Pos}{wi:TI}{ti:TT}(hc:X.calm=true)
  (Gz:∀y∈scope.names,y.2≠ .cell) (GE:scope.kind=.function) (GR:∀y∈scope.names,y.2=.local->scope.names.lookup y.1=some .local)
  (GO:∀y∈scope.names,y.2=.free->X.env.kindOf y.1=some .cell\/X.env.kindOf y.1=some .free) (Gv:N.length=own+js.length)
  (Hz:∀(i j:Nat) (x:Str),js[i]? =some j->N[own+i]? =some x->X.N[j]? =some x/\(x,NameKind.free)∈scope.names/\(X.env.kindOf x=some .cell\/X.env.kindOf x=some .free)/\((relabel scope X.env).names.lookup x=some .cell\/(relabel scope X.env).names.lookup x=some .free))
  (hi:PI X tg aB wi) (hg:∀C s₀ H₀ ex,PG (X.comp scope C N s₀ H₀ ex λ_ _=>False) tg g) (ho:dU own g) (ht:∀C s₀ H₀ ex,dR (X.comp scope C N s₀ H₀ ex λ_ _=>False) GQ ti) (he:∀C s₀ H₀ ex,PE (X.comp scope C N s₀ H₀ ex λ_ _=>False) GT te)
  {σ:St}{Q:VK}{use:K0 (KN->Sem Unit)}{RQ:KN->KO->Prop} (I:Inv X Gn σ H s) (h:fy own js wi g ti te σ H Q)
  (fin:∀(acc C:KP) (H3:Hp) (s4:KO) (m:Str->K0 KN),Inv X Gn σ H3 s4->s4.heap.Ns C m->H3 C=none->C≠X.env.locals->C∉X.fs->X.s₀.heap.objs.size<=C->(∀x c,X.env.cells.lookup x=some c->c≠C)->(∀p∈X.pn++Gn,p.1≠C)->
   Q (.ref acc) H3->compPost (model X.prog X.w) X.A X.xe use RQ (.ref acc) C (.ok .next) s4)
  (hs:∀x,foldedSetIterable aB X.env x=pure x:=by intro _;rfl):
  wpAny (model X.prog X.w) X.A (comprehension (.ListComp GT [⟨tg,aB,GQ,0⟩] scope pos) scope X.env ps (newList []) false (eval aB X.env) use) RQ X.xe s:=by
 have IF:∀y∈scope.names,y.2=.free->∃c,X.env.cells.lookup y.1=some c:=λy hy hf=>I.ok.has y.1 (GO y hy hf);refine wpAny_comprehension_free (use:=use) rfl hs (o9 IF) GE GR (thn (hi Gn s σ H _ I h) λv s1 h1=>thn h1 λitv s2 h2=>?_);obtain⟨it,fp,tn,J,H2,e,I2,T,Kc,f2,q⟩:=h2;subst e;have nf:H2 s2.heap.objs.size=none:=I2.hok.fresh (A8 _);obtain⟨Wq,⟨m0,w0⟩,turn⟩:=q s2.heap.objs.size nf;refine Aq (wpAny_newFunctionEnv Gz (by intro y hy;simp at hy) (λh₁ Ig HA=>?_) GE);dsimp only at Ig HA⊢;generalize Kk:s2.heap.push {cls:= .type "list",dict:=none,data:= .seq ([]:KW KN).toArray}=P2 at Ig HA⊢;have hC:P2.objs.size=s2.heap.objs.size+1:=by rw[<-Kk,Aw]
 have HG:s2.heap.objs.size<P2.objs.size:=by rw[hC];exact B8 _
 have kp:∀b o,s2.heap.get? b=some o->h₁.get? b=some o:=λb o e=>HA.extBut b o (AE (Ci (AD e) HG)) (A4 _ (Kk▸A4 _ e));have Gr:h₁.get? s2.heap.objs.size=some {cls:= .type "list",dict:=none,data:= .seq ([]:KW KN).toArray}:=HA.extBut _ _ (AE HG) (A4 _ (Kk▸AC _ rfl));have Ih:∀x c,(bK X.env scope.names []).lookup x=some c->X.env.cells.lookup x=some c:=λx c e=>lC scope.names [] IF (λ_ _ z=>by simp at z) e;have cne:∀x c,(bK X.env scope.names []).lookup x=some c->c<s2.heap.objs.size/\H2 c=none:=λx c e=>by
  obtain⟨v,o,ho,hd⟩:=I2.cell x c (Ih x c e);exact⟨AD ho,I2.freeC x c (Ih x c e)⟩
 have fpl:∀b∈fp,b<s2.heap.objs.size:=λb hb=>by
  obtain⟨o,e,_⟩:=T.obj 0 _ Kc b hb;exact AD e
 have hX:(X.comp scope P2.objs.size N s2 H2 fp λ_ _=>False).Ok:={
  mod:=I.ok.mod
  kind:=GE
  glob:=I.ok.glob
  blt:=I.ok.blt
  above:=Ar HG
  inj:=λx y c a b=>I.ok.inj x y c (Ih x c a) (Ih y c b)
  has:=λx hx=>gY scope.names [] (iS (scope:=scope) (env:=X.env) hx Gz)
  cab:=λx c a _=>by cases (show false=true from a)
  hd:=I.ok.hd
  frames:=I.ok.frames
  stk:= .inl rfl
  exf:=λb hb=>⟨AE (Ci (fpl b hb) HG),λx c a=>(f2 b hb).2.2.2.2.1 x c (Ih x c a)⟩
  bs:=I2.bs
  bsz:=Am I.ok.bsz I2.sz
  noex:=λb o e hb=>by
   rcases(f2 b hb).2.2.2.1 with z|z
   .exact I.ok.noex b o e z
   .exact absurd (AS (AS (AD e) I.ok.bsz) z) (Bi _)
  exfs:=λb hb z=>by
   rcases AH.mp (I2.stkSub b z) with z|z
   .exact(f2 b hb).2.1 z
   .exact(f2 b hb).2.2.1 z
  funs:=I2.stack
  frf:=I2.stkFree}
 have I3:∀tk,Inv (X.comp scope P2.objs.size N s2 H2 fp λ_ _=>False) [] (cG own js σ) (upd H2 s2.heap.objs.size (.lst [])) {s2 with heap:=h₁,toks:=tk}:=λtk=>{
  ok:=hX
  os:=rfl
  bare:=I2.bare
  base:=Un.laid kp (A8 _) nf
  loc:=⟨_,Ig,λi x v a b c=>by
   obtain⟨hio,j,hj,hv⟩:=iT b;obtain⟨h3,h4,h5,h6⟩:=Hz (i-own) j x hj (by rw[show own+(i-own)=i by lia];exact a);obtain⟨m,hn,hl⟩:=I2.loc;obtain⟨u,ru,lk⟩:=hl j x v h3 hv (.inr h5);refine⟨u,ru,.inr ⟨h6,?_⟩⟩;rcases lk with⟨z,_⟩|⟨_,c0,z1,z2⟩
   .rcases h5 with h5|h5<;>(rw[h5] at z;cases z)
   .obtain⟨c1,JP⟩:=gY (env:=X.env) scope.names [] h4;have:=Ih x c1 JP;rw[z1] at this;cases this;obtain⟨o,ho,hd⟩:=z2;exact⟨c0,JP,o,kp _ _ ho,hd⟩⟩
  cell:=λx c a=>by
   obtain⟨v,o,ho,hd⟩:=I2.cell x c (Ih x c a);exact⟨v,o,kp _ _ ho,hd⟩
  free:=by
   show upd H2 _ _ P2.objs.size=none;rw[au (BZ HG)];exact I2.hok.fresh (Ar HG)
  freeC:=λx c a=>by
   rw[au (AE (cne x c a).1)];exact(cne x c a).2
  pin:=λp hp=>absurd (show p∈([]:KW (KP×Obj)) from hp) (by simp)
  hok:=I2.hok.laid kp (A8 _) ⟨AR _,[],0,.nil,Gr⟩
  len:=by rw[pe];exact Gv.symm}
 have fr0:∀b∈fp,upd H2 s2.heap.objs.size (.lst []) b=none:=λb hb=>by
  rw[au (AE (fpl b hb))];exact(f2 b hb).1
 have JM:tn 0 h₁:=T.keep 0 _ _ Kc λb _ o e=>kp b o e;have G8:∀{H':Hp},(∀b∈fp,H' b=none)->∀b∈fp,ce (X.comp scope P2.objs.size N s2 H2 fp λ_ _=>False) [] H' b:=λhn b hb=>
  ⟨hn b hb,(hX.exf b hb).1,hX.exfs b hb,.inl hb,λx c a=>(hX.exf b hb).2 x c a,λp hp=>absurd (show p∈([]:KW (KP×Obj)) from hp) (by simp)⟩
 have loop:∀s₃:KO,s₃={s2 with heap:=h₁,toks:=s2.toks+([]:KW (Str×KN)).length}->
   codeAny (model X.prog X.w) X.A (.compLoop (.ListComp GT [⟨tg,aB,GQ,0⟩] scope pos) 0 (.ref it) (.ref s2.heap.objs.size) (compEnvC scope (bK X.env scope.names []) P2.objs.size X.env))
    (compPost (model X.prog X.w) X.A X.xe use RQ (.ref s2.heap.objs.size) P2.objs.size) s₃:=by
  rintro s₃ rfl;refine o8 (λn s'=>∃i H',Inv (X.comp scope P2.objs.size N s2 H2 fp λ_ _=>False) [] (cG own js σ) H' s'/\tn i s'.heap/\(∀b∈fp,H' b=none)/\Wq i n H') ?_ m0 ⟨0,_,I3 _,JM,fr0,w0⟩;rintro n s3 ⟨i,H3,J3,t3,JN,w3⟩;rcases turn i n H3 w3 with⟨stop,qd⟩|⟨go,step⟩
  .refine fA (T.done (X.comp scope P2.objs.size N s2 H2 fp λ_ _=>False) rfl rfl rfl hc i [] s3 _ H3 _ J3 (G8 JN) t3 stop) λr s4 zu54=>?_;obtain⟨hr,J4⟩:=zu54;subst hr;obtain⟨m,hn,_⟩:=J4.loc;have B:Un (frs X.stack) fp H2 H3 s2.heap s4.heap:=J4.base;have I5:Inv X Gn σ H3 s4:=I2.call' J4.os B J4.hok J4.bare λb hb=>by
    obtain⟨a1,a2,a3,a4,a5,a6⟩:=f2 b hb;exact⟨a4,a2,a5,a6⟩
   have hp:=I2.fpOk (H':=H3) (b:=P2.objs.size) (Ar HG) J4.free;obtain⟨a1,a2,a3,a4,a5,a6⟩:=hp;exact fin s2.heap.objs.size P2.objs.size H3 s4 m I5 hn a1 a2 a3 (Am I2.sz (Ar HG)) a5 a6 qd
  .refine fA (T.item (X.comp scope P2.objs.size N s2 H2 fp λ_ _=>False) rfl rfl rfl hc i [] s3 _ H3 _ J3 (G8 JN) t3 go) λr s4 zu55=>?_;obtain⟨u,hr,h4⟩:=zu55;subst hr;refine fA h4 λ_ s5 zu56=>?_;obtain⟨x,H5,J5,r5,y5,t5,fr5⟩:=zu56;have J5':=J5.pinned (G8 fr5) (T.obj _ _ t5);refine fA (hg _ _ _ _ _ s5 _ H5 x u _ J5' r5 (ho _ _ _ _ (step x H5 y5))) λ_ s6 zu57=>?_;obtain⟨σ6,H6,J6,q6,hl6,HY⟩:=zu57;have again:∀{s7:KO}{H7:Hp},Inv (X.comp scope P2.objs.size N s2 H2 fp λ_ _=>False) ([]++fX fp s5.heap) σ6 H7 s7->(∃m',m'<n/\Wq (i+1) m' H7)->
     ∃m,m<n/\∃i H',Inv (X.comp scope P2.objs.size N s2 H2 fp λ_ _=>False) [] (cG own js σ) H' s7/\tn i s7.heap/\(∀b∈fp,H' b=none)/\Wq i m H':=fun{s7 H7} J7 z=>by
    obtain⟨m',hm,w7⟩:=z;refine⟨m',hm,i+1,H7,J7.unpinned.weak (by rw[hl6]) (λk v z=>?_),T.keep _ _ _ t5 λb hb o e=>(J7.pin (b,o) (AQ _ (AQ _ (fY hb e)))).1,λb hb=>?_,w7⟩
    .rw[HY k (iT z).1];exact z
    .obtain⟨o,e,d⟩:=T.obj _ _ t5 b hb;exact(J7.pin (b,o) (AQ _ (AQ _ (fY hb e)))).2.1
   refine fA (ht _ _ _ _ _ s6 σ6 H6 _ J6 q6) λok s7 zu58=>?_;obtain⟨H7,J7,q7⟩:=zu58;cases ok with
   |false=>exact again J7 q7
   |true=>
    refine fA (he _ _ _ _ _ s7 σ6 H7 _ J7 q7) λy s8 zu59=>?_;obtain⟨yv,H8,J8,r8,q8⟩:=zu59;exact fA (fx _ s8 σ6 H8 (.ref s2.heap.objs.size) [yv] (.ref s2.heap.objs.size) [y] _ J8 rfl (.cons r8 .nil) q8) λ_ s9 GB=>by obtain⟨_,H9,J9,_,q9⟩:=GB;exact again J9 q9
 exact codeAny_compStart_list (loop _ rfl) (T.self X.A 0 _ _ _ JM (loop _ rfl))
theorem wF{aB:KY}{pos:Pos}{wi:TI}{ti:TT}(hc:X.calm=true)
  (Gz:∀y∈scope.names,y.2≠ .cell) (GE:scope.kind=.function) (GR:∀y∈scope.names,y.2=.local->scope.names.lookup y.1=some .local)
  (GO:∀y∈scope.names,y.2=.free->X.env.kindOf y.1=some .cell\/X.env.kindOf y.1=some .free) (Gv:N.length=own+js.length)
  (Hz:∀(i j:Nat) (x:Str),js[i]? =some j->N[own+i]? =some x->X.N[j]? =some x/\(x,NameKind.free)∈scope.names/\(X.env.kindOf x=some .cell\/X.env.kindOf x=some .free)/\((relabel scope X.env).names.lookup x=some .cell\/(relabel scope X.env).names.lookup x=some .free))
  (hi:PI X tg aB wi) (hg:∀C s₀ H₀ ex,PG (X.comp scope C N s₀ H₀ ex λ_ _=>False) tg g) (ho:dU own g) (ht:∀C s₀ H₀ ex,dR (X.comp scope C N s₀ H₀ ex λ_ _=>False) GQ ti) (he:∀C s₀ H₀ ex,PE (X.comp scope C N s₀ H₀ ex λ_ _=>False) GT te)
  (hs:∀x,foldedSetIterable aB X.env x=pure x:=by intro _;rfl):PE X (.ListComp GT [⟨tg,aB,GQ,0⟩] scope pos) (fy own js wi g ti te):=by
 intro Gn s σ H Q I h;rw[eval_ListComp];refine wE hc Gz GE GR GO Gv Hz hi hg ho ht he I h (use:=none) (λacc C H3 s4 m I5 hn c1 c2 c3 c4 c5 c6 q=>?_) hs;refine⟨m,hn,λh' sb=>⟨.ref acc,H3,?_,rfl,q⟩⟩;exact I5.turned (t':=s4.toks) (it:=C) (λb o hb e=>(sb.2 b hb).trans e) c1 c2 (.inr c4) c5 c6
def g6(XN:KW Str)(sc scope:Scope)(own:Nat)(js:KW Nat)(N:KW Str):Bool:=
 (scope.names.all λy=>decide (y.2≠ .cell)&&(decide (y.2≠ .local)||decide (scope.names.lookup y.1=some .local))&&(decide (y.2≠ .free)||decide (sc.names.lookup y.1=some .cell)||decide (sc.names.lookup y.1=some .free)))&&
  decide (scope.kind=.function)&&decide (N.length=own+js.length)&&
  (List.range js.length).all λi=>match js[i]?,N[own+i]? with
   |some j,some x=>decide (XN[j]? =some x)&&decide (scope.names.lookup x=some .free)&&(decide (sc.names.lookup x=some .cell)||decide (sc.names.lookup x=some .free))
   |_,_=>false
theorem iU{env:Env}:∀{names:KW (Str×NameKind)}{x:Str},names.lookup x=some .free->
  (names.map fun(n,k)=>if(k==NameKind.free&&env.scope.kind== .function&&env.kindOf n==some .cell) then(n,NameKind.cell) else(n,k)).lookup x=some .cell\/
  (names.map fun(n,k)=>if(k==NameKind.free&&env.scope.kind== .function&&env.kindOf n==some .cell) then(n,NameKind.cell) else(n,k)).lookup x=some .free
 |[],_,h=>by simp at h
 |(n,k)::r,x,h=>by
  have ih:= @iU env r x;rw[AM,BY];rw[BY] at h;by_cases hc:(k==NameKind.free&&env.scope.kind== .function&&env.kindOf n==some .cell)=true
  .rw[A9 hc];dsimp only;cases hx:x==n with
   |true=>exact .inl rfl
   |false=>
    rw[hx] at h;exact ih h
  .rw[A6 hc];dsimp only;cases hx:x==n with
   |true=>
    rw[hx] at h;exact .inr h
   |false=>
    rw[hx] at h;exact ih h
structure CompOk(XN:KW Str)(sc scope:Scope)(own:Nat)(js:KW Nat)(N:KW Str):Prop where
 cell:∀y∈scope.names,y.2≠ .cell
 names:∀y∈scope.names,y.2=.local->scope.names.lookup y.1=some .local
 free:∀y∈scope.names,y.2=.free->sc.names.lookup y.1=some .cell\/sc.names.lookup y.1=some .free
 kind:scope.kind=.function
 len:N.length=own+js.length
 cap:∀(i j:Nat) (x:Str),js[i]? =some j->N[own+i]? =some x->XN[j]? =some x/\scope.names.lookup x=some .free/\(sc.names.lookup x=some .cell\/sc.names.lookup x=some .free)
theorem lD{XN:KW Str}{sc:Scope}(h:g6 XN sc scope own js N=true):CompOk XN sc scope own js N:=by
 unfold g6 at h;rw[AB,AB,AB] at h;obtain⟨⟨⟨h1,h2⟩,h3⟩,h4⟩:=h;rw[AG] at h1 h4;refine⟨λy hy=>?_,λy hy e=>?_,λy hy e=>?_,Au h2,Au h3,λi j x a b=>?_⟩
 .have:=h1 y hy;rw[AB,AB] at this;exact Au this.1.1
 .have:=h1 y hy;rw[AB,AB,Bs] at this;rcases this.1.2 with z|z
  .exact absurd e (Au z)
  .exact Au z
 .have:=h1 y hy;rw[AB,AB,Bs,Bs,Bs] at this;rcases this.2 with(z|z)|z
  .exact absurd e (Au z)
  .exact .inl (Au z)
  .exact .inr (Au z)
 .have hi:i<js.length:=(AJ.mp a).1;have:=h4 i (Ak.mpr hi);rw[a,b] at this;dsimp only at this;rw[AB,AB,Bs] at this;exact⟨Au this.1.1,Au this.1.2,this.2.imp Au Au⟩
section
variable{X:Cx}{XN:KW Str}{sc scope:Scope}{GT tg aB:KY}{GQ:KW KY}{pos:Pos}{N:KW Str}{own:Nat}{js:KW Nat}{wi:TI}{g:TG}{ti:TT}{te:TE}
theorem fC(hc:X.calm=true)(ok:g6 XN sc scope own js N=true)(Kl:X.env.scope=sc)(hXN:X.N=XN)(hi:PI X tg aB wi)(hg:∀C s₀ H₀ ex,PG (X.comp scope C N s₀ H₀ ex λ_ _=>False) tg g)(ho:dU own g)
  (ht:∀C s₀ H₀ ex,dR (X.comp scope C N s₀ H₀ ex λ_ _=>False) GQ ti) (he:∀C s₀ H₀ ex,PE (X.comp scope C N s₀ H₀ ex λ_ _=>False) GT te)
  (hs:∀x,foldedSetIterable aB X.env x=pure x:=by intro _;rfl):PE X (.ListComp GT [⟨tg,aB,GQ,0⟩] scope pos) (fy own js wi g ti te):=by
 obtain⟨h1,h2,h3,h4,h5,h6⟩:=lD ok;subst Kl hXN;refine wF hc h1 h4 h2 h3 h5 (λi j x a b=>?_) hi hg ho ht he hs;obtain⟨z1,z2,z3⟩:=h6 i j x a b;exact⟨z1,BS z2,z3,iU z2⟩
end
theorem fD{xs:KW V}{ti:TT}{σ:St}{H1:Hp}{acc:KP}{Q:VK}(Pv:Nat->Hp->Prop)(h0:Pv 0 (upd H1 acc (.lst [])))(hl:∀i H2,i<=xs.length->Pv i H2->SqL K H2 a xs)
  (hs:∀i x H2,xs[i]? =some x->Pv i H2->g x (cG own js σ) H2 λσ4 H4=>ti σ4 H4 λb H5=>if b=true then te σ4 H5 λy H6=>rAppend (.ref acc) [y] H6 λ_ H7=>Pv (i+1) H7 else Pv (i+1) H5) (hd:∀H2,Pv xs.length H2->Q (.ref acc) H2)
  (mono:∀σ H (R R':St->Hp->Prop) x,(∀σ' H',R σ' H'->R' σ' H')->g x σ H R->g x σ H R') (Hb:∀σ H (R R':Bool->Hp->Prop),(∀b H',R b H'->R' b H')->ti σ H R->ti σ H R') (Hc:∀σ H (R R':VK),(∀v H',R v H'->R' v H')->te σ H R->te σ H R'):
  gZ (Itl K a) own js g ti te σ H1 acc Q:=by
 refine⟨λi m H2=>m=xs.length-i/\i<=xs.length/\Pv i H2,⟨xs.length,by simp,AR _,h0⟩,?_⟩;rintro i m H2 ⟨rfl,hi,p⟩;have q:=hl i H2 hi p;by_cases Gx:i<xs.length
 .refine .inr ⟨⟨xs,xs[i],q,by simp[Gx]⟩,λx H3 y=>?_⟩;obtain⟨e1,y⟩:=y;subst e1;refine mono _ _ _ _ _ (λσ4 H4 q=>Hb _ _ _ _ (λb H5 q=>?_) q) (hs i x _ (y xs q) p);cases b with
  |true=>
   refine Hc _ _ _ _ (λv H6 q=>?_) q;obtain⟨l,xs,y,a1,a2,a3,a4,a5⟩:=q;exact⟨l,xs,y,a1,a2,a3,a4,_,by lia,rfl,Gx,a5⟩
  |false=>exact⟨_,by lia,rfl,Gx,q⟩
 .have e:i=xs.length:=by lia
  subst e;exact .inl ⟨⟨xs,q,A8 _⟩,hd H2 p⟩
def fE :∀(σ:St) (H:Hp) (R R':St->Hp->Prop) (x:V),(∀σ' H',R σ' H'->R' σ' H')->cn i x σ H R->cn i x σ H R':=λ_ _ _ _ _ k h=>k _ _ h
theorem fF{A B:St->Hp->Prop}{x:V}{σ:St}(h:A (σ.set i (some x)) H):cn i x σ H λσ4 H4=>iR σ4 H4 λb H5=>if b=true then A σ4 H5 else B σ4 H5:=by
 show if true=true then A (σ.set i (some x)) H else B (σ.set i (some x)) H
 rw[A9 rfl];exact h
theorem pf(h:i<n):ixN n (i:Int)=some i:=by
 unfold ixN;rw[A9 (by lia),A9 (by lia),B0]
def dW:∀(σ:St) (H:Hp) (R R':Bool->Hp->Prop),(∀b H',R b H'->R' b H')->iR σ H R->iR σ H R':=λ_ _ _ _ k h=>k _ _ h
inductive EqR(K:W.Frag)(H:Hp):Nat->V->V->Bool->Prop where
 |int (d:Nat) (i j:Int):EqR K H d (.int i) (.int j) (decide (i=j))
 |lists {d:Nat}{a b:Addr}{xs ys:List V} (es:Nat->Bool) (h1:SqL K H a xs) (h2:SqL K H b ys) (hl:xs.length=ys.length) (he:∀(j:Nat) x y,xs[j]? =some x->ys[j]? =some y->EqR K H d x y (es j)):EqR K H (d+1) (.ref a) (.ref b) ((List.range xs.length).all es)
 |lens {d:Nat}{a b:Addr}{xs ys:List V} (h1:SqL K H a xs) (h2:SqL K H b ys) (hl:xs.length≠ys.length):EqR K H (d+1) (.ref a) (.ref b) false
 |tuples {d:Nat}{a b:Addr}{xs ys:List V} (es:Nat->Bool) (h1:SqT K H a xs) (h2:SqT K H b ys) (he:∀(j:Nat) x y,xs[j]? =some x->ys[j]? =some y->EqR K H d x y (es j)):EqR K H (d+1) (.ref a) (.ref b) ((List.range (min xs.length ys.length)).all es&&xs.length==ys.length)
section
variable{X:Cx}{Gn:KW (KP×Obj)}{σ:St}{H:Hp}{s:KO}
theorem EqR.same(I:Inv X Gn σ H s){x:V}(h:EqR X.K H d x y e):x=y->e=true:=by
 induction h with
 |int d i j=>intro q;cases q;simp
 |lists es h1 h2 hl he ih=>
  intro q;cases q;have z:=I.list_inj h1 h2;subst z;rw[AG];intro j hj;rw[Ak] at hj;have hx:=A1 hj;exact ih j _ _ hx hx rfl
 |lens h1 h2 hl=>
  intro q;cases q;exact absurd (Ah List.length (I.list_inj h1 h2)) hl
 | @tuples d a b xs ys es h1 h2 he ih=>
  intro q;cases q;have z:=I.tuple_inj h1 h2;subst z;rw[AB];refine⟨?_,by simp⟩;rw[AG];intro j hj;rw[Ak,Nat.min_self] at hj;have hx:=A1 hj;exact ih j _ _ hx hx rfl
def di(A:KU):A.in1.units=A.units+1:=rfl
theorem EqR.bo(I:Inv X Gn σ H s){x:V}(h:EqR X.K H d x y e):∀{A:KU}{u v:KN},A.units+d<cLine->ar x u->ar y v->SeqAt.RcAt A s u v e/\SeqAt.RcNeAt A s u v (!e)/\SeqAt.EqAt A s u v e:=by
 induction h with
 |int d i j=>
  intro A u v hu ru rv;obtain⟨t,rfl⟩:=ru;obtain⟨t',rfl⟩:=rv;have e:decide (i=j)=(i==j):=by rw[Bool.beq_eq_decide_eq]
  rw[e];exact⟨SeqAt.RcAt.int_int i t j t',SeqAt.RcNeAt.int_int i t j t',SeqAt.EqAt.int_int i t j t'⟩
 | @lists d a b xs ys es h1 h2 hl he ih=>
  intro A u v hu ru rv;obtain rfl:u=Value.ref a:=ru;obtain rfl:v=Value.ref b:=rv;obtain⟨is,r1,p1,z1⟩:=I.list h1;obtain⟨js,r2,p2,z2⟩:=I.list h2;have l1:=r1.length;have l2:=r2.length;have ln:xs.length=is.toArray.size:=by simpa using l1
  have sz:is.toArray.size=js.toArray.size:=by simp only[AA];lia
  have it:∀j (q1:j<is.toArray.size) (q2:j<js.toArray.size),SeqAt.EqAt A.in1 s is.toArray[j] js.toArray[j] (es j):=λj q1 q2=>by
   simp only[AA] at q1 q2;have hx:xs[j]? =some xs[j]:=A1 (by lia);have hy:ys[j]? =some ys[j]:=A1 (by lia);obtain⟨u1,e1,ru1⟩:=r1.get hx;obtain⟨u2,e2,ru2⟩:=r2.get hy;have g1:is.toArray[j]=u1:=by
    rw[A1 q1] at e1;simpa using Option.some.inj e1
   have g2:js.toArray[j]=u2:=by
    rw[A1 q2] at e2;simpa using Option.some.inj e2
   rw[g1,g2];exact(ih j _ _ hx hy (by rw[di];lia) ru1 ru2).2.2
  rw[ln];have R:=SeqAt.RcAt.lists (A:=A) p1.isList p2.isList sz (by lia) it;refine⟨R,SeqAt.RcNeAt.lists p1.isList p2.isList sz (by lia) it,?_⟩;by_cases q:a=b
  .subst q;have:=(EqR.lists es h1 h2 hl he).same I rfl;rw[ln] at this;rw[this];exact SeqAt.EqAt.same _
  .exact SeqAt.EqAt.of_refs q R
 | @lens d a b xs ys h1 h2 hl=>
  intro A u v hu ru rv;obtain rfl:u=Value.ref a:=ru;obtain rfl:v=Value.ref b:=rv;obtain⟨is,r1,p1,z1⟩:=I.list h1;obtain⟨js,r2,p2,z2⟩:=I.list h2;have l1:=r1.length;have l2:=r2.length;have sz:(is.toArray.size !=js.toArray.size)=true:=by
   simp only[AA,bne_iff_ne,ne_eq];lia
  have R:=SeqAt.RcAt.lists_lengths (A:=A) p1.isList p2.isList sz (by lia);refine⟨R,SeqAt.RcNeAt.lists_lengths p1.isList p2.isList sz (by lia),?_⟩;by_cases q:a=b
  .subst q;exact absurd (Ah List.length (I.list_inj h1 h2)) hl
  .exact SeqAt.EqAt.of_refs q R
 | @tuples d a b xs ys es h1 h2 he ih=>
  intro A u v hu ru rv;obtain rfl:u=Value.ref a:=ru;obtain rfl:v=Value.ref b:=rv;obtain⟨is,r1,p1,z1⟩:=I.tuple h1;obtain⟨js,r2,p2,z2⟩:=I.tuple h2;have l1:=r1.length;have l2:=r2.length;have ln:xs.length=is.toArray.size:=by simpa using l1
  have ln2:ys.length=js.toArray.size:=by simpa using l2
  have it:∀j (q1:j<is.toArray.size) (q2:j<js.toArray.size),SeqAt.EqAt A.in1 s is.toArray[j] js.toArray[j] (es j):=λj q1 q2=>by
   simp only[AA] at q1 q2;have hx:xs[j]? =some xs[j]:=A1 (by lia);have hy:ys[j]? =some ys[j]:=A1 (by lia);obtain⟨u1,e1,ru1⟩:=r1.get hx;obtain⟨u2,e2,ru2⟩:=r2.get hy;have g1:is.toArray[j]=u1:=by
    rw[A1 q1] at e1;simpa using Option.some.inj e1
   have g2:js.toArray[j]=u2:=by
    rw[A1 q2] at e2;simpa using Option.some.inj e2
   rw[g1,g2];exact(ih j _ _ hx hy (by rw[di];lia) ru1 ru2).2.2
  rw[ln,ln2];have R:=SeqAt.RcAt.tuples (A:=A) (show s.heap.IsTuple a is.toArray from p1) (show s.heap.IsTuple b js.toArray from p2) (by lia) it;refine⟨R,SeqAt.RcNeAt.tuples (show s.heap.IsTuple a is.toArray from p1) (show s.heap.IsTuple b js.toArray from p2) (by lia) it,?_⟩;by_cases q:a=b
  .subst q;have:=(EqR.tuples es h1 h2 he).same I rfl;rw[ln,ln2] at this;rw[this];exact SeqAt.EqAt.same _
  .exact SeqAt.EqAt.of_refs q R
inductive rEqS(K:W.Frag)(neg:Bool)(x:V)(y:V)(H:Hp)(Q:VK):Prop
 |mk d e:EqR K H d x y e->d<=8->(Q (.bl (if neg then !e else e)) H)->rEqS K neg x y H Q
theorem wG(hr:Room k X.A):OpR X (compareOp .NotEq) (rEqS X.K true):=by
 intro Gn s σ H x y v u Q I rx ry h;obtain⟨d,e,r,hd,q⟩:=h;have hu:=hr.un;exact(r.bo I (A:=X.A) (by lia) rx ry).2.1 X.prog X.w X.xe _ ⟨.bl (!e),H,I,rfl,q⟩
theorem iV(hc:X.calm=true):bB X (.builtin "sum") (λxs H Q=>∃(p:KP) (ns:KW Int),xs=[.ref p]/\SqL X.K H p (ns.map V.int)/\Q (.int ns.sum) H):=by
 intro Gn s σ H xs us Q I r h;obtain⟨p,ns,rfl,hq,q⟩:=h;obtain⟨u,rfl,rx⟩:=cP r;cases rx;obtain⟨Gq,r',pl,hz⟩:=I.list hq;have hi:IntsAre Gq ns:=oH r';obtain⟨ys,e⟩:=hi.allInts.items;have hl:=pl.isList;rw[e] at hl;refine sum_intListG (I.ok.hd hc) hl λh' tk t' hk=>⟨.int ns.sum,H,I.kept hk,⟨t',?_⟩,q⟩;have n1:=hi.numsOf;rw[show Gq=Gq.toArray.toList from rfl,e,nums_intItems] at n1;rw[preSum_eq,Cj (by simp),n1]
def CDB(_ j:Int):Prop:=j≠0/\j.natAbs<2^512
theorem wH:OpR X (binaryOp .FloorDiv) (rI CDB λi j=>.int (i.fdiv j)):=opI λi j _ _ _ _ _ hc q=>floordiv_int hc.1 q (.inl (PyProof.noPylong_of_log2 (by
 have h0:j.natAbs≠0:=by have:=hc.1;lia
 have:=(Nat.log2_lt h0).mpr hc.2;lia)))
end
def Ite(K:W.Frag)(a:KP):It:=
 ⟨λi H=>∃xs x,SqL K H a xs/\xs[i]? =some x,λi H v H'=>∃x p,(∀xs,SqL K H a xs->xs[i]? =some x)/\v=.ref p/\H p=none/\H'=upd H p (.tup [.int i,x]),λi H=>∃xs,SqL K H a xs/\xs.length<=i⟩
theorem wI{Ho:KW KY}(a e it:KP)(Hi:e≠it):
  Turn P w K (.Tuple Ho k pos) (Ite K a) [e,it] e (λi h=>(∃Jj,IsEnum h e it (i:Nat) Jj)/\h.IsListIter it a i) where
 mem:=by simp
 obj:=λi h st b hb=>by
  obtain⟨⟨Jj,h1⟩,o,h2,h3,h4⟩:=st;rcases AH.mp hb with z|z
  .subst z;exact⟨_,h1,λv y=>by cases y⟩
  .rw[An.mp z];exact⟨o,h2,λv y=>by rw[h4] at y;cases y⟩
 keep:=λi h h' st kk=>⟨st.1.imp λJj z=>kk e (by simp) _ z,st.2.at λo z=>kk it (by simp) o z⟩
 item:=by
  intro X hP hw hK hc i Gn s σ H E I hf st hg;subst hP hw hK;obtain⟨xs,x,hq,hx⟩:=hg;obtain⟨Gq,rv,p,hz⟩:=I.list hq;obtain⟨u,hu,ru⟩:=rv.get hx;obtain⟨⟨Jj,he⟩,GD⟩:=st;have nf:H s.heap.objs.size=none:=I.hok.fresh (A8 _);have ltE:e<s.heap.objs.size:=AD he;refine wpAny_pyNext_enum_item he GD p.isList (x:=u) (by simpa using hu) Hi λh' ho IP hT hsz hk=>⟨.ref s.heap.objs.size,rfl,?_⟩;refine wpAny_letOwnedTupleGo_enum ho λh2 Iy sb=>?_;have k2:∀b o,b≠e->b≠it->s.heap.get? b=some o->h2.get? b=some o:=λb o n1 n2 z=>(sb.2 b n1).trans (hk b o n1 n2 z);have hT2:h2.get? s.heap.objs.size=some {cls:= .type "tuple",data:= .seq #[.int i s.toks,u]}:=(sb.2 _ (BZ ltE)).trans hT;have HH:∀b,b∉[e,it]->b≠e/\b≠it:=λb z=>⟨λy=>z (by simp[y]),λy=>z (by simp[y])⟩;refine⟨.ref s.heap.objs.size,upd H s.heap.objs.size (.tup [.int i,x]),?_,rfl,⟨x,_,λys hy=>by rw[I.list_inj hy hq];exact hx,rfl,nf,rfl⟩,⟨⟨u,by simpa using Iy⟩,IP.at λo z=>(sb.2 it Hi.symm).trans z⟩,λb hb=>?_⟩
  .refine I.step (s:=s) (h':=h2) (g':=s.gens) (d':=s.drawn) (t':=s.toks+1) (ch:=[e,it]) (λb hb=>?_) (λb o _ _ c z _=>k2 b o (HH b c).1 (HH b c).2 z) (λb o _ _ c z _=>⟨o.slots,k2 b o (HH b c).1 (HH b c).2 z⟩)
    (λb o c z n=>?_) (λb o c z=>⟨o,k2 b o (HH b c).1 (HH b c).2 z⟩) (λb ys z=>?_) (λb o v z=>?_) (λb ps z=>⟨#[],?_⟩) (λm hm=>?_) (λb v z=>?_) I.bare
   .obtain⟨a1,a2,a3,a4,a5,a6⟩:=hf b hb;exact⟨a4,a2,a5,a6⟩
   .rw[au (AE (AD z))];exact n
   .rw[au (bF z nf)];exact z
   .rw[au (bF z nf)];exact z
   .rw[au (bF z nf),z];simp
   .obtain⟨o,es,ep,Hk,r⟩:=hm;exact⟨o,es,ep,k2 _ o (λy=>(hf e (by simp)).2.1 y.symm) (λy=>(hf it (by simp)).2.1 y.symm) Hk,r⟩
   .by_cases hb:b=s.heap.objs.size
    .subst hb;rw[am] at z;cases z;exact⟨by show 2<=sizeLine;decide,[.int i s.toks,u],.cons ⟨_,rfl⟩ (.cons ru .nil),⟨_,hT2,rfl,_,rfl⟩⟩
    .rw[au hb] at z;refine(I.hok b v z).stay (λc o hc y=>k2 c o ?_ ?_ y) (λc y=>?_) λc ys y=>?_
     .rcases hc with q|q
      .rw[q];exact λy=>by rw[y,(hf e (by simp)).1] at z;cases z
      .exact λy=>by rw[y,(hf e (by simp)).1] at q;cases q
     .rcases hc with q|q
      .rw[q];exact λy=>by rw[y,(hf it (by simp)).1] at z;cases z
      .exact λy=>by rw[y,(hf it (by simp)).1] at q;cases q
     .rw[au (bF y nf)];exact y
     .rw[au (bF y nf)];exact y
  .obtain⟨o,z,_⟩:=(show∃o,s.heap.get? b=some o/\True from by
    rcases AH.mp hb with q|q
    .rw[q];exact⟨_,he,trivial⟩
    .rw[An.mp q];obtain⟨o,y,_⟩:=GD;exact⟨o,y,trivial⟩)
   rw[au (AE (AD z))];exact(hf b hb).1
 done:=by
  intro X hP hw hK hc i Gn s σ H E I hf st hg;subst hP hw hK;obtain⟨xs,hq,hx⟩:=hg;obtain⟨Gq,rv,p,hz⟩:=I.list hq;obtain⟨⟨Jj,he⟩,GD⟩:=st;have hl:=rv.length;obtain⟨f0,f1,f2,f3,f4,f5⟩:=hf it (by simp);exact wpAny_pyNext_enum_end (I.ok.hd hc) he GD p.isList (by simp;lia) λh' eb=>⟨rfl,I.turned (t':=s.toks) (λb o hb z=>eb b o hb z) f0 f1 f3 f4 f5⟩
 self:=λ_ _ _ _ _ st h=>let ⟨⟨_,z⟩,_⟩:=st;wpAny_pyIter_enum z h
section
variable{X:Cx}{Ho:KW KY}{k:Nat}{G7 p pos:Pos}{e:KY}{te:TE}
def wJ(K:W.Frag)(tl:TE):TI:=λσ H R=>tl σ H λx H1=>∃a,x=.ref a/\(∃xs,SqL K H1 a xs)/\R (Ite K a) H1
theorem lE(hg:Gl X "enumerate")(hm:X.mg "enumerate"=none)(hl:PE X e te)(he:starEach [e] X.env=[(false,eval e X.env)]:=by rfl):PI X (.Tuple Ho k G7) (.Call (.Name "enumerate" p) [e] [] pos) (wJ X.K te):=by
 intro Gn s σ H R I h;refine BH (dw I hg hm boot_enumerate ?_);refine BP (thn ((aa hl ae he) _ Gn s σ H (λvs H1=>match vs with|[x]=>(∃a,x=.ref a/\(∃xs,SqL X.K H1 a xs)/\R (Ite X.K a) H1)|_=>False) I h) λus s1 zu60=>?_) he (by rfl);obtain⟨vs,H1,I1,r1,q1⟩:=zu60
 match vs,q1,r1 with
 |[x],q1,r1=>
 obtain⟨a,rfl,⟨xs,hq⟩,q⟩:=q1;obtain⟨u,rfl,ru⟩:=cP r1;obtain rfl:u=Value.ref a:=ru;obtain⟨Gq,rv,pl,hz⟩:=I1.list hq;refine call_enumerate_list pl.isList λh' hen GD hsz hk=>?_;refine wpAny_pyIter_enum hen ?_;refine⟨_,[_,_],_,_,H1,rfl,I1.kept (t':=s1.toks) hk,wI a _ _ (BZ (B8 _)),⟨⟨_,by simpa using hen⟩,GD⟩,λb hb=>?_,q⟩;have fr:∀b,s1.heap.objs.size<=b->ce X Gn H1 b:=λb z=>I1.fpOk z (I1.hok.fresh z);rcases AH.mp hb with z|z
 .rw[z];exact fr _ (Bj _)
 .rw[An.mp z];exact fr _ (A8 _)
end
theorem ph{xs:KW V}{tb:TS}{D:Ends}{σ:St}(Pv:Nat->St->Hp->Prop)(h0:Pv 0 σ H)(hl:∀i σ H,i<=xs.length->Pv i σ H->SqL K H a xs)
  (hs:∀i x σ H p,xs[i]? =some x->Pv i σ H->H p=none->g (.ref p) σ (upd H p (.tup [.int i,x])) λσ2 H2=>tb (eLp D (Pv (i+1))) σ2 H2) (hd:∀σ H,Pv xs.length σ H->D.nx σ H):
  ∃Wq:Nat->Nat->St->Hp->Prop,(∃m,Wq 0 m σ H)/\∀i m σ H,Wq i m σ H->
   ((Ite K a).stop i H/\D.nx σ H)\/((Ite K a).go i H/\∃N:St->Hp->Prop,(∀σ' H',N σ' H'->∃m',m'<m/\Wq (i+1) m' σ' H')/\∀x H',(Ite K a).yld i H x H'->g x σ H' λσ2 H2=>tb (eLp D (N)) σ2 H2):=by
 refine⟨λi m σ H=>m=xs.length-i/\i<=xs.length/\Pv i σ H,⟨xs.length,by simp,AR _,h0⟩,?_⟩;rintro i m σ H ⟨rfl,hi,p⟩;have q:=hl i σ H hi p;by_cases Gx:i<xs.length
 .refine .inr ⟨⟨xs,xs[i],q,by simp[Gx]⟩,Pv (i+1),λσ' H' p'=>⟨xs.length-(i+1),by lia,rfl,Gx,p'⟩,λx H' y=>?_⟩;obtain⟨z,pp,e1,e2,e3,e4⟩:=y;subst e2 e4;exact hs i z σ H pp (e1 xs q) p e3
 .have e:i=xs.length:=by lia
  subst e;exact .inl ⟨⟨xs,q,A8 _⟩,hd σ H p⟩
inductive rGetN(K:W.Frag)(o:V)(i:V)(H:Hp)(Q:VK):Prop
 |mk (p:Addr) (xs:List V) (j:Nat) (k:Int) (v:V):o=.ref p->i=.int k->k=j->SqL K H p xs->xs[j]? =some v->Q v H->rGetN K o i H Q
theorem pi :nN X (rGetN X.K):=by
 intro Gn s σ H o i ov iv Q I r1 r2 h;obtain⟨p,xs,j,k,v,rfl,rfl,e,hq,hx,q⟩:=h;cases r1;obtain⟨t,rfl⟩:=r2;obtain⟨Gq,r,pl,hz⟩:=I.list hq;obtain⟨w,ew,HN⟩:=r.get hx;have hl:=r.length;have hn:=fm;have hj:j<xs.length:=(AJ.mp hx).1;exact wpAny_getItem_list pl.isList (by lia) (by lia) (by rw[e,B0];simpa using ew) ⟨v,H,I,HN,q⟩
inductive D where
 |i (n:Int)|l (xs:List D)|t (xs:List D)
mutual
def Is(H:Hp):D->V->Prop
 |.i n,v=>v=.int n
 |.l xs,v=>∃a vs,v=.ref a/\H a=some (.lst vs)/\Iss H xs vs
 |.t xs,v=>∃a vs,v=.ref a/\H a=some (.tup vs)/\Iss H xs vs
def Iss(H:Hp):KW D->KW V->Prop
 |[],vs=>vs=[]
 |x::xs,vs=>∃u us,vs=u::us/\Is H x u/\Iss H xs us
end
theorem dj{H:Hp}{n:Int}:Is H (.i n) (.int n):=by unfold Is;rfl
theorem ba{H:Hp}{a:KP}{xs:KW D}{vs:KW V}(h:H a=some (.lst vs))(k:Iss H xs vs):Is H (.l xs) (.ref a):=by unfold Is;exact⟨a,vs,rfl,h,k⟩
theorem dB{H:Hp}{a:KP}{xs:KW D}{vs:KW V}(h:H a=some (.tup vs))(k:Iss H xs vs):Is H (.t xs) (.ref a):=by unfold Is;exact⟨a,vs,rfl,h,k⟩
theorem aS{H:Hp}{n:Int}{v:V}(h:Is H (.i n) v):v=.int n:=by unfold Is at h;exact h
theorem aP{H:Hp}{xs:KW D}{v:V}(h:Is H (.l xs) v):∃a vs,v=.ref a/\H a=some (.lst vs)/\Iss H xs vs:=by unfold Is at h;exact h
theorem dk{H:Hp}{xs:KW D}{v:V}(h:Is H (.t xs) v):∃a vs,v=.ref a/\H a=some (.tup vs)/\Iss H xs vs:=by unfold Is at h;exact h
theorem aM{H:Hp}:Iss H [] []:=by unfold Iss;rfl
theorem aT{H:Hp}{x:D}{xs:KW D}{u:V}{us:KW V}(h:Is H x u)(k:Iss H xs us):Iss H (x::xs) (u::us):=by unfold Iss;exact⟨u,us,rfl,h,k⟩
theorem aU{H:Hp}{x:D}{xs:KW D}{vs:KW V}(h:Iss H (x::xs) vs):∃u us,vs=u::us/\Is H x u/\Iss H xs us:=by unfold Iss at h;exact h
theorem bP{H:Hp}{vs:KW V}(h:Iss H [] vs):vs=[]:=by unfold Iss at h;exact h
mutual
theorem Is.mono{H H':Hp}(s:af H H'):∀{d:D}{v:V},Is H d v->Is H' d v
 |.i _,_,h=>by rw[aS h];exact dj
 |.l xs,_,h=>by
  obtain⟨a,vs,e,q,r⟩:=aP h;rw[e];exact ba (s _ _ q) (Iss.mono s r)
 |.t xs,_,h=>by
  obtain⟨a,vs,e,q,r⟩:=dk h;rw[e];exact dB (s _ _ q) (Iss.mono s r)
theorem Iss.mono{H H':Hp}(s:af H H'):∀{xs:KW D}{vs:KW V},Iss H xs vs->Iss H' xs vs
 |[],_,h=>by rw[bP h];exact aM
 |x::xs,_,h=>by
  obtain⟨u,us,e,q,r⟩:=aU h;rw[e];exact aT (Is.mono s q) (Iss.mono s r)
end
theorem Iss.length{H:Hp}:∀{xs:KW D}{vs:KW V},Iss H xs vs->vs.length=xs.length
 |[],_,h=>by rw[bP h];rfl
 |x::xs,_,h=>by
  obtain⟨u,us,rfl,_,r⟩:=aU h;rw[AN,AN,r.length]
theorem Iss.get{H:Hp}:∀{xs:KW D}{vs:KW V}{j:Nat}{x:D},Iss H xs vs->xs[j]? =some x->∃v,vs[j]? =some v/\Is H x v
 |[],_,_,_,_,e=>by simp at e
 |x::xs,_,0,_,h,e=>by
  obtain⟨u,us,rfl,q,_⟩:=aU h;simp at e;subst e;exact⟨u,rfl,q⟩
 |x::xs,_,j+1,_,h,e=>by
  obtain⟨u,us,rfl,_,r⟩:=aU h;obtain⟨v,e',k⟩:=r.get (j:=j) (by simpa using e);exact⟨v,by simpa using e',k⟩
theorem Iss.of_get{H:Hp}{xs:KW D}{vs:KW V}{j:Nat}{v:V}(h:Iss H xs vs)(e:vs[j]? =some v):∃x,xs[j]? =some x/\Is H x v:=by
 have hj:j<vs.length:=(AJ.mp e).1;have hj':j<xs.length:=by rw[<-h.length];exact hj
 obtain⟨u,e1,k⟩:=h.get (A1 hj');rw[e] at e1;cases e1;exact⟨_,A1 hj',k⟩
theorem Iss.append{H:Hp}:∀{xs ys:KW D}{vs ws:KW V},Iss H xs vs->Iss H ys ws->Iss H (xs++ys) (vs++ws)
 |[],_,_,_,h,k=>by rw[bP h];exact k
 |x::xs,_,_,_,h,k=>by
  obtain⟨u,us,rfl,q,r⟩:=aU h;exact aT q (r.append k)
theorem Iss.take{H:Hp}:∀{xs:KW D}{vs:KW V} (n:Nat),Iss H xs vs->Iss H (xs.take n) (vs.take n)
 |[],_,n,h=>by rw[bP h];simp;exact aM
 |x::xs,_,0,h=>by simp;exact aM
 |x::xs,_,n+1,h=>by
  obtain⟨u,us,rfl,q,r⟩:=aU h;exact aT q (r.take n)
theorem Iss.drop{H:Hp}:∀{xs:KW D}{vs:KW V} (n:Nat),Iss H xs vs->Iss H (xs.drop n) (vs.drop n)
 |[],_,n,h=>by rw[bP h];simp;exact aM
 |x::xs,_,0,h=>h
 |x::xs,_,n+1,h=>by
  obtain⟨u,us,rfl,q,r⟩:=aU h;exact r.drop n
theorem Iss.rep{H:Hp}{x:D}{v:V}(h:Is H x v):∀n:Nat,Iss H (List.replicate n x) (List.replicate n v)
 |0=>aM
 |n+1=>by rw[BK,BK];exact aT h (Iss.rep h n)
mutual
def Kin:D->D->Prop
 |.i _,.i _=>True
 |.l xs,.l ys=>cQ xs ys
 |.t xs,.t ys=>cQ xs ys
 |_,_=>False
def cQ:KW D->KW D->Prop
 |x::xs,y::ys=>Kin x y/\cQ xs ys
 |_,_=>True
end
mutual
def eqD:D->D->Bool
 |.i a,.i b=>decide (a=b)
 |.l xs,.l ys=>bQ xs ys
 |.t xs,.t ys=>bQ xs ys
 |_,_=>false
def bQ:KW D->KW D->Bool
 |[],[]=>true
 |x::xs,y::ys=>eqD x y&&bQ xs ys
 |_,_=>false
end
mutual
def dep:D->Nat
 |.i _=>0
 |.l xs=>cR xs+1
 |.t xs=>cR xs+1
def cR:KW D->Nat
 |[]=>0
 |x::xs=>max (dep x) (cR xs)
end
mutual
theorem wK:∀{a b:D},eqD a b=true↔a=b
 |.i a,.i b=>by simp[eqD]
 |.i _,.l _=>by simp[eqD]
 |.i _,.t _=>by simp[eqD]
 |.l _,.i _=>by simp[eqD]
 |.l xs,.l ys=>by simp[eqD,iW (xs:=xs) (ys:=ys)]
 |.l _,.t _=>by simp[eqD]
 |.t _,.i _=>by simp[eqD]
 |.t _,.l _=>by simp[eqD]
 |.t xs,.t ys=>by simp[eqD,iW (xs:=xs) (ys:=ys)]
theorem iW:∀{xs ys:KW D},bQ xs ys=true↔xs=ys
 |[],[]=>by simp[bQ]
 |[],_::_=>by simp[bQ]
 |_::_,[]=>by simp[bQ]
 |x::xs,y::ys=>by simp[bQ,wK (a:=x) (b:=y),iW (xs:=xs) (ys:=ys)]
end
theorem lF:∀{xs ys:KW D},xs.length=ys.length->bQ xs ys=(List.range xs.length).all λj=>eqD (xs.getD j (.i 0)) (ys.getD j (.i 0))
 |[],[],_=>by simp[bQ]
 |x::xs,y::ys,h=>by
  have ih:=lF (xs:=xs) (ys:=ys) (by simpa using h);rw[bQ,ih,AN,List.range_succ_eq_map];simp[List.all_map,Function.comp_def]
theorem pq{xs ys:KW D}(h:xs.length≠ys.length):bQ xs ys=false:=by
 cases e:bQ xs ys with
 |false=>rfl
 |true=>exact absurd (Ah List.length (iW.mp e)) h
mutual
theorem Is.eqr{K:W.Frag}{H:Hp}:∀{d e:D}{v w:V}{n:Nat},dep d<=n->Kin d e->Is H d v->Is H e w->EqR K H n v w (eqD d e)
 |.i a,.i b,_,_,n,_,_,h,k=>by
  rw[aS h,aS k,eqD];exact EqR.int n a b
 |.l xs,.l ys,_,_,0,hn,_,_,_=>absurd hn (by unfold dep;lia)
 |.l xs,.l ys,_,_,n+1,hn,hk,h,k=>by
  obtain⟨a,vs,rfl,ha,ra⟩:=aP h;obtain⟨b,ws,rfl,hb,rb⟩:=aP k;have JL:cR xs<=n:=by unfold dep at hn;lia
  have IQ:cQ xs ys:=by unfold Kin at hk;exact hk
  have l1:=ra.length;have l2:=rb.length;rw[eqD];by_cases hl:xs.length=ys.length
  .rw[lF hl,<-l1];exact EqR.lists _ (SqL.of ha) (SqL.of hb) (by lia) λj x y hx hy=>Iss.eqr JL IQ ra rb hx hy
  .rw[pq hl];exact EqR.lens (SqL.of ha) (SqL.of hb) (by lia)
 |.t xs,.t ys,_,_,0,hn,_,_,_=>absurd hn (by unfold dep;lia)
 |.t xs,.t ys,_,_,n+1,hn,hk,h,k=>by
  obtain⟨a,vs,rfl,ha,ra⟩:=dk h;obtain⟨b,ws,rfl,hb,rb⟩:=dk k;have JL:cR xs<=n:=by unfold dep at hn;lia
  have IQ:cQ xs ys:=by unfold Kin at hk;exact hk
  have l1:=ra.length;have l2:=rb.length;rw[eqD];have q:=EqR.tuples (d:=n) (λj=>eqD (xs.getD j (.i 0)) (ys.getD j (.i 0))) (SqT.of (K:=K) ha) (SqT.of (K:=K) hb) λj x y hx hy=>Iss.eqr JL IQ ra rb hx hy;by_cases hl:xs.length=ys.length
  .rw[lF hl];rw[l1,l2,<-hl,Nat.min_self] at q;simpa using q
  .rw[pq hl];have z:(vs.length==ws.length)=false:=by rw[l1,l2];simpa using hl
   rw[z,CK] at q;exact q
 |.i _,.l _,_,_,_,_,hk,_,_=>by unfold Kin at hk;exact hk.elim
 |.i _,.t _,_,_,_,_,hk,_,_=>by unfold Kin at hk;exact hk.elim
 |.l _,.i _,_,_,_,_,hk,_,_=>by unfold Kin at hk;exact hk.elim
 |.l _,.t _,_,_,_,_,hk,_,_=>by unfold Kin at hk;exact hk.elim
 |.t _,.i _,_,_,_,_,hk,_,_=>by unfold Kin at hk;exact hk.elim
 |.t _,.l _,_,_,_,_,hk,_,_=>by unfold Kin at hk;exact hk.elim
theorem Iss.eqr{K:W.Frag}{H:Hp}:∀{xs ys:KW D}{vs ws:KW V}{n:Nat},cR xs<=n->cQ xs ys->Iss H xs vs->Iss H ys ws->∀{j:Nat}{x y:V},vs[j]? =some x->ws[j]? =some y->
  EqR K H n x y (eqD (xs.getD j (.i 0)) (ys.getD j (.i 0)))
 |[],_,_,_,_,_,_,h,_,_,_,_,e,_=>by rw[bP h] at e;simp at e
 |_::_,[],_,_,_,_,_,_,k,_,_,_,_,e=>by rw[bP k] at e;simp at e
 |x::xs,y::ys,_,_,n,hn,hk,h,k,0,u,w,e1,e2=>by
  obtain⟨u',us,rfl,q,_⟩:=aU h;obtain⟨w',ws,rfl,q',_⟩:=aU k;simp at e1 e2;subst e1 e2;have IQ:Kin x y/\cQ xs ys:=by unfold cQ at hk;exact hk
  have hd:dep x<=n:=by unfold cR at hn;lia
  exact Is.eqr (d:=x) (e:=y) hd IQ.1 q q'
 |x::xs,y::ys,_,_,n,hn,hk,h,k,j+1,u,w,e1,e2=>by
  obtain⟨u',us,rfl,_,r⟩:=aU h;obtain⟨w',ws,rfl,_,r'⟩:=aU k;have IQ:Kin x y/\cQ xs ys:=by unfold cQ at hk;exact hk
  have hd:cR xs<=n:=by unfold cR at hn;lia
  have:=Iss.eqr (K:=K) hd IQ.2 r r' (j:=j) (by simpa using e1) (by simpa using e2);simpa using this
end
abbrev Pt:=Int×Int
def pt(p:Pt):D:= .t [.i p.1,.i p.2]
def hid(H:Hp)(a:KP):Hp:=λb=>if b=a then none else H b
theorem lG{H:Hp}{a b:KP}(h:b≠a):hid H a b=H b:=by unfold hid;rw[A6 h]
theorem wL{H:Hp}{a:KP}:hid H a a=none:=by unfold hid;rw[A9 rfl]
theorem wM{H:Hp}{a:KP}:af (hid H a) H:=λb o e=>by
 unfold hid at e;split at e
 .cases e
 .exact e
theorem gd{H H':Hp}{a:KP}(s:af H H'):af (hid H a) (hid H' a):=λb o e=>by
 unfold hid at e⊢;split at e
 .cases e
 .rename_i h;rw[A6 h];exact s b o e
section
variable{X:Cx}{es:KW KY}{t:TA}{pos:Pos}
def New(H:Hp)(o:HO)(Q:VK):Prop:=∀p H2,H p=none->af H H2->H2 p=some o->Q (.ref p) H2
def New.at{H:Hp}{o:HO}{Q:VK}(q:New H o Q){p:KP}(np:H p=none):Q (.ref p) (upd H p o):=q p _ np (af.new np) am
def wN(t:TA):TE:=λσ H Q=>t σ H λxs H1=>xs.length<=sizeLine/\New H1 (.tup xs) Q
def wO(t:TA):TE:=λσ H Q=>t σ H λxs H1=>xs.length<=sizeLine/\New H1 (.lst xs) Q
theorem c8{x1}(h:PA X es t):PE X (.Tuple es x1 pos) (wN t):=by
 intro Gn s σ H Q I hq;refine wpAny_Tuple_spliced (thn (h pos Gn s σ H _ I hq) λus s1 ⟨xs,H1,I1,r,z,q⟩=>⟨by rw[<-r.length];exact z,?_⟩);refine⟨.ref s1.heap.objs.size,upd H1 s1.heap.objs.size (.tup xs),I1.laid (t':=s1.toks) (λb u e=>A4 _ e) (A8 _) ?_,rfl,q.at (I1.hok.fresh (A8 _))⟩;exact⟨z,us,r,⟨_,AC _ rfl,rfl,_,rfl⟩⟩
theorem bX(h:PA X es t):PE X (.List es pos) (wO t):=by
 intro Gn s σ H Q I hq;refine wpAny_List_spliced (thn (h pos Gn s σ H _ I hq) λus s1 ⟨xs,H1,I1,r,z,q⟩=>⟨by rw[<-r.length];exact z,?_⟩);refine⟨.ref s1.heap.objs.size,upd H1 s1.heap.objs.size (.lst xs),I1.laid (t':=s1.toks) (λb u e=>A4 _ e) (A8 _) ?_,rfl,q.at (I1.hok.fresh (A8 _))⟩;exact⟨z,us,0,r,AC _ rfl⟩
def OpR.imp{f:KN->KN->Sem KN}{r r':R2}(h:OpR X f r)(k:∀x y H Q,r' x y H Q->r x y H Q):OpR X f r':=λGn s σ H x y v u Q I rx ry q=>h Gn s σ H x y v u Q I rx ry (k _ _ _ _ q)
def bB.imp{f:KN}{r r':KW V->Hp->VK->Prop}(h:bB X f r)(k:∀xs H Q,r' xs H Q->r xs H Q):bB X f r':=λGn s σ H xs us Q I rs q=>h Gn s σ H xs us Q I rs (k _ _ _ q)
theorem lH:OpR X (binaryOp .Add) (λx y H Q=>∃xs zs,Is H (.l xs) x/\Is H (.l zs) y/\xs.length+zs.length<=sizeLine/\∀p H2,H p=none->af H H2->Is H2 (.l (xs++zs)) (.ref p)->Q (.ref p) H2):=
 oS.imp λx y H Q Hv=>by
  obtain⟨xs,zs,hx,hz,hl,q⟩:=Hv;obtain⟨a,vs,rfl,ha,ra⟩:=aP hx;obtain⟨b,ws,rfl,hb,rb⟩:=aP hz;exact⟨a,b,vs,ws,rfl,rfl,ha,hb,by rw[ra.length,rb.length];exact hl,λp np=>q p _ np (af.new np) (ba am ((ra.append rb).mono (af.new np)))⟩
theorem pw{α:Type}{x:α}:∀n:Nat,(List.replicate n [x]).flatten=List.replicate n x
 |0=>rfl
 |n+1=>by rw[BK,Ck,pw n,BK];rfl
theorem lI:OpR X (binaryOp .Mult) (λx y H Q=>∃d n,Is H (.l [d]) x/\y=.int n/\-(2^63)<=n/\n<2^63/\n.toNat<=sizeLine/\∀p H2,H p=none->af H H2->Is H2 (.l (List.replicate n.toNat d)) (.ref p)->Q (.ref p) H2):=
 vV.imp λx y H Q Hv=>by
  obtain⟨d,n,hx,ey,h1,h2,hl,q⟩:=Hv;obtain⟨a,vs,rfl,ha,ra⟩:=aP hx;obtain⟨u,us,rfl,hu,ru⟩:=aU ra;rw[bP ru] at ha;refine⟨a,n,_,rfl,ey,ha,h1,h2,by rw[Cs,Nat.one_mul];exact hl,λp np=>q p _ np (af.new np) ?_⟩;rw[pw];exact ba am ((Iss.rep hu _).mono (af.new np))
theorem wP:bB X (.type "tuple") (λvs H Q=>∃v xs,vs=[v]/\Is H (.l xs) v/\∀p H2,H p=none->af H H2->Is H2 (.t xs) (.ref p)->Q (.ref p) H2):=
 vR.imp λvs H Q Hv=>by
  obtain⟨v,xs,ev,hx,q⟩:=Hv;subst ev;obtain⟨a,ws,rfl,ha,ra⟩:=aP hx;exact⟨a,ws,rfl,.inl ⟨SqL.of ha,λp np=>q p _ np (af.new np) (dB am (ra.mono (af.new np)))⟩⟩
theorem aW{α:Type}{xs:KW α}{i:Int}{j:Nat}{x:α}(e:i=j)(h:xs[j]? =some x):atI xs i=some x:=by rw[e];exact oM h
theorem Iss.atI{H:Hp}{xs:KW D}{vs:KW V}{i:Int}{x:D}(h:Iss H xs vs)(e:L2.atI xs i=some x):∃u,L2.atI vs i=some u/\Is H x u:=by
 unfold L2.atI at e⊢;rw[h.length];cases q:ixN xs.length i with
 |none=>rw[q] at e;cases e
 |some j=>
  rw[q] at e;obtain⟨u,e1,k⟩:=h.get (j:=j) e;exact⟨u,e1,k⟩
theorem cw:IxR X (λx y H Q=>∃xs i d,Is H (.t xs) x/\y=.int i/\atI xs i=some d/\∀u,Is H d u->Q u H):=by
 intro value slice Gn s σ H x y v u Q I rx ry h hs;obtain⟨xs,i,d,hx,ey,e,q⟩:=h;obtain⟨a,vs,rfl,ha,ra⟩:=dk hx;obtain⟨z,ez,hz⟩:=ra.atI e;exact iJ value slice Gn s σ H (.ref a) y v u Q I rx ry ⟨a,vs,i,z,rfl,ey,SqT.of ha,ez,q z hz⟩ hs
end
section
variable{P:KQ}{w:KS}{H:Hp}{h:KZ}{a:KP}{o:HO}
theorem aC.obj(x:aC P w H h a o):∃ob,h.get? a=some ob:=by
 cases o with
 |lst xs=>obtain⟨_,_,_,_,e⟩:=x;exact⟨_,e⟩
 |tup xs=>obtain⟨_,_,_,_,e,_⟩:=x;exact⟨_,e⟩
 |dK Gp=>obtain⟨_,_,_,_,_,_,_,e,_⟩:=x;exact⟨_,e⟩
 |dT Gp=>obtain⟨_,_,_,_,_,_,_,e,_⟩:=x;exact⟨_,e⟩
 |set S n=>obtain⟨_,_,_,_,e,_⟩:=x;exact⟨_,e⟩
 |ins C dx fs=>obtain⟨_,_,_,e,_⟩:=x;exact⟨_,e⟩
 |own y=>exact x
 |xd fs=>obtain⟨_,⟨_,_,_,e,_⟩,_⟩:=x;exact⟨_,e⟩
 |rng lo hi=>obtain⟨_,_,_,e⟩:=x;exact⟨_,e⟩
 |frz ob u=>exact⟨_,x.1⟩
 |tbl ps=>exact⟨_,x⟩
 |met f y=>exact⟨_,x⟩
 |ext φ=>exact x.2.1
end
def CX1(P:KQ)(w:KS):CXT:=λouter H s E e s'=>
 ∃(a C:KP) (H':Hp) (B:KZ) (a0:KN),e=.ref a/\E (.ref C) none H'/\s'.os=s.os/\AllBare s'.gens/\Un (frs outer) [] H H' s.heap s'.heap/\HOk P w H' B/\H' a=none/\
  Heap.FlyingW B outer a (.ref C) a0 s'.heap/\(∀b o,s.heap.get? b=some o->H b=none->b∉frs outer->B.get? b=some o)/\(∀b o,s.heap.get? b=some o->b∉frs outer->∃o',B.get? b=some o')
def iX(X:Cx)(E:XK):Prop:=∀(Gn:KW (KP×Obj)) (σ:St) (H:Hp) (s:KO) (h':KZ) (e C:KP) (args:KW KN),Inv X Gn σ H s->Heap.MadeExcOf s.heap h' e (.ref C) args->E (.ref C) none H->X.xe (.ref e) {s with heap:=h'}
theorem iY{X:Cx}{P:KQ}{w:KS}:cr (CX1 P w) X E0:=λ_ _ _ _ _ _ _ GB=>by obtain⟨_,_,_,_,_,_,z,_⟩:=GB;exact z.elim
section
variable{X:Cx}{Gn:KW (KP×Obj)}{σ:St}{H H':Hp}{s s':KO}{B h':KZ}{l:KW Env}
theorem iZ(u:Un (frs l) [] H H' s.heap s'.heap)(fl:s'.heap.FunFrames B l)(kB:∀b o,s.heap.get? b=some o->H b=none->b∉frs l->B.get? b=some o)(tB:∀b o,s.heap.get? b=some o->b∉frs l->∃o',B.get? b=some o')
  (st:B.StaysIn h') (up:s'.heap.UpToSlots h'):Un (frs l) [] H H' s.heap h' where
 keep:=λb o e n hb _=>st b o (kB b o e n hb)
 slot:=λb o e n hb hx=>by
  obtain⟨sl,e1⟩:=u.slot b o e n hb hx;obtain⟨_,o',e2,d⟩:=fl.mem hb;rw[e1] at e2;cases e2;obtain⟨sl',e3⟩:=up b _ e1 d;exact⟨sl',e3⟩
 free:=u.free
 there:=λb o e hx=>by
  by_cases hb:b∈frs l
  .obtain⟨_,o',e2,d⟩:=fl.mem hb;obtain⟨sl',e3⟩:=up b _ e2 d;exact⟨_,e3⟩
  .obtain⟨o',e2⟩:=tB b o e hb;exact⟨o',st b o' e2⟩
 tups:=u.tups
 frzs:=u.frzs
 tbls:=u.tbls
theorem Inv.nstk(I:Inv X Gn σ H s){b:KP}{o:Obj}(e:X.s₀.heap.get? b=some o)(hb:b∉X.fs):b∉frs X.stack:=λz=>by
 rcases AH.mp (I.stkSub b z) with q|q
 .exact absurd q (AE (AS (AD e) I.ok.above))
 .exact hb q
def i6{env:Env}{b:KP}(he:env∈l)(hf:env.frame=some b):b∈frs l:=Ca.mpr ⟨env,he,hf⟩
theorem Inv.hidden(I:Inv X Gn σ H s):HOk X.prog X.w H (W.hideAll s.heap (frs X.stack)):=λa o e=>by
 refine(I.hok a o e).stay (λb u hb q=>D2 _ q λz=>?_) (λ_ q=>q) λ_ _ q=>q;have n:=I.stkFree b z;rcases hb with rfl|hb
 .rw[n] at e;cases e
 .rw[n] at hb;cases hb
structure Fnc(X:Cx):Prop where
 ex:X.ex=[]
 stk:X.stack=X.env::X.outer
 fr:X.env.frame=some X.env.locals
theorem CX1.mk{E:XK}{e C:KP}{a0:KN}(F:Fnc X)(I:Inv X Gn σ H s)(os:s'.os=s.os)(bare:AllBare s'.gens)(u:Un (frs X.stack) [] H H' s.heap s'.heap)(hB:HOk X.prog X.w H' B)(hE:E (.ref C) none H')(hn:H' e=none)
  (fl:Heap.FlyingW B X.outer e (.ref C) a0 s'.heap) (kB:∀b o,s.heap.get? b=some o->H b=none->b∉frs X.stack->B.get? b=some o) (tB:∀b o,s.heap.get? b=some o->b∉frs X.stack->∃o',B.get? b=some o'):
  CX1 X.prog X.w X.outer X.H₀ X.s₀ E (.ref e) s':=by
 have J:Inv X Gn σ H' s':=I.call' (ch:=[]) os u (hB.kept fl.1) bare λ_ z=>absurd z (by simp);have ub:Un X.fs X.ex X.H₀ H' X.s₀.heap s'.heap:=J.base;have nx:∀b:KP,b∉X.ex:=λb=>by rw[F.ex];simp
 rw[F.ex] at ub;refine⟨e,C,H',B,a0,rfl,hE,J.os,J.bare,ub,hB,hn,fl,λb o q n hb=>?_,λb o q hb=>?_⟩
 .exact kB b o (I.base.keep b o q n hb (nx b)) (I.base.free b o q n (nx b)) (I.nstk q hb)
 .obtain⟨o',q'⟩:=I.base.there b o q (nx b);exact tB b o' q' (I.nstk q hb)
theorem px{CX:CXT}{E:XK}(F:Fnc X)(hcx:CX=CX1 X.prog X.w)(hxe:X.xe=λe s'=>wpAny (model X.prog X.w) X.A (leaving X.env e) (λ_ HJ=>CX X.outer X.H₀ X.s₀ E e HJ) (λe' HJ=>CX X.outer X.H₀ X.s₀ E e' HJ) s'):iX X E:=by
 intro Gn σ H s h' e C args I hx hE;subst hcx;rw[hxe];have fb:=I.stack;have hl:s.heap.FunFrames (W.hideAll s.heap (frs X.stack)) (X.env::X.outer):=by
  rw[F.stk] at fb⊢;exact W.funFrames_hide fb λenv he b hb=>i6 he hb
 refine wpAny_leaves_madeW (base:=W.hideAll s.heap (frs X.stack)) (by rw[I.ok.frames,F.stk]) F.fr (λb o q=>D8 _ q) hl hx λJu t fl _ _ up=>?_;have kB:∀b o,s.heap.get? b=some o->b∉frs X.stack->(W.hideAll s.heap (frs X.stack)).get? b=some o:=λb o q n=>D2 _ q n;have hn:H e=none:=by
  cases q:H e with
  |none=>rfl
  |some o=>
   obtain⟨ob,z⟩:=(I.hok e o q).obj;rw[hx.new] at z;cases z
 have u0:Un (frs X.stack) [] H H s.heap h':=Un.kept hx.keeps;have fl':h'.FunFrames (W.hideAll s.heap (frs X.stack)) X.stack:=by
  rw[F.stk];rw[F.stk] at hl;exact hl.of_keeps λb o q _=>⟨o,hx.keeps b o q,rfl⟩
 have u:Un (frs X.stack) [] H H s.heap Ju:=iZ (s':={s with heap:=h'}) u0 fl' (λb o q _ n=>kB b o q n) (λb o q n=>⟨o,kB b o q n⟩) fl.1 up;exact CX1.mk (s':={s with heap:=Ju}) F I rfl I.bare u I.hidden hE hn fl (λb o q _ n=>kB b o q n) (λb o q n=>⟨o,kB b o q n⟩)
theorem pz{CX:CXT}{E:XK}(F:Fnc X)(hcx:CX=CX1 X.prog X.w)(hxe:X.xe=λe s'=>wpAny (model X.prog X.w) X.A (leaving X.env e) (λ_ HJ=>CX X.outer X.H₀ X.s₀ E e HJ) (λe' HJ=>CX X.outer X.H₀ X.s₀ E e' HJ) s'):cr (CX1 X.prog X.w) X E:=by
 intro Gn σ H s e s' I hc;subst hcx;rw[hxe];obtain⟨a,C,H',B,a0,rfl,hE,os,bare,u,hB,hn,fl,kB,tB⟩:=hc;refine wpAny_leaves_onW (by rw[I.ok.frames,F.stk]) F.fr (by rw[<-F.stk];exact fl) λJu fl'' up=>?_;exact CX1.mk (s':={s' with heap:=Ju}) F I os bare (iZ u fl.2.2.1 kB tB fl''.1 up) hB hE hn fl'' kB tB
end
theorem Fun.okx{P:KQ}{w:KS}{K:W.Frag}{mg:Str->K0 KN}{base:KZ}{x Gs:Str}{st:K1}{f:KP}{fd:KR}{N ps:KW Str}{k:Nat}{sp:Sp}(F:Fun K x Gs st f fd)(S:FnScope N ps (ak st))(len:∀vs H Q E,sp vs H Q E->vs.length=ps.length)
  (GI:∀(Gu:KN) (A:KU) (outer:KW Env) (s:KO) (H:Hp) (vs:KW V) (Q:VK) (E:XK),Room k (A.deeper (envOfC Gs (ak st) s.heap.objs.size f Gu))->sp vs H Q E->
   iX (bC (CX1 P w) P w K mg base N Gs (ak st) f Gu A outer s H E) E->cr (CX1 P w) (bC (CX1 P w) P w K mg base N Gs (ak st) f Gu A outer s H E) E->
   ∃t,PSs (bC (CX1 P w) P w K mg base N Gs (ak st) f Gu A outer s H E) (av st) t/\t {nx:=λ_ H'=>Q .non H',rt:=Q} (start N vs) H):FnOk P w K mg base (CX1 P w) (k+1) f fd ps sp:=by
 obtain⟨oc,od,kV,Hl,pm,an,Gu,ct,IL,rfl,lk,G6⟩:=F.ex;refine lp lk G6 S len λA outer s H vs Q E hr HK=>?_;have Fn:Fnc (bC (CX1 P w) P w K mg base N Gs (ak st) f Gu A outer s H E):=⟨rfl,rfl,rfl⟩;exact GI Gu A outer s H vs Q E hr HK (px Fn rfl rfl) (pz Fn rfl rfl)
def Fun.oky{P:KQ}{w:KS}{K:W.Frag}{mg:Str->K0 KN}{base:KZ}{x Gs:Str}{st:K1}{f:KP}{fd:KR}{N ps:KW Str}{k:Nat}{sp:Sp}(F:Fun K x Gs st f fd)(S:FnScope N ps (ak st))(len:∀vs H Q E,sp vs H Q E->vs.length=ps.length)
  (GI:∀(Gu:KN) (A:KU) (outer:KW Env) (s:KO) (H:Hp) (vs:KW V) (Q:VK) (E:XK),Room k (A.deeper (envOfC Gs (ak st) s.heap.objs.size f Gu))->sp vs H Q E->
   Fnc (bC CX0 P w K mg base N Gs (ak st) f Gu A outer s H E).nox->
   ∃t,PSs (bC CX0 P w K mg base N Gs (ak st) f Gu A outer s H E).nox (av st) t/\t {nx:=λ_ H'=>Q .non H',rt:=Q} (start N vs) H):FnOk P w K mg base CX0 (k+1) f fd ps sp:=
 F.ok S len λGu A outer s H vs Q E hr HK=>GI Gu A outer s H vs Q E hr HK ⟨rfl,rfl,rfl⟩
section
variable{X:Cx}{pos np Gy:Pos}{x:Str}{C:KP}{E:XK}{e:KY}{es:KW KY}{t:TA}
abbrev bmV:KW KN:=[.type "ValueError",.type "Exception",.type "BaseException",.type "object"]
theorem wQ{K:W.Frag}{h:KZ}{bmB:KW KN}{JQ:String}(Y:K.In h)(q:W.excIn K C bmB JQ=true):
  ∃bm N nm qn bs hdct sn sub ab col dd k0 k1 k2 k3 k5 mN,h.get? C=some (excClassObj nm qn C N bs bm hdct sn sub ab col dd k0 k1 k2 k3 k5 JQ)/\h.Ns N mN/\mN "__init__"=none/\OwnTail h bmB bm:=by
 unfold W.excIn at q;split at q
 case h_2=>cases q
 rename_i dd cd sl ho;split at q
 case h_2=>cases q
 rename_i C' bm k0 k1 k2 k3 n k5 hm hs;rw[AB,AB,AB,AB,AB,BM,BM,BM,CC] at q;obtain⟨⟨⟨⟨⟨e1,e2⟩,e3⟩,e4⟩,e5⟩,e6⟩:=q;subst e1 e2;rcases cd with⟨nm,bs,mro,ns,qn,hd,sn,sub,ab,col,del⟩;dsimp only at hm e3 e5 e6;subst hm e3;have hsl:sl= #[k0,k1,k2,k3,some (.builtin n),k5]:=by
  rcases sl with⟨l⟩;have Jv:l=_:=hs;rw[Jv]
 subst hsl;exact⟨bm,ns,nm,qn,bs,hd,sn,sub,ab,col,dd,k0,k1,k2,k3,k5,_,Y _ _ ho,.of_isNs (W.isNs_of_in Y e5),W.nsMap_none_of_in Y e5 e6,W.tail_of_in Y e4⟩
def pA(C:KP)(E:XK)(t:TA):TS:=λ_ σ H=>t σ H λvs H1=>vs.length<=sizeLine/\E (.ref C) none H1
theorem c9(hR:iX X E)(hg:Gl X x)(hm:X.mg x=some (.ref C))(hC:W.excIn X.K C bmV "ValueError.__new__"=true)(hc:X.calm=true)(ha:PA X (e::es) t)(Ie:(x==("__debug__":Str))=false:=by decide)
  (he:starEach (e::es) X.env=(false,eval e X.env)::starEach es X.env:=by rfl) (G5:(backTo Gy (starEach es X.env)).any (·.1)=false:=by rfl):
  PS X (.Raise (some (.Call (.Name x np) (e::es) [] Gy)) none pos) (pA C E t):=by
 intro Gn s σ H D I h;have IF:=I.ok.mod.kin;obtain⟨bm',N',nm',qn',bs',hdct',sn',sub',ab',col',JO,k0',k1',k2',k3',k5',mN',hCb,hNb,hnib,TLb⟩:=wQ IF hC;refine wpAny_Raise_call_subT (q:=qn') (N:=N') (bs:=bs') (bm:=bm') (hdct:=hdct') (sn:=sn') (sub:=sub') (ab:=ab') (col:=col') (dd:=JO) (k0:=k0') (k1:=k1') (k2:=k2') (k3:=k3') (k5:=k5') (nm:=nm') (mN:=mN') PySem.F.excBase_ValueError
  (TLb.hasType (by ac_nf)) (I.ok.hd hc) (by rw[he];show(false||(backTo Gy (starEach es X.env)).any (·.1))=false;rw[G5];rfl) hnib (fV I hg hm ⟨rfl,?_⟩ Ie)
 have h2:=ha Gy Gn s σ H _ I h;rw[he] at h2⊢;refine D' (thn h2 λus s1 ⟨vs,H1,I1,r,hz,hE⟩=>⟨rfl,by rw[<-r.length];exact hz,I1.bk _ _ hCb,hNb.keeps I1.bk,TLb.keeps I1.bk,λh' e' hx=>?_⟩);exact hR Gn σ H1 s1 h' e' C us I1 hx hE
end
def PS.quiet{X:Cx}{st:K1}{t:TS}(h:PS X.nox st t):PS X st t:=λGn s σ H D I hw=>BD (h Gn s σ H D (I.wish _) hw) (λ_ _ q=>q.unwish) λ_ _ z=>False.elim z
section
variable{X:Cx}{pos:Pos}{e v:KY}{es:KW KY}{te:TE}
abbrev TJ:=Str->St->Hp->VK->Prop
def PJ(X:Cx)(es:KW KY)(t:TJ):Prop:=∀(Gw:Str) (Gn:KW (KP×Obj)) (s:KO) (σ:St) (H:Hp) (Q:VK),Inv X Gn σ H s->t Gw σ H Q->wpAny (model X.prog X.w) X.A (joinParts Gw (evalEach es X.env)) (EP X Gn σ Q) X.xe s
def tJn:TJ:=λGw _ H Q=>Gw.length<=sizeLine/\Q (.str Gw) H
inductive tJc_(tr:TJ)(Gw:Str)(σ:St)(Q:VK)(x:V)(H1:Hp):Prop
 |mk y:x=.str y->(Gw++y).length<=sizeLine->tr (Gw++y) σ H1 Q->tJc_ tr Gw σ Q x H1
def tJc(te:TE)(tr:TJ):TJ:=λGw σ H Q=>te σ H λx H1=>tJc_ tr Gw σ Q x H1
def i7:PJ X [] tJn:=λGw Gn s σ H Q I h=>joinParts_nil ⟨.str Gw,H,I.tok _,⟨_,rfl⟩,h.2⟩ h.1
theorem cH{tr:TJ}(he:PE X e te)(hr:PJ X es tr):PJ X (e::es) (tJc te tr):=by
 intro Gw Gn s σ H Q I h;show wpAny _ _ (joinParts Gw (eval e X.env::evalEach es X.env)) _ _ _;refine joinParts_cons (thn (he Gn s σ H _ I h) λu s1 zu61=>?_);obtain⟨x,H1,I1,r1,y,ex,hz,q1⟩:=zu61;subst ex;obtain⟨tk,rfl⟩:=r1;exact⟨hz,hr (Gw++y) Gn s1 σ H1 Q I1 q1⟩
def i8{v2:KY}{t:TJ}(h:PJ X (e::v2::es) t):PE X (.JoinedStr (e::v2::es) pos) (λσ H Q=>t Str.empty σ H Q):=λGn s σ H Q I hq=>JoinedStr_many (h Str.empty Gn s σ H Q I hq)
theorem eJ(hv:PE X v te):PE X (.FormattedValue v (-1) none pos) (λσ H Q=>te σ H λx H1=>∃i,x=.int i/\i.natAbs.log2<1920/\Q (.str (toString i)) H1):=by
 intro Gn s σ H Q I h;refine FormattedValue_plain (thn (hv Gn s σ H _ I h) λu s1 zu62=>?_);obtain⟨x,H1,I1,r1,i,ex,hz,q1⟩:=zu62;subst ex;obtain⟨tk,rfl⟩:=r1;exact formatField_int_small hz ⟨.str _,H1,I1.tok _,⟨_,rfl⟩,q1⟩
end
end L2
namespace L2
open PySem PySem.Calls PyProof.Rows PySem.W Builtin Builtin.ObjectAttr Builtin.Getset_descriptor
variable{M:Model}
structure XC(K:Frag)(C:KP):Prop where
 cl:(clsIn K C).isSome=true
 ga:findIn K (.ref C) "__getattribute__"=some (some (.builtin "BaseException.__getattribute__"))
 gt:findIn K (.ref C) "__getattr__"=some none
 ca:findIn K (.ref C) "__class__"=some (some (.builtin "object.__class__"))
 gn:specialIn K (.builtin "object.__class__") "__get__"=some (some (.builtin "getset_descriptor.__get__"))
 tk:takesIn K (.builtin "object.__class__")=some true
 ob:mroIn K C (.type "object")=some true
 be:mroIn K C (.type "BaseException")=some true
section
variable{prog:KQ}{w:KS}{A:KU}{E:KN->KO->Prop}{K:Frag}{x C:KP}{h:KZ}{g:Array GenState}{d:Drawn}{t:Nat}{os:OsState}
def lJ{o:Obj}(e:h.get? x=some o)(c:o.cls=.ref C):Looks M h (typeOf (.ref x)) (.ref C):=c▸(Looks.ld e).andThen .now
theorem wR{R:Result->KO->Prop}{tp:KN}(Y:K.In h)(F:XC K C)(LT:∀M:Model,Looks M h (typeOf (.ref x)) (.ref C))(q:R (.ok (.ret (.ref C))) ⟨h,g,d,t,os⟩):
  codeAny (model prog w) A (.call (.builtin "getset_descriptor.__get__") ⟨[.builtin "object.__class__",.ref x,tp],[]⟩) R ⟨h,g,d,t,os⟩:=by
 have L0:=LT (model prog w);have L1:=looks_mroIn (M:=model prog w) Y F.ob;refine codeAny_call_builtin KF.slot_gs.plain KF.entry_gs (KF.slot_gs.check _ _ _ _ _ _ _ _ KF.type_class (KF.args_gs _ _ _) ?_);unfold Builtin.«getset_descriptor.__get__» descrGet;rw[dga_obj];refine A0 (A2 ?_);unfold descrGetter descrCheckInstance descrNameAndClass isInstance;simp only[KF.owner_class]
 repeat lk
 refine⟨Code.quiet_builtin _ (by ac_nf),Bk KF.entry_class ?_⟩;unfold Builtin.«object.__class__» shownTypeOf
 repeat lk
 exact q
theorem wS(Y:K.In h)(F:XC K C):Looks M h (find (.ref x) (.ref C) "__class__") (.bind (.builtin "getset_descriptor.__get__") (.builtin "object.__class__")):=by
 have L1:=looks_findIn (M:=M) Y F.ca;have L2:Looks M h (getOf (some (.builtin "object.__class__"))) (some (.builtin "getset_descriptor.__get__")):=looks_specialIn Y F.gn;have L3:=looks_takesIn (M:=M) Y F.tk;exact L1.andThen (L2.andThen ((show Looks M h (dataDescriptor? (some (.builtin "object.__class__")) (some (.builtin "getset_descriptor.__get__"))) (some (.builtin "getset_descriptor.__get__",.builtin "object.__class__")) from L3.andThen .now).andThen (Looks.tag .now)))
theorem wT{tk:Tok}{Q:Fin->KO->Prop}(Y:K.In h)(F:XC K C)(LT:∀M:Model,Looks M h (typeOf (.ref x)) (.ref C))(q:Q (.done (.ret (.ref C))) ⟨h,g,d,t,os⟩):
  wpAny (model prog w) A (Builtin.«object.__getattribute__» ⟨[.ref x,.str "__class__" tk],[]⟩) Q E ⟨h,g,d,t,os⟩:=by
 have L0:=LT (model prog w);have L1:=wS (x:=x) (M:=model prog w) Y F;refine A0 (A2 (A0 (A2 (A0 (L0.at (A0 (L1.at ?_)))))));show wpAny _ _ (holding [.builtin "object.__class__"] (call (.builtin "getset_descriptor.__get__") [.builtin "object.__class__",.ref x,.ref C])>>=ret) _ _ _;exact A0 (Ap (wpAny_call (wR Y F LT (A2 q))))
theorem wU{JR:KN}{Q:Unit->KO->Prop}(Y:K.In h)(F:XC K C)(LT:∀M:Model,Looks M h (typeOf (.ref x)) (.ref C))(q:Q () ⟨h,g,d,t,os⟩):
  wpAny M A (checkBuiltinCall "BaseException.__getattribute__" ⟨[.ref x,JR],[]⟩) Q E ⟨h,g,d,t,os⟩:=by
 have e1:builtinKind "BaseException.__getattribute__"=some .slot:=by ac_nf
 have e2:splitId "BaseException.__getattribute__"=some ("BaseException","__getattribute__"):=by ac_nf
 have ha:=PySem.F.args_bexc_ga (.ref x) JR;have L0:=LT M;have L1:=looks_mroIn (M:=M) Y F.be;simp only[checkBuiltinCall,e1,e2];refine A0 ?_;unfold isInstance
 repeat (first|lk|wp_step)
 exact q
theorem wV{Q:K0 KN->KO->Prop}(Y:K.In h)(F:XC K C)(LT:∀M:Model,Looks M h (typeOf (.ref x)) (.ref C))(q:Q (some (.ref C)) ⟨h,g,d,t+1,os⟩):wpAny (model prog w) A (getAttr? (.ref x) "__class__") Q E ⟨h,g,d,t,os⟩:=by
 have L0:=LT (model prog w);have L1:=looks_findIn (M:=model prog w) Y F.ga;have L2:=looks_findIn (M:=model prog w) Y F.gt;have e2:(Value.builtin "BaseException.__getattribute__"==Value.builtin "object.__getattribute__")=false:=by ac_nf
 have e1:(onTheHeap (Value.ref C)&&Value.builtin "BaseException.__getattribute__"==Value.builtin "object.__getattribute__")=false:=by rw[e2];rfl
 have f3:=PySem.F.excAttr_ValueError.ga.bind (.ref x);unfold getAttr? getAttrBy? getAttrBy;refine A0 (wpAny_mkText (A0 (C1 (Ap (A0 (L0.at (A0 (L1.at ?_))))))));dsimp only;rw[e1];simp only[AI,At]
 repeat (any_goals (first|assumption|with_reducible refine L2.at ?_|wp_step))
 refine codeAny_call_builtin PySem.F.excAttr_ValueError.ga.plain PySem.F.entry_bexc_ga (wU Y F LT (wT Y F LT ?_))
 repeat (any_goals (first|assumption|lk|wp_step))
theorem wW(F:XC K C):KitX K (.ref x) (.ref C) (λh=>∃o,h.get? x=some o/\o.cls=.ref C) where
 ty:=λ_ _ _ GB=>by obtain⟨_,e,c⟩:=GB;exact lJ e c
 it:=λ_ _ Y _=>by
  have z:=F.cl;unfold clsIn at z;split at z
  .rename_i ho;intro A' Q' E' s' k q;unfold isType loadHead;exact A0 (wpAny_loadPart (k _ _ (Y _ _ ho)) (A2 q))
  .cases z
 ne:=λh tp dd Gq n sl Y htp=>by
  have z:=F.cl;unfold clsIn at z;split at z
  .rename_i ho;refine Bool.eq_false_iff.mpr λq=>?_;have e:C=tp:=Value.ref.inj (BM.mp q);subst e;have y:=(Y _ _ ho).symm.trans htp;cases y
  .cases z
 ca:=fun{_ _ _ _ _ s} Y Hv k=>by
  obtain⟨_,e,c⟩:=Hv;obtain⟨hh,g,d,t,os⟩:=s;exact wV Y F (λM=>lJ e c) k
end
def dm(C a:KP):HO:= .ext λh=>∃o,h.get? a=some o/\o.cls=.ref C
theorem wX{P:KQ}{w:KS}{H:Hp}{h:KZ}{a C:KP}(e:∃o,h.get? a=some o/\o.cls=.ref C):aC P w H h a (dm C a):=
 ⟨e,e.elim λo q=>⟨o,q.1⟩,λ_ _ GB k=>by obtain⟨o,q,c⟩:=GB;exact⟨o,k o q,c⟩⟩
def lK:V->K0 KN
 |.ty n=>some (.type n)
 |.ref c=>some (.ref c)
 |_=>none
theorem wY{v:V}{c u:KN}(e:lK v=some c)(r:ar v u):u=c:=by
 cases v<;>first|(cases e;exact r)|cases e
section
variable{X:Cx}
theorem wZ:bB X (.builtin "isinstance") (λxs H Q=>∃a C v c b,xs=[.ref a,v]/\H a=some (dm C a)/\XC X.K C/\lK v=some c/\kitOne X.K (.ref C) c=some b/\Q (.bl b) H):=by
 intro Gn s σ H xs us Q I r h;obtain⟨a,C,v,c,b,rfl,ha,F,ev,e,q⟩:=h;obtain⟨u,w',rfl,ru,HN⟩:=gS r;obtain rfl:u=Value.ref a:=ru;obtain rfl:=wY ev HN;exact kia_one (wW F) I.kIn (I.hok a _ ha).1 e (λz=>nomatch z) λtk=>⟨.bl b,H,I.tok tk,rfl,q⟩
def ge{K:Frag}(hK:X.K=K):bB X (.builtin "isinstance") (λxs H Q=>∃a C v c b,xs=[.ref a,v]/\H a=some (dm C a)/\XC K C/\lK v=some c/\kitOne K (.ref C) c=some b/\Q (.bl b) H):=hK▸wZ
end
end L2
namespace L2
open PySem PySem.Spec PyProof.Rows PySem.W
variable{K:W.Frag}
abbrev Cx.inTry(X:Cx)(pn:KW (KP×Obj))(z:KN->KO->Prop):Cx:={X with pn:=pn,xe:=z}
abbrev Cx.inSuite(X:Cx)(e:KP):Cx:={X with A:=X.A.mark (some (.ref e)),calm:=false,xe:=λ_ _=>False}
section
variable{X:Cx}{Gn pn:KW (KP×Obj)}{σ:St}{H H':Hp}{s s':KO}{z:KN->KO->Prop}{e:KP}
theorem Inv.toTry(I:Inv X Gn σ H s):Inv (X.inTry (X.pn++Gn) z) [] σ H s:=
 ⟨⟨I.ok.mod,I.ok.kind,I.ok.glob,I.ok.blt,I.ok.above,I.ok.inj,I.ok.has,I.ok.cab,I.ok.hd,I.ok.frames,I.ok.stk,I.ok.exf,I.ok.bs,I.ok.bsz,I.ok.noex,I.ok.exfs,I.ok.funs,I.ok.frf⟩,
  I.os,I.bare,I.base,I.loc,I.cell,I.free,I.freeC,λp hp=>I.pin p (by rw[BW] at hp;exact hp),I.hok,I.len⟩
def Inv.unTry{HI:KW (KP×Obj)}(I:Inv (X.inTry (X.pn++Gn) z) HI σ H s):Inv X Gn σ H s:=
 ⟨⟨I.ok.mod,I.ok.kind,I.ok.glob,I.ok.blt,I.ok.above,I.ok.inj,I.ok.has,I.ok.cab,I.ok.hd,I.ok.frames,I.ok.stk,I.ok.exf,I.ok.bs,I.ok.bsz,I.ok.noex,I.ok.exfs,I.ok.funs,I.ok.frf⟩,
  I.os,I.bare,I.base,I.loc,I.cell,I.free,I.freeC,λp hp=>I.pin p (BO _ hp),I.hok,I.len⟩
def Inv.toSuite(I:Inv X Gn σ H s):Inv (X.inSuite e) Gn σ H s:=
 ⟨⟨I.ok.mod,I.ok.kind,I.ok.glob,I.ok.blt,I.ok.above,I.ok.inj,I.ok.has,I.ok.cab,λq=>absurd q AT,I.ok.frames,I.ok.stk,I.ok.exf,I.ok.bs,I.ok.bsz,I.ok.noex,I.ok.exfs,I.ok.funs,I.ok.frf⟩,
  I.os,I.bare,I.base,I.loc,I.cell,I.free,I.freeC,I.pin,I.hok,I.len⟩
def Inv.unSuite(hd:X.calm=true->X.A.handled=none)(I:Inv (X.inSuite e) Gn σ H s):Inv X Gn σ H s:=
 ⟨⟨I.ok.mod,I.ok.kind,I.ok.glob,I.ok.blt,I.ok.above,I.ok.inj,I.ok.has,I.ok.cab,hd,I.ok.frames,I.ok.stk,I.ok.exf,I.ok.bs,I.ok.bsz,I.ok.noex,I.ok.exfs,I.ok.funs,I.ok.frf⟩,
  I.os,I.bare,I.base,I.loc,I.cell,I.free,I.freeC,I.pin,I.hok,I.len⟩
theorem Inv.hold{C:KP}(I:Inv X Gn σ H s)(hn:H e=none)(hL:e≠X.env.locals)(Kh:X.s₀.heap.get? e=none/\(∀x c,X.env.cells.lookup x=some c->c≠e)/\(∀p∈X.pn++Gn,p.1≠e))(ho:∃o,s.heap.get? e=some o/\o.cls=.ref C):
  Inv X Gn σ (upd H e (dm C e)) s:=by
 obtain⟨n0,nc,np⟩:=Kh;have ne0:∀{b:KP}{o:Obj},X.s₀.heap.get? b=some o->b≠e:=fun{b o} q z=>by rw[z,n0] at q;cases q
 have neh:∀{b:KP}{o:HO},H b=some o->b≠e:=λq=>bF q hn;refine⟨I.ok,I.os,I.bare,⟨I.base.keep,I.base.slot,λb o q n hx=>?_,I.base.there,λb xs q=>?_,λb o u q=>?_,λb ps q=>?_⟩,I.loc,I.cell,?_,λx c q=>?_,λp hp=>?_,λb o q=>?_,I.len⟩
 .rw[au (ne0 q)];exact I.base.free b o q n hx
 .have z:=I.base.tups b xs q;rw[au (neh z)];exact z
 .have z:=I.base.frzs b o u q;rw[au (neh z)];exact z
 .obtain⟨more,z⟩:=I.base.tbls b ps q;exact⟨more,by rw[au (neh z)];exact z⟩
 .rw[au (CB hL)];exact I.free
 .rw[au (nc x c q)];exact I.freeC x c q
 .obtain⟨a1,a2,a3⟩:=I.pin p hp;exact⟨a1,by rw[au (np p hp)];exact a2,a3⟩
 .by_cases hb:b=e
  .subst hb;rw[am] at q;cases q;exact wX ho
  .rw[au hb] at q;exact(I.hok b o q).stay (λ_ _ _ q=>q) (λc q=>by rw[au (neh q)];exact q) λc xs q=>by rw[au (neh q)];exact q
end
def aK(H:Hp)(v:V):Prop:=(∃i,v=.int i)\/(∃b,v=.bl b)\/v=.non\/(∃x,v=.str x)\/(∃a xs,v=.ref a/\H a=some (.lst xs))\/(∃a xs,v=.ref a/\H a=some (.tup xs))
def isI(v:V):Bool:=match v with
 |.int _=>true
 |_=>false
def Within(lo hi:Int)(v:V):Prop:=∃i,v=.int i/\lo<=i/\i<=hi
theorem w5{lo hi:Int}{v:V}(h:Within lo hi v):isI v=true:=by obtain⟨i,rfl,_⟩:=h;rfl
theorem w6 :W.kitOne K (.type "NoneType") (.type "int")=some false:=gc (by ac_nf) (by ac_nf) (by ac_nf)
theorem w8 :W.kitOne K (.type "str") (.type "int")=some false:=gc (by ac_nf) (by ac_nf) (by ac_nf)
theorem w9 :W.kitOne K (.type "list") (.type "int")=some false:=gc (by ac_nf) (by ac_nf) (by ac_nf)
theorem xa :W.kitOne K (.type "tuple") (.type "int")=some false:=gc (by ac_nf) (by ac_nf) (by ac_nf)
inductive sp_whole(vs:List V)(H:Hp)(Q:VK)(E':XK):Prop
 |mk v:vs=[v]->aK H v->Q (.bl (isI v)) H->sp_whole vs H Q E'
section
variable{X:Cx}{Gn:KW (KP×Obj)}{σ:St}{H:Hp}{s:KO}{h':KZ}{ch:KW KP}{t':Nat}
theorem ce.chs(hf:∀b∈ch,ce X Gn H b):∀b∈ch,(b∈X.ex\/X.s₀.heap.objs.size<=b)/\b≠X.env.locals/\(∀x c,X.env.cells.lookup x=some c->c≠b)/\∀p∈X.pn++Gn,p.1≠b:=λb hb=>by
 obtain⟨_,a2,_,a4,a5,a6⟩:=hf b hb;exact⟨a4,a2,a5,a6⟩
theorem Inv.turnAll(I:Inv X Gn σ H s)(hf:∀b∈ch,ce X Gn H b)(k:∀b o,b∉ch->s.heap.get? b=some o->h'.get? b=some o):Inv X Gn σ H {s with heap:=h',toks:=t'}:=by
 have nin:∀{b u},H b=some u->b∉ch:=λe z=>by rw[(hf _ z).1] at e;cases e
 refine I.step (g':=s.gens) (d':=s.drawn) (ch:=ch) (ce.chs hf) (λb o _ _ c e _=>k b o c e) (λb o _ _ c e _=>⟨o.slots,k b o c e⟩) (λ_ _ _ _ n=>n) (λb o c e=>⟨o,k b o c e⟩) (λ_ _ e=>e) (λ_ _ _ e=>e) (λb ps e=>⟨#[],by rw[e];simp⟩) (λm hm=>?_) (λb u e=>?_) I.bare
 .obtain⟨o,es,ep,ho,r⟩:=hm;exact⟨o,es,ep,k _ o (λz=>(hf _ z).2.1 rfl) ho,r⟩
 .refine(I.hok b u e).stay (λc v hc q=>k c v ?_ q) (λ_ q=>q) λ_ _ q=>q;rcases hc with z|z
  .rw[z];exact nin e
  .exact nin z
theorem Inv.turnNew{o:HO}(I:Inv X Gn σ H s)(hf:∀b∈ch,ce X Gn H b)(k:∀b ob,b∉ch->s.heap.get? b=some ob->h'.get? b=some ob)(new:aC X.prog X.w (upd H s.heap.objs.size o) h' s.heap.objs.size o):
  Inv X Gn σ (upd H s.heap.objs.size o) {s with heap:=h',toks:=t'}:=by
 have nf:H s.heap.objs.size=none:=I.hok.fresh (A8 _);have nin:∀{b u},H b=some u->b∉ch:=λe z=>by rw[(hf _ z).1] at e;cases e
 refine I.step (g':=s.gens) (d':=s.drawn) (ch:=ch) (ce.chs hf) (λb o _ _ c e _=>k b o c e) (λb o _ _ c e _=>⟨o.slots,k b o c e⟩) (λb ob c e n=>?_) (λb o c e=>⟨o,k b o c e⟩) (λb ys e=>?_) (λb o u e=>?_) (λb ps e=>⟨#[],?_⟩) (λm hm=>?_) (λb u e=>?_) I.bare
 .rw[au (AE (AD e))];exact n
 .rw[au (bF e nf)];exact e
 .rw[au (bF e nf)];exact e
 .rw[au (bF e nf),e];simp
 .obtain⟨o,es,ep,ho,r⟩:=hm;exact⟨o,es,ep,k _ o (λz=>(hf _ z).2.1 rfl) ho,r⟩
 .by_cases hb:b=s.heap.objs.size
  .subst hb;rw[am] at e;cases e;exact new
  .rw[au hb] at e;refine(I.hok b u e).stay (λc v hc q=>k c v ?_ q) (λc q=>?_) λc ys q=>?_
   .rcases hc with z|z
    .rw[z];exact nin e
    .exact nin z
   .rw[au (bF q nf)];exact q
   .rw[au (bF q nf)];exact q
end
theorem lL :dU 2 (gTup K 2 (gCons (cn 0) (gCons (cn 1) iC))):=by
 intro v σ H Q ⟨a,xs,e,hq,hl,x,r,ex,y,r2,er,en,q⟩;refine⟨a,xs,e,hq,hl,x,r,ex,y,r2,er,en,q,?_,λi hi=>?_⟩
 .rw[BU,BU]
 .rw[Bv (by lia),Bv (by lia)]
theorem lM :∀(σ:St) (H:Hp) (R R':St->Hp->Prop) (x:V),(∀σ' H',R σ' H'->R' σ' H')->gTup K 2 (gCons (cn 0) (gCons (cn 1) iC)) x σ H R->gTup K 2 (gCons (cn 0) (gCons (cn 1) iC)) x σ H R':=
 λσ H R R' v k GB=>by obtain⟨a,xs,e,hq,hl,x,r,ex,y,r2,er,en,q⟩:=GB;exact⟨a,xs,e,hq,hl,x,r,ex,y,r2,er,en,k _ _ q⟩
theorem lN{X:Cx}{es:KW KY}{k:Nat}{pos:Pos}{t:TGs}{n:Nat}(hK:X.K=K)(hc:X.calm=true)(h:PGs X es t)
  (hn:(assignEach es X.env).length=n:=by rfl) (Hw:(assignEach es X.env).findIdx? (·.1)=none:=by rfl):PG X (.Tuple es k pos) (gTup K n t):=hK▸eD hc h hn Hw
end L2
namespace PySem.SeqAt
open AutoSeq1 (wpAny_loadPart')
open MeetsSeq MeetsSeq2 MeetsSeq3 SeqRoads2
def LtAt(A:KU)(s:KO)(y x:KN)(b:Bool):Prop:=
 ∀(prog:KQ) (w:KS) (E:KN->KO->Prop) (Q:KN->KO->Prop),Q (.bool b) s->wpAny (model prog w) A (richCompare .Lt y x) Q E s
def lex(e f:Nat->Bool)(m n:Nat):Nat->Nat->Bool
 |0,_=>decide (m<n)
 |k+1,i=>if e i=true then lex e f m n k (i+1) else f i
theorem xb(l b:KP)(items Go:Array KN)(n n2:Nat)(dd HL:K0 KP)(sl Hx:Array (K0 KN))(e f:Nat->Bool)(k:Nat):
  ∀i:Nat,min items.size Go.size-i=k->Meets (Builtin.«list.__eq__.loop» ⟨[.ref l,.ref b,rawInt i,rawInt 0],[]⟩)
   (λA R s=>s.heap.get? l=some {cls:= .type "list",dict:=dd,data:= .seq items n,slots:=sl}/\s.heap.get? b=some {cls:= .type "list",dict:=HL,data:= .seq Go n2,slots:=Hx}/\
    (∀j (h1:j<items.size) (h2:j<Go.size),EqAt A.in1 s items[j] Go[j] (e j))/\(∀j (h1:j<items.size) (h2:j<Go.size),e j=false->LtAt A.in1 s items[j] Go[j] (f j))/\
    R (.ok (.ret (.bool (lex e f items.size Go.size k i)))) s):=by
 induction k with
 |zero=>
  intro i hk prog w A R s h;obtain⟨hp,g,d,tk,os⟩:=s;obtain⟨hl,hb,he,hf,h⟩:=h
  wp_walk using wpAny_loadPart' hl,CH hb
  rcases(by lia:items.size<=i\/(i<items.size/\Go.size<=i)) with q|⟨q1,q2⟩
  .have hi1:items[((i:Nat):Int).toNat]? =none:=by simp;lia
   rw[hi1]
   wp_walk using wpAny_loadPart' hl,CH hb
   exact h
  .have hi1:items[((i:Nat):Int).toNat]? =some items[i]:=by simp[q1]
   have Ii:Go[((i:Nat):Int).toNat]? =none:=by simp;lia
   rw[hi1,Ii]
   wp_walk using wpAny_loadPart' hl,CH hb
   exact h
 |succ k ih=>
  intro i hk prog w A R s h;obtain⟨hp,g,d,tk,os⟩:=s;obtain⟨hl,hb,he,hf,h⟩:=h
  wp_walk using wpAny_loadPart' hl,CH hb
  have Gx:i<items.size:=by lia
  have Km:i<Go.size:=by lia
  have hi1:items[((i:Nat):Int).toNat]? =some items[i]:=by simp[Gx]
  have Ii:Go[((i:Nat):Int).toNat]? =some Go[i]:=by simp[Km]
  have hc:((i:Int)+1)=((i+1:Nat):Int):=by push_cast;rfl
  unfold lex at h;rw[hi1,Ii];refine A0 (he i Gx Km prog w _ _ ?_);cases Iz:e i with
  |true=>
   rw[Iz,A9 rfl] at h
   wp_walk
   rw[hc];exact⟨D7 plain_eq_loop _,Bk entry_eq_loop (by
    rw[Bg plain_eq_loop _];exact ih (i+1) (by lia) prog w A R _ ⟨hl,hb,he,hf,h⟩)⟩
  |false=>
   rw[Iz,A6 (by simp)] at h
   wp_walk using wpAny_loadPart' hl,CH hb
   rw[hi1,Ii];refine A0 (hf i Gx Km Iz prog w _ _ ?_)
   wp_walk
   exact h
theorem pB(l b:KP)(items Go:Array KN)(n n2:Nat)(dd HL:K0 KP)(sl Hx:Array (K0 KN))(e f:Nat->Bool):
  Meets (Builtin.«list.__lt__» ⟨[.ref l,.ref b],[]⟩)
   (λA R s=>s.heap.get? l=some {cls:= .type "list",dict:=dd,data:= .seq items n,slots:=sl}/\s.heap.get? b=some {cls:= .type "list",dict:=HL,data:= .seq Go n2,slots:=Hx}/\
    (∀j (h1:j<items.size) (h2:j<Go.size),EqAt A.in1 s items[j] Go[j] (e j))/\(∀j (h1:j<items.size) (h2:j<Go.size),e j=false->LtAt A.in1 s items[j] Go[j] (f j))/\
    R (.ok (.ret (.bool (lex e f items.size Go.size (min items.size Go.size) 0)))) s):=by
 intro prog w A R s h;obtain⟨hp,g,d,tk,os⟩:=s;obtain⟨hl,hb,he,hf,h⟩:=h;have f3:=AutoSeq1.sub_list_list
 wp_walk using wpAny_loadPart' hl,CH hb
 exact⟨D7 plain_eq_loop _,Bk entry_eq_loop (by
  rw[Bg plain_eq_loop _];exact xb l b items Go n n2 dd HL sl Hx e f _ 0 rfl prog w A R _ ⟨hl,hb,he,hf,by simpa using h⟩)⟩
theorem xc(l b:KP)(items Go:Array KN)(n n2:Nat)(dd HL:K0 KP)(sl Hx:Array (K0 KN))(e f:Nat->Bool):
  Meets (Builtin.«tuple.__lt__» ⟨[.ref l,.ref b],[]⟩)
   (λA R s=>s.heap.get? l=some {cls:= .type "tuple",dict:=dd,data:= .seq items n,slots:=sl}/\s.heap.get? b=some {cls:= .type "tuple",dict:=HL,data:= .seq Go n2,slots:=Hx}/\
    (∀j (h1:j<items.size) (h2:j<Go.size),EqAt A.in1 s items[j] Go[j] (e j))/\(∀j (h1:j<items.size) (h2:j<Go.size),e j=false->LtAt A.in1 s items[j] Go[j] (f j))/\
    R (.ok (.ret (.bool (lex e f items.size Go.size (min items.size Go.size) 0)))) s):=
 .of_wp λprog w A R s h=>by
  obtain⟨hp,g,d,tk,os⟩:=s;obtain⟨hl,hb,he,hf,h⟩:=h;have f2:=AutoSeq1.sub_tuple_tuple;have hZ:(items.toList.zip Go.toList).length=min items.size Go.size:=by simp
  wp_walk using wpAny_loadPart' hl,CH hb,wpAny_forIn_list _ (λbj b s'=>b.1=none/\s'=⟨hp,g,d,tk,os⟩/\∃i,bj=(items.toList.zip Go.toList).drop i/\i<=min items.size Go.size/\
   R (.ok (.ret (.bool (lex e f items.size Go.size (min items.size Go.size-i) i)))) ⟨hp,g,d,tk,os⟩) _
  case turn=>
   rintro⟨y,x⟩ bj b s' ⟨Iz,rfl,i,hz,hile,hR⟩;have Gx:i<(items.toList.zip Go.toList).length:=by
    rcases C4 i (items.toList.zip Go.toList).length with h'|h'
    .exact h'
    .rw[C6 h'] at hz;cases hz
   have hm:i<min items.size Go.size:=hZ▸Gx;have h1:i<items.size:=AS hm (Nat.min_le_left _ _);have h2:i<Go.size:=AS hm (Nat.min_le_right _ _);rw[BX Gx] at hz;injection hz with hyx hrest;have hy:y=items[i]:=by have:=Ah Prod.fst hyx;simpa using this
   have hx:x=Go[i]:=by have:=Ah Prod.snd hyx;simpa using this
   subst hy hx;rw[show min items.size Go.size-i=(min items.size Go.size-(i+1))+1 by lia,lex] at hR;refine A0 (he i h1 h2 prog w _ _ ?_);cases hy:e i with
   |true=>
    rw[hy,A9 rfl] at hR
    wp_walk
    exact⟨rfl,rfl,i+1,hrest,by lia,hR⟩
   |false=>
    rw[hy,A6 (by simp)] at hR;rw[A9 (show(!false)=true from rfl)];refine A0 (wpAny_rule ?_);refine A0 (hf i h1 h2 hy prog w _ _ ?_)
    wp_walk
    exact⟨_,rfl,hR⟩
  case fin=>
   rintro⟨b1,b2⟩ s' ⟨Iz,rfl,i,hz,hile,hR⟩;simp only at Iz;subst Iz;have hi:i=min items.size Go.size:=by
    rcases C4 i (items.toList.zip Go.toList).length with h'|h'
    .rw[BX h'] at hz;cases hz
    .lia
   subst hi;rw[Nat.sub_self] at hR
   wp_walk
   exact⟨_,rfl,hR⟩
  case h=>
   exact⟨rfl,rfl,0,rfl,AR _,by simpa using h⟩
section
variable{A:KU}{s:KO}
def LtAt.int_int(i:Int)(t:Tok)(j:Int)(u:Tok):LtAt A s (.int i t) (.int j u) (decide (i<j)):=λprog w E Q h=>wpAny_lt_int h
theorem LtAt.lists{l b:KP}{items Go:Array KN}{e f:Nat->Bool}(hl:s.heap.IsList l items)(hb:s.heap.IsList b Go)(hu:A.units<cLine)
  (he:∀j (h1:j<items.size) (h2:j<Go.size),EqAt A.in1 s items[j] Go[j] (e j)) (hf:∀j (h1:j<items.size) (h2:j<Go.size),e j=false->LtAt A.in1 s items[j] Go[j] (f j)):
  LtAt A s (.ref l) (.ref b) (lex e f items.size Go.size (min items.size Go.size) 0):=λprog w E Q h=>by
 obtain⟨⟨cls,dd,data,sl⟩,ho,hc,n,hd⟩:=id hl;obtain⟨⟨Js,HL,data2,Hx⟩,G9,HM,n2,G4⟩:=id hb;simp only at hc hd HM G4;subst hc hd HM G4;exact richCompare_meets_room (op:= .Lt) ⟨_,ho,rfl⟩ ⟨_,G9,rfl⟩ F.slot_list_lt F.entry_list_lt (F.args_list_lt_2 _ _) (pB l b items Go n n2 dd HL sl Hx e f)
  ⟨ho,G9,he,hf,show Value.bool (lex e f items.size Go.size (min items.size Go.size) 0)≠Value.notImplemented/\Q (.bool (lex e f items.size Go.size (min items.size Go.size) 0)) s from⟨(λx=>nomatch x),h⟩⟩ hu
theorem LtAt.tuples{l b:KP}{items Go:Array KN}{e f:Nat->Bool}(hl:s.heap.IsTuple l items)(hb:s.heap.IsTuple b Go)(hu:A.units<cLine)
  (he:∀j (h1:j<items.size) (h2:j<Go.size),EqAt A.in1 s items[j] Go[j] (e j)) (hf:∀j (h1:j<items.size) (h2:j<Go.size),e j=false->LtAt A.in1 s items[j] Go[j] (f j)):
  LtAt A s (.ref l) (.ref b) (lex e f items.size Go.size (min items.size Go.size) 0):=λprog w E Q h=>by
 obtain⟨⟨cls,dd,data,sl⟩,ho,hc,n,hd⟩:=id hl;obtain⟨⟨Js,HL,data2,Hx⟩,G9,HM,n2,G4⟩:=id hb;simp only at hc hd HM G4;subst hc hd HM G4;exact richCompare_meets_room (op:= .Lt) ⟨_,ho,rfl⟩ ⟨_,G9,rfl⟩ F.slot_tuple_lt F.entry_tuple_lt (F.args_tuple_lt_2 _ _) (xc l b items Go n n2 dd HL sl Hx e f)
  ⟨ho,G9,he,hf,show Value.bool (lex e f items.size Go.size (min items.size Go.size) 0)≠Value.notImplemented/\Q (.bool (lex e f items.size Go.size (min items.size Go.size) 0)) s from⟨(λx=>nomatch x),h⟩⟩ hu
theorem key_lists{prog:KQ}{w:KS}{E:KN->KO->Prop}{l b:KP}{items Go:Array KN}{e f:Nat->Bool}{Q:Bool->KO->Prop}(hl:s.heap.IsList l items)(hb:s.heap.IsList b Go)(hu:A.units<cLine)
  (he:∀j (h1:j<items.size) (h2:j<Go.size),EqAt A.in1 s items[j] Go[j] (e j)) (hf:∀j (h1:j<items.size) (h2:j<Go.size),e j=false->LtAt A.in1 s items[j] Go[j] (f j))
  (h:Q (lex e f items.size Go.size (min items.size Go.size) 0) s):wpAny (model prog w) A (PyProof.Rows.keyLt' PyProof.Rows.oneType' (.ref l) (.ref b)) Q E s:=by
 rw[PyProof.Rows.keyLt'_oneType,PyProof.Rows.oneLt'_eq];simp only[Bh];refine A0 (wpAny_cRoomFor hu ?_);obtain⟨⟨cls,dd,data,sl⟩,ho,hc,n,hd⟩:=id hl;obtain⟨⟨Js,HL,data2,Hx⟩,G9,HM,n2,G4⟩:=id hb;simp only at hc hd HM G4;subst hc hd HM G4;refine A0 (wpAny_callSpecialIfBound?_slot (T:="list") ⟨_,ho,rfl⟩ F.slot_list_lt (Cp F.slot_list_lt ⟨_,ho,rfl⟩ F.entry_list_lt (F.args_list_lt_2 _ _) (pB l b items Go n n2 dd HL sl Hx e f) ⟨ho,G9,he,hf,?_⟩));exact BF h
end
end PySem.SeqAt
namespace L2
open PySem PySem.Spec PyProof.Rows
variable{A:KU}{E:KN->KO->Prop}{H:Hp}{Q:Bool->KO->Prop}{a b l:KP}{k n:Nat}{o:Obj}{p:Array Nat}{prog:KQ}{vs:KW KN}{w:KS}{xs:KW Int}
inductive LtR(K:W.Frag)(H:Hp):Nat->V->V->Bool->Prop where
 |int (d:Nat) (i j:Int):LtR K H d (.int i) (.int j) (decide (i<j))
 |lists {d:Nat}{a b:Addr}{xs ys:List V} (es fs:Nat->Bool) (h1:SqL K H a xs) (h2:SqL K H b ys) (he:∀(j:Nat) x y,xs[j]? =some x->ys[j]? =some y->EqR K H d x y (es j)) (hf:∀(j:Nat) x y,xs[j]? =some x->ys[j]? =some y->es j=false->LtR K H d x y (fs j)):
  LtR K H (d+1) (.ref a) (.ref b) (SeqAt.lex es fs xs.length ys.length (min xs.length ys.length) 0)
 |tuples {d:Nat}{a b:Addr}{xs ys:List V} (es fs:Nat->Bool) (h1:SqT K H a xs) (h2:SqT K H b ys) (he:∀(j:Nat) x y,xs[j]? =some x->ys[j]? =some y->EqR K H d x y (es j)) (hf:∀(j:Nat) x y,xs[j]? =some x->ys[j]? =some y->es j=false->LtR K H d x y (fs j)):
  LtR K H (d+1) (.ref a) (.ref b) (SeqAt.lex es fs xs.length ys.length (min xs.length ys.length) 0)
section
variable{X:Cx}{Gn:KW (KP×Obj)}{σ:St}{H:Hp}{s:KO}
theorem db{xs:KW V}{is:KW KN}{j:Nat}(r:ao xs is)(q:j<is.toArray.size):∃x,xs[j]? =some x/\ar x is.toArray[j]:=by
 have l:=r.length;have q':j<is.length:=by simpa using q
 have hx:xs[j]? =some xs[j]:=A1 (by lia);obtain⟨u,e,ru⟩:=r.get hx;refine⟨_,hx,?_⟩;have g:is.toArray[j]=u:=by
  rw[A1 q'] at e;simpa using Option.some.inj e
 rw[g];exact ru
theorem LtR.bo(I:Inv X Gn σ H s){d:Nat}{x y:V}{b:Bool}(h:LtR X.K H d x y b):∀{A:KU}{u v:KN},A.units+d<cLine->ar x u->ar y v->SeqAt.LtAt A s u v b:=by
 induction h with
 |int d i j=>
  intro A u v hu ru rv;obtain⟨t,rfl⟩:=ru;obtain⟨t',rfl⟩:=rv;exact SeqAt.LtAt.int_int i t j t'
 | @lists d a b xs ys es fs h1 h2 he hf ih=>
  intro A u v hu ru rv;obtain rfl:u=Value.ref a:=ru;obtain rfl:v=Value.ref b:=rv;obtain⟨is,r1,p1,z1⟩:=I.list h1;obtain⟨js,r2,p2,z2⟩:=I.list h2;have l1:xs.length=is.toArray.size:=by have:=r1.length;simpa using this
  have l2:ys.length=js.toArray.size:=by have:=r2.length;simpa using this
  rw[l1,l2];refine SeqAt.LtAt.lists p1.isList p2.isList (by lia) (λj q1 q2=>?_) (λj q1 q2 z=>?_)
  .obtain⟨x,hx,rx⟩:=db r1 q1;obtain⟨y,hy,ry⟩:=db r2 q2;exact((he j _ _ hx hy).bo I (by rw[di];lia) rx ry).2.2
  .obtain⟨x,hx,rx⟩:=db r1 q1;obtain⟨y,hy,ry⟩:=db r2 q2;exact ih j _ _ hx hy z (by rw[di];lia) rx ry
 | @tuples d a b xs ys es fs h1 h2 he hf ih=>
  intro A u v hu ru rv;obtain rfl:u=Value.ref a:=ru;obtain rfl:v=Value.ref b:=rv;obtain⟨is,r1,p1,z1⟩:=I.tuple h1;obtain⟨js,r2,p2,z2⟩:=I.tuple h2;have l1:xs.length=is.toArray.size:=by have:=r1.length;simpa using this
  have l2:ys.length=js.toArray.size:=by have:=r2.length;simpa using this
  rw[l1,l2];refine SeqAt.LtAt.tuples (show s.heap.IsTuple a is.toArray from p1) (show s.heap.IsTuple b js.toArray from p2) (by lia) (λj q1 q2=>?_) (λj q1 q2 z=>?_)
  .obtain⟨x,hx,rx⟩:=db r1 q1;obtain⟨y,hy,ry⟩:=db r2 q2;exact((he j _ _ hx hy).bo I (by rw[di];lia) rx ry).2.2
  .obtain⟨x,hx,rx⟩:=db r1 q1;obtain⟨y,hy,ry⟩:=db r2 q2;exact ih j _ _ hx hy z (by rw[di];lia) rx ry
theorem LtR.key(I:Inv X Gn σ H s){d:Nat}{xs ys:KW V}{es fs:Nat->Bool}(h1:SqL X.K H a xs)(h2:SqL X.K H b ys)(he:∀(j:Nat) x y,xs[j]? =some x->ys[j]? =some y->EqR X.K H d x y (es j))(hf:∀(j:Nat) x y,xs[j]? =some x->ys[j]? =some y->es j=false->LtR X.K H d x y (fs j))
  (hu:A.units+(d+1)<cLine) (q:Q (SeqAt.lex es fs xs.length ys.length (min xs.length ys.length) 0) s):
  wpAny (model prog w) A (keyLt' oneType' (.ref a) (.ref b)) Q E s:=by
 obtain⟨is,r1,p1,z1⟩:=I.list h1;obtain⟨js,r2,p2,z2⟩:=I.list h2;have l1:xs.length=is.toArray.size:=by have:=r1.length;simpa using this
 have l2:ys.length=js.toArray.size:=by have:=r2.length;simpa using this
 rw[l1,l2] at q;refine SeqAt.key_lists p1.isList p2.isList (by lia) (λj q1 q2=>?_) (λj q1 q2 z=>?_) q
 .obtain⟨x,hx,rx⟩:=db r1 q1;obtain⟨y,hy,ry⟩:=db r2 q2;exact((he j _ _ hx hy).bo I (by rw[di];lia) rx ry).2.2
 .obtain⟨x,hx,rx⟩:=db r1 q1;obtain⟨y,hy,ry⟩:=db r2 q2;exact(hf j _ _ hx hy z).bo I (by rw[di];lia) rx ry
end
def eK(ns:KW Int):Int:=ns.getD (argBest (λi j=>decide (ns.getD i 0<ns.getD j 0)) (ns.length-1)) 0
section
variable{X:Cx}
theorem pC{ys:Array (Int×Tok)}{ns:KW Int}(h:ys.toList.map (·.1)=ns)(i:Nat):numAt ys i=ns.getD i 0:=by
 subst h;unfold numAt;rw[List.getD,AF,B9]
theorem xf(hc:X.calm=true):bB X (.builtin "min") (λxs H Q=>∃(p:KP) (ns:KW Int),xs=[.ref p]/\SqL X.K H p (ns.map V.int)/\0<ns.length/\Q (.int (eK ns)) H):=by
 intro Gn s σ H xs us Q I r h;obtain⟨p,ns,rfl,hq,h0,q⟩:=h;obtain⟨u,rfl,rx⟩:=cP r;cases rx;obtain⟨Gq,r',pl,hz⟩:=I.list hq;have hi:IntsAre Gq ns:=oH r';obtain⟨ys,e⟩:=hi.allInts.items;have n1:=hi.numsOf;rw[show Gq=Gq.toArray.toList from rfl,e,nums_intItems] at n1;have hsz:ys.size=ns.length:=by rw[<-n1];simp
 have hl:=pl.isList;rw[e] at hl;refine min_intList (I.ok.hd hc) hl (by lia) λv h' tk hv hk=>?_;obtain⟨t,rfl⟩:=intItems_at hv;refine⟨.int (eK ns),H,I.kept hk,⟨t,?_⟩,q⟩;unfold eK;rw[pC n1,hsz];simp only[pC n1]
theorem pD{s:KO}{h':KZ}(hk:∀b x,b∉[s.heap.objs.size]->(s.heap.push o).get? b=some x->h'.get? b=some x):∀b x,s.heap.get? b=some x->h'.get? b=some x:=
 λb x e=>hk b x (λhm=>by rw[An.mp hm] at e;exact Bi _ (AD e)) (A4 _ e)
theorem xg(hc:X.calm=true):bB X (.builtin "all") (λxs H Q=>∃(p:KP) (bs:KW Bool),xs=[.ref p]/\SqL X.K H p (bs.map V.bl)/\Q (.bl (bs.all id)) H):=by
 intro Gn s σ H xs us Q I r h;obtain⟨p,bs,rfl,hq,q⟩:=h;obtain⟨u,rfl,rx⟩:=cP r;cases rx;obtain⟨Gq,r',pl,hz⟩:=I.list hq;have hl:=pl.isList;have Gx:p<s.heap.objs.size:=by obtain⟨_,e,_⟩:=hl;exact AD e
 have hln:Gq.length=bs.length:=by have:=r'.length;simpa using this.symm
 refine call_all_walk (Cw hl ?_);refine⟨s.heap.objs.size,[s.heap.objs.size,p],[s.heap.objs.size],Gq.toArray.size,_,_,λi=>(bs[i]?).getD true,rfl,Walks.list (A:=X.A.in1) (I.ok.hd hc) _ p (AE Gx) Gq.toArray,
  ⟨⟨_,AC _ rfl,rfl,rfl⟩,hl.push _⟩,λi v s' Q' E' hP hQ=>?_,λh' tk hk=>?_⟩
 .have hv:Gq[i]? =some v:=by simpa using hP
  have hib:i<bs.length:=by rw[<-hln];exact(AJ.mp hv).1
  obtain⟨u,hu,ru⟩:=r'.get (show(bs.map V.bl)[i]? =some (.bl bs[i]) by rw[AF,A1 hib];rfl);rw[hv] at hu;cases hu;obtain rfl:v=Value.bool bs[i]:=ru;simp only[A1 hib,Option.getD_some] at hQ;exact BF hQ
 .refine⟨.bl (bs.all id),H,I.kept (pD hk),?_,q⟩;show Value.bool _=Value.bool _;rw[AA,hln,PyProof.Rows.LSm.range_all]
theorem xh(hc:X.calm=true):bB X (.builtin "any") (λxs H Q=>∃(p:KP) (bs:KW Bool),xs=[.ref p]/\SqL X.K H p (bs.map V.bl)/\Q (.bl (bs.any id)) H):=by
 intro Gn s σ H xs us Q I r h;obtain⟨p,bs,rfl,hq,q⟩:=h;obtain⟨u,rfl,rx⟩:=cP r;cases rx;obtain⟨Gq,r',pl,hz⟩:=I.list hq;have hl:=pl.isList;have Gx:p<s.heap.objs.size:=by obtain⟨_,e,_⟩:=hl;exact AD e
 have hln:Gq.length=bs.length:=by have:=r'.length;simpa using this.symm
 refine call_any_walk (Cw hl ?_);refine⟨s.heap.objs.size,[s.heap.objs.size,p],[s.heap.objs.size],Gq.toArray.size,_,_,λi=>(bs[i]?).getD false,rfl,Walks.list (A:=X.A.in1) (I.ok.hd hc) _ p (AE Gx) Gq.toArray,
  ⟨⟨_,AC _ rfl,rfl,rfl⟩,hl.push _⟩,λi v s' Q' E' hP hQ=>?_,λh' tk hk=>?_⟩
 .have hv:Gq[i]? =some v:=by simpa using hP
  have hib:i<bs.length:=by rw[<-hln];exact(AJ.mp hv).1
  obtain⟨u,hu,ru⟩:=r'.get (show(bs.map V.bl)[i]? =some (.bl bs[i]) by rw[AF,A1 hib];rfl);rw[hv] at hu;cases hu;obtain rfl:v=Value.bool bs[i]:=ru;simp only[A1 hib,Option.getD_some] at hQ;exact BF hQ
 .refine⟨.bl (bs.any id),H,I.kept (pD hk),?_,q⟩;show Value.bool _=Value.bool _;rw[AA,hln,PyProof.Rows.LSm.range_any]
inductive ipM(x:V)(y:V)(H:Hp)(Q:VK):Prop
 |mk i j:x=.int i->y=.int j->iE i j->Q (.int (i*j)) H->ipM x y H Q
theorem xk:PIp X .Mult ipM:=by
 intro Gn s σ H x y v u Q I r1 r2 h;obtain⟨i,j,e1,e2,c,q⟩:=h;subst e1;subst e2;obtain⟨t,rfl⟩:=r1;obtain⟨t',rfl⟩:=r2;exact imul_int ⟨.int _,H,I.tok _,⟨_,rfl⟩,q⟩ c.ok
end
def tI(xs:KW Int):D:= .t (xs.map .i)
theorem i9{H:Hp}:∀{xs:KW Int}{vs:KW V},Iss H (xs.map .i) vs->vs=xs.map V.int
 |[],vs,h=>h
 |x::xs,vs,h=>by
  obtain⟨u,us,rfl,h1,h2⟩:=h;rw[aS h1,i9 h2];rfl
theorem lO{H:Hp}:∀(xs:KW Int),Iss H (xs.map .i) (xs.map V.int)
 |[]=>rfl
 |x::xs=>⟨_,_,rfl,dj,lO xs⟩
theorem eM{v:V}(h:Is H (tI xs) v):∃a,v=.ref a/\H a=some (.tup (xs.map V.int)):=by
 obtain⟨a,vs,rfl,ha,hi⟩:=dk h;rw[i9 hi] at ha;exact⟨a,rfl,ha⟩
def ja(h:H a=some (.tup (xs.map V.int))):Is H (tI xs) (.ref a):=dB h (lO xs)
open PySem.W
section
variable{n:Nat}
def Ord(n:Nat)(p:Array Nat):Prop:=p.Perm (List.range n).toArray
theorem Ord.size{p:Array Nat}(h:Ord n p):p.size=n:=by
 have:=(Bm.mp h).length_eq;simpa using this
theorem Ord.lt(h:Ord n p){i:Nat}(hi:i∈p.toList):i<n:=by
 have:=(Bm.mp h).mem_iff.mp hi;simpa using this
theorem Ord.bubble{p:Array Nat}(h:Ord n p)(i j:Nat):Ord n (PyProof.Rows.bubble p i j):=(bubble_perm p i j).trans h
def Ord.kas(h:Ord n p)(i j:Nat):Ord n (kas_rev p i j):=(mirror_perm p i j _).trans h
theorem Ord.getD{p:Array Nat}(h:Ord n p)(hn:0<n)(i:Nat):p.getD i 0<n:=by
 by_cases hi:i<p.size
 .have e:p.getD i 0=p[i]:=by simp[Array.getD,hi]
  rw[e];exact h.lt (by simp)
 .have e:p.getD i 0=0:=by simp[Array.getD,hi]
  rw[e];exact hn
def bq(n:Nat){α:Type}(R:α->Prop):KasT α->Prop
 |.ret a=>R a
 |.ask i j k=>i<n/\j<n/\∀b,bq n R (k b)
theorem bq.bind{α β:Type}{R:α->Prop}{R':β->Prop}{f:α->KasT β}(hf:∀a,R a->bq n R' (f a)):∀{t:KasT α},bq n R t->bq n R' (t.bind f)
 |.ret a,h=>hf a h
 |.ask i j k,h=>⟨h.1,h.2.1,λb=>bq.bind hf (h.2.2 b)⟩
theorem bq.wp{α:Type}{R:α->Prop}{cmp:Nat->Nat->(Bool->KO->Prop)->KO->Prop}{Q:α->KO->Prop}{s:KO}(hc:∀i j,i<n->j<n->∃b,∀C:Bool->KO->Prop,C b s->cmp i j C s)(hq:∀a,R a->Q a s):∀{t:KasT α},bq n R t->t.kasWp cmp Q s
 |.ret a,h=>hq a h
 |.ask i j k,h=>by
  obtain⟨b,hb⟩:=hc i j h.1 h.2.1;exact hb _ (bq.wp hc hq (h.2.2 b))
variable(hn:0<n)
include hn
theorem lP{p:Array Nat}(h:Ord n p):∀f m,bq n (λ_=>True) (kas_asc p f m)
 |0,m=>trivial
 |f+1,m=>⟨h.getD hn _,h.getD hn _,λb=>by
  cases b with
  |true=>exact trivial
  |false=>exact lP h f (m+1)⟩
theorem jb:∀(f:Nat) (p:Array Nat) (m q:Nat),Ord n p->bq n (λr=>Ord n r.1) (kas_desc f p m q)
 |0,p,m,q,h=>h
 |f+1,p,m,q,h=>⟨h.getD hn _,h.getD hn _,λb=>by
  cases b with
  |true=>
   show bq n _ (if q>0 then kas_desc f (kas_rev p (m-(q+1)) m) (m+1) 0 else kas_desc f p (m+1) 0);by_cases hq:q>0
   .rw[A9 hq];exact jb f _ _ _ (h.kas _ _)
   .rw[A6 hq];exact jb f _ _ _ h
  |false=>
   refine(show bq n _ (KasT.ask (p.getD (m-1) 0) (p.getD m 0) λd=>if d=true then KasT.ret (p,m,q) else kas_desc f p (m+1) (q+1)) from⟨h.getD hn _,h.getD hn _,λb=>?_⟩);cases b with
   |true=>exact h
   |false=>exact jb f _ _ _ h⟩
theorem pE(h:Ord n p)(m k:Nat):bq n (λr=>Ord n r.2) (kas_tail3 m k p):=by
 unfold kas_tail3;refine bq.bind (λa _=>?_) (lP hn (h.kas 0 m) _ _);exact h.kas 0 m
theorem pF(h:Ord n p)(m k:Nat):bq n (λr=>Ord n r.2) (kas_descPart m k p):=by
 refine(jb hn _ _ _ _ h).bind λr hr=>?_;by_cases hq:r.2.2>0
 .rw[A9 hq];exact pE hn (hr.kas _ _) _ _
 .rw[A6 hq];exact pE hn hr _ _
theorem xl(h:Ord n p)(k:Nat):bq n (λr=>Ord n r.2) (kas_count k p):=by
 refine(lP hn h _ _).bind λm _=>?_;by_cases h1:(m==k)=true
 .rw[A9 h1];exact h
 .rw[A6 h1];by_cases h2:m>1
  .rw[A9 h2];refine⟨h.getD hn _,h.getD hn _,λb=>?_⟩;cases b with
   |true=>exact h
   |false=>exact pF hn (h.kas _ _) _ _
  .rw[A6 h2];exact pF hn h _ _
theorem lQ{p:Array Nat}(h:Ord n p)(k:Nat):∀f l r,bq n (λ_=>True) (kas_place p k f l r)
 |0,l,r=>trivial
 |f+1,l,r=>by
  unfold kas_place;by_cases h1:l>=r
  .rw[A9 h1];exact trivial
  .rw[A6 h1];refine⟨h.getD hn _,h.getD hn _,λb=>?_⟩;cases b with
   |true=>exact lQ h k f _ _
   |false=>exact lQ h k f _ _
theorem pG:∀(f:Nat) (p:Array Nat) (k:Nat),Ord n p->bq n (Ord n) (kas_bin f p k)
 |0,p,k,h=>h
 |f+1,p,k,h=>(lQ hn h k _ _ _).bind λl _=>pG f _ _ (h.bubble _ _)
theorem pH:bq n (Ord n) (kas_sort n):=by
 refine(xl hn (show Ord n (List.range n).toArray from Array.Perm.refl _) n).bind λr hr=>?_;by_cases h:r.1<n
 .rw[A9 h];exact pG hn _ _ _ hr
 .rw[A6 h];exact hr
end
section
variable{prog:KQ}{w:KS}{A:KU}{E:KN->KO->Prop}{s:KO}
abbrev aQ(h:KZ)(a:KP)(vs:KW KN):KZ:=((h.update a (Obj.mapSeq λ_=>(#[]:Array KN))).push (seqObj "tuple" vs.toArray 0)).push (seqObj "list" #[] 0)
theorem xm{kd:SortKind}{P:PySem.Fin->KO->Prop}(ho:s.heap.get? a=some (seqObj "list" vs.toArray n))(h2:2<=vs.length)(h64:vs.length<64)
  (IG:∀(R:SortKind->KO->Prop),R kd {s with heap:=aQ s.heap a vs}->wpAny (model prog w) A (keyKind' vs.toArray) R E {s with heap:=aQ s.heap a vs})
  (hc:∀i j,i<vs.length->j<vs.length->∃b,∀C:Bool->KO->Prop,C b {s with heap:=aQ s.heap a vs}->wpAny (model prog w) A (keyLt' kd (vs.getD i .none) (vs.getD j .none)) C (λ_ _=>False) {s with heap:=aQ s.heap a vs})
  (h:∀p,Ord vs.length p->P (.done (.ret .none)) {s with heap:=sortedHeap s.heap a vs (p.map λi=>vs.getD i .none)}):wpAny (model prog w) A (Builtin.«list.sort» ⟨[.ref a],[]⟩) P E s:=by
 rw[list_sort_plain];have ha:a<s.heap.objs.size:=AD ho;refine A0 (listItems_at ho rfl ?_);refine A0 (CZ ho rfl ?_ (by rw[AA,As];lia) (AR _));obtain⟨e1,GU⟩:∃e1,(s.heap.update a (Obj.mapSeq λ_=>(#[]:Array KN))).get? a=some (seqObj "list" #[] e1):=⟨_,CW ho (λ_=> #[])⟩;refine A0 (seqEpoch_at GU rfl ?_);refine A0 (wpAny_newTuple ?_ (by show vs.length<=_;rw[As];lia));refine A0 (Cg ?_ (AR _));refine Ap ?_;have HY:(aQ s.heap a vs).get? a=some (seqObj "list" #[] e1):=by
  rw[B1 _ _ _ (by rw[Bb,Ax];exact AE (Ab ha)),B1 _ _ _ (by rw[Ax];exact AE ha)];exact GU
 show wpAny (model prog w) A _ P E {s with heap:=aQ s.heap a vs};dsimp only;have Ix:¬vs.toArray.size<2:=by rw[AA];lia
 rw[A6 Ix,A6 Ix];refine A0 (IG _ ?_);have est:kas_st kd (pairsOf vs) (List.toArray (List.range vs.length))=SortSt.mk' kd (vs.toArray.zip vs.toArray) #[] 7 none:=by
  have e:=kas_range (pairsOf vs);rw[pairsOf_size] at e;show SortSt.mk' kd ((List.toArray (List.range vs.length)).map (kas_item (pairsOf vs))) #[] 7 none=SortSt.mk' kd (pairsOf vs) #[] 7 none;rw[e]
 have ask:(kas_sort vs.length).kasWp (kas_cmp prog w A kd (pairsOf vs)) (λp s'=>s'={s with heap:=aQ s.heap a vs}/\Ord vs.length p) {s with heap:=aQ s.heap a vs}:=by
  refine bq.wp (λi j hi hj=>?_) (λp hp=>⟨rfl,hp⟩) (pH (by lia));obtain⟨b,hb⟩:=hc i j hi hj;refine⟨b,λC hC=>?_⟩;rw[<-kas_ask_eq];exact hb C hC
 have run:=kas_runs (E:=E) (Q:=λ_ GP s'=>∃p,s'={s with heap:=aQ s.heap a vs}/\Ord vs.length p/\arrOf GP=p.map (kas_item (pairsOf vs))/\failedOf GP=none) h2 h64 (λp' GP s' _ a2 a3 a4=>⟨p',a4.1,a4.2,a2,a3⟩) ask;rw[est] at run;refine A0 (BD run ?_ λ_ _ e=>e);rintro⟨⟨⟩,GP⟩ s' ⟨p,rfl,hp,har,hf⟩;dsimp only at har hf⊢;have eo:(arrOf GP).map (·.2)=p.map λi=>vs.getD i .none:=by
  rw[har,Array.map_map];refine Array.map_congr_left λi _=>?_;show(kas_item (pairsOf vs) i).2=_;rw[kas_item_eq]
 rw[eo];refine A0 (seqEpoch_at HY rfl ?_);refine A0 (CZ HY rfl ?_ (AR _) (by rw[Array.size_map,As,hp.size];lia));rw[hf];simp only[Ch,AI,At];exact A2 (h p hp)
abbrev dn(h:KZ)(vs:KW KN):KZ:=aQ (((h.push (seqObj "list" #[] 0)).update h.objs.size (Obj.mapSeq (· ++vs.toArray))).push (seqObj "list" vs.toArray 0)) (h.objs.size+1) vs
theorem pI{h:KZ}(hb:h.get? b=some o):(dn h vs).get? b=some o:=by
 have Gx:b<h.objs.size:=AD hb;have sz:(((h.push (seqObj "list" #[] 0)).update h.objs.size (Obj.mapSeq (· ++vs.toArray))).push (seqObj "list" vs.toArray 0)).objs.size=h.objs.size+2:=by rw[Bb,Ax,Bb]
 have n0:b≠h.objs.size:=AE Gx;have n1:b≠h.objs.size+1:=AE (Ab Gx);have n2:b≠h.objs.size+2:=AE (Ab (Ab Gx));have n3:b≠h.objs.size+2+1:=AE (Ab (Ab (Ab Gx)));rw[B1 _ _ _ (by rw[Bb,Ax,sz];exact n3),B1 _ _ _ (by rw[Ax,sz];exact n2),DC _ _ _ _ n1,
  B1 _ _ _ (by rw[Ax,Bb];exact n1),DC _ _ _ _ n0,B1 _ _ _ n0]
 exact hb
theorem xn{kd:SortKind}{Q:KN->KO->Prop}(hl:s.heap.IsList l vs.toArray)(h2:2<=vs.length)(h64:vs.length<64)
  (IG:∀(R:SortKind->KO->Prop) (E:KN->KO->Prop),R kd {s with heap:=dn s.heap vs}->wpAny (model prog w) A.in1.in1 (keyKind' vs.toArray) R E {s with heap:=dn s.heap vs})
  (hc:∀i j,i<vs.length->j<vs.length->∃b,∀C:Bool->KO->Prop,C b {s with heap:=dn s.heap vs}->wpAny (model prog w) A.in1.in1 (keyLt' kd (vs.getD i .none) (vs.getD j .none)) C (λ_ _=>False) {s with heap:=dn s.heap vs})
  (h:∀p,Ord vs.length p->Q (.ref (s.heap.objs.size+1)) {s with heap:=sortedAll s.heap vs (p.map λi=>vs.getD i .none)}):wpAny (model prog w) A (call (.builtin "sorted") [.ref l]) Q E s:=by
 refine Cd kind_sorted plain_sorted entry_sorted (args_sorted1 _) ?_;unfold Builtin.«sorted»;refine A0 (m:=checkCount "sorted" 1 1 _) (A2 ?_);refine A0 (collect_list hl ?_ (by rw[As];lia));refine A0 (Cg ?_ (by rw[As];lia));have hsz:((s.heap.push (seqObj "list" #[] 0)).update s.heap.objs.size (Obj.mapSeq (· ++vs.toArray))).objs.size=s.heap.objs.size+1:=by
  rw[Ax,Bb]
 have Ji:(((s.heap.push (seqObj "list" #[] 0)).update s.heap.objs.size (Obj.mapSeq (· ++vs.toArray))).push (seqObj "list" vs.toArray 0)).get? (s.heap.objs.size+1)=some (seqObj "list" vs.toArray 0):=by
  rw[<-hsz];exact AC _ rfl
 show wpAny _ _ _ _ _ {s with heap:=((s.heap.push (seqObj "list" #[] 0)).update s.heap.objs.size (Obj.mapSeq (· ++vs.toArray))).push (seqObj "list" vs.toArray 0)};rw[hsz];refine A0 (Ap (Ag DF ⟨_,Ji,rfl⟩ DE (xm (s:={s with heap:=((s.heap.push (seqObj "list" #[] 0)).update s.heap.objs.size (Obj.mapSeq (· ++vs.toArray))).push (seqObj "list" vs.toArray 0)}) Ji h2 h64 (λR=>IG R _) hc λp hp=>⟨_,rfl,?_⟩) (DG _)));exact A2 ⟨_,rfl,h p hp⟩
end
section
variable{prog:KQ}{w:KS}{A:KU}{E:KN->KO->Prop}{s:KO}
theorem pJ{P:PySem.Fin->KO->Prop}(ho:s.heap.get? a=some (seqObj "list" vs.toArray n))(h2:vs.length<2)
  (h:P (.done (.ret .none)) {s with heap:=sortedHeap s.heap a vs vs.toArray}):wpAny (model prog w) A (Builtin.«list.sort» ⟨[.ref a],[]⟩) P E s:=by
 rw[list_sort_plain];have ha:a<s.heap.objs.size:=AD ho;refine A0 (listItems_at ho rfl ?_);refine A0 (CZ ho rfl ?_ (by rw[AA,As];lia) (AR _));obtain⟨e1,GU⟩:∃e1,(s.heap.update a (Obj.mapSeq λ_=>(#[]:Array KN))).get? a=some (seqObj "list" #[] e1):=⟨_,CW ho (λ_=> #[])⟩;refine A0 (seqEpoch_at GU rfl ?_);refine A0 (wpAny_newTuple ?_ (by show vs.length<=_;rw[As];lia));refine A0 (Cg ?_ (AR _));refine Ap ?_;have HY:(aQ s.heap a vs).get? a=some (seqObj "list" #[] e1):=by
  rw[B1 _ _ _ (by rw[Bb,Ax];exact AE (Ab ha)),B1 _ _ _ (by rw[Ax];exact AE ha)];exact GU
 show wpAny (model prog w) A _ P E {s with heap:=aQ s.heap a vs};dsimp only;have Ix:vs.toArray.size<2:=by rw[AA];lia
 rw[A9 Ix,A9 Ix];refine A0 (A2 ?_);rw[StateT.run_pure];refine A0 (A2 ?_);dsimp only;have eo:(vs.toArray.zip vs.toArray).map (·.2)=vs.toArray:=by
  refine Array.ext (by simp) λi h1 h2=>?_;simp
 refine A0 (seqEpoch_at HY rfl ?_);rw[eo];refine A0 (CZ HY rfl ?_ (AR _) (by rw[AA,As];lia));simp only[Ch,AI,At];exact A2 h
theorem pK{Q:KN->KO->Prop}(hl:s.heap.IsList l vs.toArray)(h2:vs.length<2)
  (h:Q (.ref (s.heap.objs.size+1)) {s with heap:=sortedAll s.heap vs vs.toArray}):wpAny (model prog w) A (call (.builtin "sorted") [.ref l]) Q E s:=by
 refine Cd kind_sorted plain_sorted entry_sorted (args_sorted1 _) ?_;unfold Builtin.«sorted»;refine A0 (m:=checkCount "sorted" 1 1 _) (A2 ?_);refine A0 (collect_list hl ?_ (by rw[As];lia));refine A0 (Cg ?_ (by rw[As];lia));have hsz:((s.heap.push (seqObj "list" #[] 0)).update s.heap.objs.size (Obj.mapSeq (· ++vs.toArray))).objs.size=s.heap.objs.size+1:=by
  rw[Ax,Bb]
 have Ji:(((s.heap.push (seqObj "list" #[] 0)).update s.heap.objs.size (Obj.mapSeq (· ++vs.toArray))).push (seqObj "list" vs.toArray 0)).get? (s.heap.objs.size+1)=some (seqObj "list" vs.toArray 0):=by
  rw[<-hsz];exact AC _ rfl
 show wpAny _ _ _ _ _ {s with heap:=((s.heap.push (seqObj "list" #[] 0)).update s.heap.objs.size (Obj.mapSeq (· ++vs.toArray))).push (seqObj "list" vs.toArray 0)};rw[hsz];refine A0 (Ap (Ag DF ⟨_,Ji,rfl⟩ DE (pJ (s:={s with heap:=((s.heap.push (seqObj "list" #[] 0)).update s.heap.objs.size (Obj.mapSeq (· ++vs.toArray))).push (seqObj "list" vs.toArray 0)}) Ji h2 ⟨_,rfl,?_⟩) (DG _)));exact A2 ⟨_,rfl,h⟩
end
section
variable{X:Cx}
theorem jc{rs:KW V}{Gq:KW KN}(r:ao rs Gq):∀(l:KW Nat),(∀i∈l,i<rs.length)->ao (l.map λi=>rs.getD i .non) (l.map λi=>Gq.getD i .none)
 |[],_=>.nil
 |i::l,h=>by
  have hi:i<rs.length:=h i (by simp);have e:rs[i]? =some rs[i]:=A1 hi;obtain⟨u,hu,ru⟩:=r.get e;rw[AM,AM];refine .cons ?_ (jc r l λj hj=>h j (by simp[hj]));rw[List.getD,List.getD,e,hu];exact ru
end
def cx(fin:Bool):KW Int->KW Int->Bool
 |x::xs,y::ys=>if x=y then cx fin xs ys else decide (x<y)
 |_,_=>fin
def ltI(xs ys:KW Int):Bool:=cx (decide (xs.length<ys.length)) xs ys
section
variable{prog:KQ}{w:KS}{A:KU}{E:KN->KO->Prop}{s:KO}
theorem pM{fin:Bool}{Q:Bool->KO->Prop}:∀{xs ys:KW Int}{is js:KW KN} (i:Nat),ao (xs.map V.int) is->ao (ys.map V.int) js->Q (cx fin xs ys) s->KatLex prog w A true fin Q (is.zip js) i s
 |[],ys,is,js,i,h1,h2,q=>by
  cases h1;rw[List.zip_nil_left];exact kat_nil (by cases ys<;>exact q)
 |x::xs,[],is,js,i,h1,h2,q=>by
  cases h2;rw[List.zip_nil_right];exact kat_nil q
 |x::xs,y::ys,is,js,i,h1,h2,q=>by
  cases h1 with
  |cons r1 h1=>
  cases h2 with
  |cons r2 h2=>
  obtain⟨t,rfl⟩:=r1;obtain⟨t',rfl⟩:=r2;rw[List.zip_cons_cons];refine kat_cons ?_;refine wpAny_eqBool_int ?_;unfold cx at q;by_cases e:x=y
  .rw[A9 e] at q;rw[show(x==y)=true by simp[e]];exact kat_yes (pM (i+1) h1 h2 q)
  .rw[A6 e] at q;rw[show(x==y)=false by simp[e]];refine kat_no ?_;cases hb:(true&&i==0) with
   |true=>exact oneLt_int q
   |false=>exact kat_one _ _ (SeqAt.LtAt.int_int x t y t' prog w _ _ q)
end
theorem pN(xss:KW (KW Int)):(List.range xss.length).map (λi=>xss.getD i [])=xss:=by
 refine Cv (by simp) λi h1 h2=>?_;simp[List.getD,h2]
theorem lR{H:Hp}{xss:KW (KW Int)}{rs:KW V}(h:Iss H (xss.map tI) rs):∀(l:KW Nat),(∀i∈l,i<xss.length)->Iss H ((l.map λi=>xss.getD i []).map tI) (l.map λi=>rs.getD i .non)
 |[],_=>rfl
 |i::l,hl=>by
  have hi:i<xss.length:=hl i (by simp);have hr:i<rs.length:=by rw[h.length,A3];exact hi
  refine⟨_,_,rfl,?_,lR h l λj hj=>hl j (by simp[hj])⟩;obtain⟨d,hd,h1⟩:=h.of_get (A1 hr);rw[AF,A1 hi] at hd;cases hd;show Is H (tI (xss.getD i [])) (rs.getD i .non);rw[A7,A7,A1 hi,A1 hr];exact h1
section
variable{X:Cx}{Gn:KW (KP×Obj)}{σ:St}{H:Hp}{s:KO}
theorem lS(I:Inv X Gn σ H s):∀{xss:KW (KW Int)}{rs:KW V}{Gq:KW KN},Iss H (xss.map tI) rs->ao rs Gq->(∀xs∈xss,xs≠[])->∃fs:KW KN,KatTups s.heap Gq fs/\fs.length=Gq.length/\∀f∈fs,∃z t,f=Value.int z t
 |[],rs,Gq,h,r,_=>by
  obtain rfl:rs=[]:=h;cases r;exact⟨[],KatTups.nil,rfl,λ_ h=>nomatch h⟩
 |xs::xss,rs,Gq,h,r,Hi=>by
  obtain⟨u,us,rfl,h1,h2⟩:=h;cases r with
  |cons r1 r2=>
  rename_i v Gq;obtain⟨fs,k1,k2,k3⟩:=lS I h2 r2 λys hy=>Hi ys (by simp[hy]);obtain⟨a,rfl,ha⟩:=eM h1;obtain rfl:v=Value.ref a:=r1;obtain⟨is,q1,q2,q3⟩:=I.tuple (SqT.of (K:=X.K) ha);obtain⟨o,ho,hc,n,hd⟩:=(show s.heap.IsTuple a is.toArray from q2)
  match xs,Hi xs (by simp) with
  |x::xs',_=>
  cases q1 with
  |cons q0 q1=>
  obtain⟨t,rfl⟩:=q0;refine⟨.int x t::fs,KatTups.cons ho hc hd (by simp) k1,by simp[k2],λf hf=>?_⟩;rcases AH.mp hf with rfl|hf
  .exact⟨_,_,rfl⟩
  .exact k3 f hf
theorem pO(I:Inv X Gn σ H s){ys:KW Int}(h1:SqT X.K H a (xs.map V.int))(h2:SqT X.K H b (ys.map V.int))(q:Q (ltI xs ys) s):
  wpAny (model prog w) A (keyLt' (tuples' true) (.ref a) (.ref b)) Q E s:=by
 obtain⟨is,r1,p1,z1⟩:=I.tuple h1;obtain⟨js,r2,p2,z2⟩:=I.tuple h2;obtain⟨o1,GU,JP,n1,Jl⟩:=(show s.heap.IsTuple a is.toArray from p1);obtain⟨o2,G9,HM,n2,G4⟩:=(show s.heap.IsTuple b js.toArray from p2);refine kat_lt GU Jl G9 G4 ?_;have l1:is.toArray.size=xs.length:=by have:=r1.length;simp at this⊢;lia
 have l2:js.toArray.size=ys.length:=by have:=r2.length;simp at this⊢;lia
 rw[l1,l2];exact pM 0 r1 r2 q
end
def jd(v:KN)(k:Int):Bool:=match v with
 |.int i _=>decide (i=k)
 |_=>false
def dX:KW DictEntry->KW (Int×Int)->Bool
 |[],[]=>true
 |e::es,p::Gp=>jd e.key p.1&&decide (e.hash=hashInt p.1)&&jd e.val p.2&&dX es Gp
 |_,_=>false
def pP(o:Obj)(Gp:KW (Int×Int)):Bool:=match o.cls,o.dict,o.data with
 |.type c,none,.dict es _=>c=="dict"&&o.slots.isEmpty&&dX es.toList Gp
 |_,_,_=>false
def eN(K:W.Frag)(a:KP)(Gp:KW (Int×Int)):Bool:=match K.lookup a with
 |some o=>pP o Gp
 |none=>false
theorem pQ{v:KN}{k:Int}(h:jd v k=true):∃t,v=.int k t:=by
 unfold jd at h;split at h
 .rename_i i t;exact⟨t,by rw[Au h]⟩
 .cases h
theorem pR{e:DictEntry}{es:KW DictEntry}{p:Int×Int}{Gp:KW (Int×Int)}(h:dX (e::es) (p::Gp)=true):(∃t,e.key=.int p.1 t)/\e.hash=hashInt p.1/\(∃t,e.val=.int p.2 t)/\dX es Gp=true:=by
 unfold dX at h;rw[AB,AB,AB] at h;exact⟨pQ h.1.1.1,Au h.1.1.2,pQ h.1.2,h.2⟩
theorem pS:∀{es:KW DictEntry}{Gp:KW (Int×Int)},dX es Gp=true->∀e∈es,∃k,Value.isInt k e.key=true/\e.hash=hashInt k
 |[],_,_,e,he=>nomatch he
 |e::es,[],h,_,_=>by unfold dX at h;cases h
 |e::es,p::Gp,h,e',he=>by
  obtain⟨⟨t,h1⟩,h2,_,h4⟩:=pR h;rcases AH.mp he with rfl|he
  .exact⟨p.1,by rw[h1];simp[Value.isInt],h2⟩
  .exact pS h4 e' he
theorem pT{k v:Int}:∀{es:KW DictEntry}{Gp:KW (Int×Int)},dX es Gp=true->Gp.lookup k=some v->∃t,(es.find? λe=>Value.isInt k e.key).map (·.val)=some (.int v t)
 |_,[],_,hv=>nomatch hv
 |[],p::Gp,h,_=>by unfold dX at h;cases h
 |e::es,p::Gp,h,hv=>by
  obtain⟨⟨t,h1⟩,h2,⟨u,h3⟩,h4⟩:=pR h;rw[BY] at hv;rw[BV];by_cases q:k=p.1
  .have b:(k==p.1)=true:=by simp[q]
   rw[b] at hv;have hv':p.2=v:=AL hv;have i:Value.isInt k e.key=true:=by rw[h1,q];simp[Value.isInt]
   rw[i];exact⟨u,by rw[<-hv',<-h3];rfl⟩
  .have b:(k==p.1)=false:=by simp[q]
   rw[b] at hv;have i:Value.isInt k e.key=false:=by rw[h1];simp[Value.isInt];exact λz=>q z.symm
   rw[i];exact pT h4 hv
inductive tDGetM_(K:W.Frag)(Q:VK)(x:V)(y:V)(H2:Hp):Prop
 |mk a Gp k v:x=.ref a->eN K a Gp=true->y=.int k->Gp.lookup k=some v->Q (.int v) H2->tDGetM_ K Q x y H2
def xo(K:W.Frag)(td ty:TE):TE:=λσ H Q=>td σ H λx H1=>ty σ H1 λy H2=>tDGetM_ K Q x y H2
theorem pU{X:Cx}{o i:KY}{pos:Pos}{td ty:TE}(ho:PE X o td)(hi:PE X i ty)(hs:iQ i):PE X (.Subscript o i pos) (xo X.K td ty):=by
 intro Gn s σ H Q I h;refine lz PySem.F.slot_dict_getitem.lookup hs (thn (ho Gn s σ H _ I h) λu s1 zu63=>?_);obtain⟨x,H1,I1,rx,q1⟩:=zu63;refine thn (hi Gn s1 σ H1 _ I1 q1) λiv s2 zu64=>?_;obtain⟨y,H2,I2,ry,a,Gp,k,v,ex,hd,ey,hv,q2⟩:=zu64;subst ex ey;obtain rfl:u=Value.ref a:=rx;obtain⟨t,rfl⟩:=ry;unfold eN at hd;split at hd
 .rename_i ob hob;have hg:=I2.kIn a ob hob;unfold pP at hd;split at hd
  .rename_i c es ep hc HR Ij;rw[AB,AB] at hd;obtain⟨⟨d1,d2⟩,d3⟩:=hd;have Ka:ob.cls=.type "dict":=by rw[hc,eq_of_beq d1]
   obtain⟨t',ht⟩:=pT d3 hv;have mp:s2.heap.MapOf (intKind X.prog X.w) a (findBy Value.isInt es):=⟨ob,es,ep,hg,⟨Ka,HR,Array.isEmpty_iff.mp d2⟩,Ij,λe he=>pS d3 e (by simpa using he),λ_=>rfl⟩;refine⟨⟨ob,hg,Ka⟩,wpAny_getItem_of (knd:=intKind X.prog X.w) (k:=k) (by simp[intKind,Value.isInt]) mp (v:= .int v t') ?_ ⟨.int v,H2,I2.tok _,⟨_,rfl⟩,q2⟩⟩;show findBy Value.isInt es k=_;unfold findBy;obtain⟨l⟩:=es;simpa using ht
  .cases hd
 .cases hd
def xp(K:W.Frag)(H:Hp)(n:Nat)(xs:KW V)(x:V)(es:Nat->Bool):Prop:=n<=8/\(∀(j:Nat) z,xs[j]? =some z->(∃a,z=.ref a)/\EqR K H n z x (es j))/\∀(i j:Nat) z,xs[i]? =some z->xs[j]? =some z->es i=es j
section
variable{X:Cx}{Gn:KW (KP×Obj)}{σ:St}{H:Hp}{s:KO}
open Classical in
noncomputable def eO(Gq:KW KN)(es:Nat->Bool)(u:KN):Bool:=decide (∃j:Nat,Gq[j]? =some u/\es j=true)
end
structure FnOkS(P:KQ)(w:KS)(K:W.Frag)(mg:Str->K0 KN)(base:KZ)(k:Nat)(f:KP)(fd:KR)(ps:KW Str)(sp:Sp):Prop where
 len:∀vs H Q E,sp vs H Q E->vs.length=ps.length
 run:∀(A:Around) (e:Addr) (outer:List Env) (s:Shared) (H:Hp) (args:Args) (us:List Value) (vs:List V) (Q:VK) (E:XK),Room k A->Env0 P w K mg base (A.mark (some (.ref e))) outer s H->BindsTo s fd args (ps.zip us)->ao vs us->sp vs H Q E->
  codeAny (model P w) (A.mark (some (.ref e))) (.call (.ref f) args) (CR CX0 outer P w H s Q E) s
theorem Fun.okS{P:KQ}{K:W.Frag}{mg:Str->K0 KN}{base:KZ}{x Gs:Str}{st:K1}{f:KP}{fd:KR}{N ps:KW Str}{sp:Sp}(F:Fun K x Gs st f fd)(S:FnScope N ps (ak st))(len:∀vs H Q E,sp vs H Q E->vs.length=ps.length)
  (GI:∀(Gu:KN) (A:KU) (outer:KW Env) (s:KO) (H:Hp) (vs:KW V) (Q:VK) (E:XK) (e:KP),Room k (A.deeper (envOfC Gs (ak st) s.heap.objs.size f Gu))->sp vs H Q E->
   ∃t,PSs ((bC CX0 P w K mg base N Gs (ak st) f Gu A outer s H E).inSuite e) (av st) t/\t {nx:=λ_ H'=>Q .non H',rt:=Q} (start N vs) H):FnOkS P w K mg base (k+1) f fd ps sp:=by
 obtain⟨oc,od,kV,Hl,pm,an,Gu,ct,IL,rfl,lk,G6⟩:=F.ex;refine⟨len,λA e outer s H args us vs Q E hr e0 hb r HK=>?_⟩;have hl:=len _ _ _ _ HK;have KX:K.In s.heap:=e0.mod.kin.keeps λb o q=>(e0.bs b o q).1;have lim:s.heap.NoLimit:=e0.mod.nolimit.keeps λb o q=>(e0.bs b o q).1;have GE:∀y∈ps.zip us,(ak st).names.lookup y.1=some .local\/((ak st).names.lookup y.1=some .cell/\((cellsFrom (s.heap.objs.size+1) (ak st).names []).lookup y.1).isSome=true):=λHv hy=>by
  obtain⟨n,v⟩:=Hv;rcases S.par n (List.of_mem_zip hy).1 with q|q
  .exact .inl q
  .exact .inr ⟨q,W.cellsFrom_some _ _ _ (.inl q)⟩
 have e0':Env0 P w K mg base A outer s H:=⟨e0.frames,e0.mod,e0.bs,e0.bsz,e0.funs,e0.frf,e0.hok,e0.bare⟩;refine codeAny_call_function (A:=A.mark (some (.ref e))) hr.depth (KX _ _ lk) rfl S.co S.gen rfl (W.codeRec_of KX G6) (hb _ _ _ _ ?_);refine wpAny_newFunctionEnv_cells S.kind GE λenv he s1 x=>?_;subst he;refine⟨lim.keeps x.toInCall.keep,codeAny_func ?_⟩;obtain⟨t,ht,hq⟩:=GI Gu A outer s H vs Q E e (hr.deeper _) HK;have I:Inv ((bC CX0 P w K mg base N Gs (ak st) f Gu A outer s H E).inSuite e) [] (start N vs) H s1:=(oC S hr.hd e0' hl r x).toSuite;refine BD (ht [] s1 (start N vs) H _ I hq) (λfl s' hs=>?_) λe s' hs=>hs.elim;have fin:∀{σ':St}{H':Hp}{v:V}{u:KN},Inv ((bC CX0 P w K mg base N Gs (ak st) f Gu A outer s H E).inSuite e) [] σ' H' s'->ar v u->Q v H'->CE outer P w H s Q u s':=
  fun{σ' H' v u} J rv q=>⟨v,H',J.os,J.bare,J.base,J.hok,rv,q⟩
 cases fl with
 |ret u=>
  obtain⟨v,σ',H',J,rv,q⟩:=hs;exact fin J rv q
 |next=>
  obtain⟨σ',H',J,q⟩:=hs;exact fin (v:=V.non) (u:=Value.none) J rfl q
 |brk=>
  obtain⟨_,_,_,q⟩:=hs;exact False.elim q
 |cont=>
  obtain⟨_,_,_,q⟩:=hs;exact False.elim q
section
variable{X:Cx}{k:Nat}{f ea:KP}{fd:KR}{ps:KW Str}{sp:Sp}{x:Str}{p pos:Pos}{e:KY}{es:KW KY}{t:TA}
theorem xq(F:FnOkS X.prog X.w X.K X.mg X.base k f fd ps sp)(hr:Room k X.A)(hg:Gl (X.inSuite ea) x)(hm:X.mg x=some (.ref f))(hk:W.keepIn X.K (.ref f)=true)(hb:cL X.K fd ps [])
  (ha:PA (X.inSuite ea) (e::es) t) (Ie:(x==("__debug__":Str))=false:=by decide) (he:starEach (e::es) X.env=(false,eval e X.env)::starEach es X.env:=by rfl) (G5:(backTo pos (starEach es X.env)).any (·.1)=false:=by rfl):
  PE (X.inSuite ea) (.Call (.Name x p) (e::es) [] pos) (ll sp [] E0 t):=by
 intro Gn s σ H Q I h;refine BH (fV I hg hm ?_ Ie);refine D9 (h₀:=X.base) I.ok.mod.kin hk (thn (ha pos Gn s σ H _ I h) λus s1 zu65=>?_) he G5;obtain⟨vs,H1,I1,r,q⟩:=zu65;refine⟨I1.kIn,?_⟩;have q:sp (vs++[]) H1 Q E0:=q;rw[BW] at q;have hl:us.length=ps.length:=by rw[<-r.length];exact F.len _ _ _ _ q
 have Iz:=hb s1 us I1.kIn (by rw[BW];exact hl);rw[BW] at Iz;refine wpAny_call (CD (F.run X.A ea X.stack s1 H1 ⟨us,[]⟩ us vs Q E0 hr I1.env0 Iz r q) λr s' hq=>?_);cases r with
 |error e=>exact hq.elim
 |ok fl=>
  cases fl with
  |ret u=>exact I1.after hq
  |next=>exact False.elim hq
  |brk=>exact False.elim hq
  |cont=>exact False.elim hq
end
def Ask(K:W.Frag)(H:Hp)(x y:V)(b:Bool):Prop:=∃(a1 a2:KP) (xs ys:KW V) (d:Nat) (es fs:Nat->Bool),x=.ref a1/\y=.ref a2/\SqL K H a1 xs/\SqL K H a2 ys/\d<=4/\
 (∀(j:Nat) x y,xs[j]? =some x->ys[j]? =some y->EqR K H d x y (es j))/\(∀(j:Nat) x y,xs[j]? =some x->ys[j]? =some y->es j=false->LtR K H d x y (fs j))/\b=SeqAt.lex es fs xs.length ys.length (min xs.length ys.length) 0
inductive rSortedP(K:W.Frag)(vs:List V)(H:Hp)(Q:VK):Prop
 |mk (l:Addr) (rs:List V):vs=[.ref l]->SqL K H l rs->rs.length<64->((∀r∈rs,∃a ys,r=.ref a/\SqL K H a ys))->((∀x∈rs,∀y∈rs,∃b,Ask K H x y b))->(∀(p:List Nat) q,p.Perm (List.range rs.length)->H q=none->Q (.ref q) (upd H q (.lst (p.map λi=>rs.getD i .non))))->rSortedP K vs H Q
section
variable{X:Cx}
theorem xr(hr:Room k X.A):bB X (.builtin "sorted") (rSortedP X.K):=by
 intro Gn s σ H xs us Q I r h;obtain⟨l,rs,rfl,hq,h64,hty,hask,q⟩:=h;obtain⟨u,rfl,rx⟩:=cP r;cases rx;obtain⟨Gq,r',pl,hz⟩:=I.list hq;have ln:=r'.length;have hu:=hr.un;by_cases h2:rs.length<2
 .refine pK (vs:=Gq) pl.isList (by lia) ?_;obtain⟨e,he⟩:=sortedAll_at s.heap Gq Gq.toArray;have fr:=I.hok.fresh (a:=s.heap.objs.size+1) (Bj _);have er:(List.range rs.length).map (λi=>rs.getD i .non)=rs:=by
   refine Cv (by simp) λi h1 h2=>?_;simp[List.getD,h2]
  have:=q (List.range rs.length) (s.heap.objs.size+1) (List.Perm.refl _) fr;rw[er] at this;exact⟨.ref (s.heap.objs.size+1),_,I.laid (t':=s.toks) (λ_ _=>sortedAll_old) (Bj _) (show aC X.prog X.w _ _ _ (.lst rs) from⟨hz,Gq,e,r',he⟩),rfl,this⟩
 .have I2:Inv X Gn σ H {s with heap:=dn s.heap Gq}:=I.kept (t':=s.toks) λb o e=>pI e;have g:∀i,i<Gq.length->∃x∈rs,ar x (Gq.getD i .none):=λi h=>by
   have hr:i<rs.length:=by lia
   obtain⟨u,Hq,ru⟩:=r'.get (A1 hr);exact⟨rs[i],List.getElem_mem hr,by rw[A7,Hq];exact ru⟩
  refine xn (kd:=oneType') (vs:=Gq) pl.isList (by lia) (by lia) (λR E hR=>kas_kind (T:= .type "list") (by lia) (λv hv=>?_) rfl rfl hR) (λi j HB hj'=>?_) λp ho=>?_
  .obtain⟨i,hi,rfl⟩:=Bu.mp hv;have HB:i<rs.length:=by lia
   obtain⟨a,ys,e1,hy⟩:=hty rs[i] (List.getElem_mem HB);obtain⟨u,Hq,ru⟩:=r'.get (A1 HB);rw[A1 hi] at Hq;rw[e1] at ru;obtain rfl:u=Value.ref a:=ru;rw[AL Hq];obtain⟨js,r2,p2,z2⟩:=I2.list hy;obtain⟨o,ho,hc,_⟩:=p2.isList;exact hc▸(Looks.ld ho).andThen .now
  .obtain⟨x,hx,rx⟩:=g i HB;obtain⟨y,hy,ry⟩:=g j hj';obtain⟨b,a1,a2,xs,ys,d,es,fs,rfl,rfl,h1,h2,hd,he,hf,eb⟩:=hask x hx y hy;refine⟨b,λC hC=>?_⟩;have e1:Gq.getD i .none=Value.ref a1:=rx;have e2:Gq.getD j .none=Value.ref a2:=ry;rw[e1,e2];rw[eb] at hC;exact LtR.key I2 h1 h2 he hf (by rw[di,di];lia) hC
  .have Hk:Ord rs.length p:=by rw[ln];exact ho
   obtain⟨e,he⟩:=sortedAll_at s.heap Gq (p.map λi=>Gq.getD i .none);have en:(p.map λi=>Gq.getD i .none)=List.toArray (p.toList.map λi=>Gq.getD i .none):=by
    apply Array.toList_inj.mp;simp
   rw[en] at he⊢;have fr:=I.hok.fresh (a:=s.heap.objs.size+1) (Bj _);have pp:p.toList.Perm (List.range rs.length):=Bm.mp Hk;refine⟨.ref (s.heap.objs.size+1),_,I.laid (t':=s.toks) (λ_ _=>sortedAll_old) (Bj _) (show aC X.prog X.w _ _ _ (.lst (p.toList.map λi=>rs.getD i .non)) from⟨?_,_,e,jc r' p.toList (λi hi=>Hk.lt hi),he⟩),rfl,q p.toList _ pp fr⟩;rw[A3,AV,As,Hk.size];lia
end
end L2
set_option hygiene false
local macro_rules | `(tactic| walk_at "bare") => `(tactic| (unfold wpS; wp_delta; wp_delta; wp_delta; refine (show wpS _ _ _ _ _ _ _ from ?_)))
local macro_rules | `(tactic| walk_at "tw") => `(tactic| first
 |with_reducible refine Ba (told_elemP (by assumption) ?_)
 |with_reducible refine Ba (told_ltP (by assumption) (by assumption) (by assumption) ?_)
 |with_reducible refine Ba (told_galP (by assumption) (by assumption) (by assumption) ?_)
 |with_reducible refine Ba (setG_P ?_)
 |rw[A9 (by assumption)]
 |rw[A6 (by assumption)]
 |exact D0 (by assumption)
 |dsimp only)
local macro_rules | `(tactic| walk_at "tw_all") => `(tactic| (
 repeat' (first|(rw[Ay] at hs;obtain⟨_,_,hs⟩:=hs)|split at hs)
 all_goals
  cases hs;simp only[Option.map_some,Option.map_none,loDone_map,loLast_map,Array.map_push,Array.map_append,Array.map_extract,Array.size_map,Bh,AI,At] at hR
  repeat walk_at "tw"))
local macro_rules | `(tactic| walk_at "tw_hi") => `(tactic| (
 repeat' (first|(rw[Ay] at hs;obtain⟨_,_,hs⟩:=hs)|split at hs)
 all_goals
  cases hs;simp only[Option.map_some,Option.map_none,hiDone_map,hiFirst_map,Array.map_push,Array.map_append,Array.map_extract,Array.map_reverse,Array.size_map,Bh,AI,At] at hR
  repeat walk_at "tw"))
local macro_rules | `(tactic| walk_at "tw_asc") => `(tactic| (
 refine Ba (wpS_iter (γ:=Nat) (step:=cAsc c _ l) (λm=>(none,m)) (λ_=>sst kd item _ pd g) (λx m r hs R hR=>?_) hz ?_)
 .obtain⟨q,hq1,rfl⟩:=AY.mp hs;refine Ba (told_at hc hq1 ?_);cases q<;>exact D0 hR))
local macro_rules | `(tactic| walk_at "tw_down") => `(tactic| (
 refine Ba (wpS_lift (wpAny_rule ⟨rfl,?_⟩));obtain⟨t,h1,h2⟩:=Ay.mp h;refine Ba (wpS_iter (γ:=Array Nat×Nat×Nat) (step:=cDesc c l) (λt=>(none,t.2.1,t.2.2)) (λt=>sst kd item t.1 pd g) (λx t r hs R hR=>?_) h1 ?_)
 .unfold cDesc at hs;obtain⟨q,hq1,hs⟩:=Ay.mp hs;refine Ba (told_at hc hq1 ?_);cases q with
  |true=>
   dsimp only;rw[A9 rfl] at hs⊢;split at hs
   .rename_i z;rw[A9 z];cases hs;exact Ba (told_rev (D0 hR))
   .rename_i z;rw[A6 z];cases hs;exact D0 hR
  |false=>
   dsimp only;rw[A6 (by simp)] at hs⊢;obtain⟨r,hr1,hs⟩:=Ay.mp hs;refine Ba (told_at hc hr1 ?_);cases r<;>(cases hs;exact D0 hR)
 .dsimp only;split at h2
  .rename_i z;rw[A9 z];refine Ba (told_rev ?_);refine Ba (told_rev ?_);obtain⟨k2,h3,h4⟩:=AY.mp h2;cases h4;have hz:=h3
   walk_at "tw_asc"
   exact D0 hq
  .rename_i z;rw[A6 z];refine Ba (told_rev ?_);obtain⟨k2,h3,h4⟩:=AY.mp h2;cases h4;have hz:=h3
   walk_at "tw_asc"
   exact D0 hq))
local macro_rules | `(tactic| walk_at "tw_push") => `(tactic| (
 unfold sPush at hs;refine Ba (wpS_get ?_);try dsimp only at hs⊢
 split at hs
 .rename_i u hu;rw[hu];try dsimp only
  obtain⟨t',ht,hs⟩:=Ay.mp hs;cases hs;refine Ba (wpS_iter (γ:=Ts) (step:=sCol c _) (λ_=>(none,())) (λt=>sst kd item t.1 t.2.1 t.2.2) (λx t r hs R hR=>?_) (a:=0) ht ?_)
  .unfold sCol at hs;refine Ba (wpS_get ?_);try dsimp only
   split at hs
   .rename_i v hv;rw[hv];try dsimp only
    split at hs
    .rename_i z;rw[A9 z];cases hs;exact D0 hR
    .rename_i z;rw[A6 z];obtain⟨t',hm,hs⟩:=Ay.mp hs;cases hs;exact Ba (told_mAt hc hm (D0 hR))
   .rename_i hv;rw[hv];cases hs;exact D0 hR
  .try dsimp only
   exact Ba (wpS_modify (Ba (wpS_modify (D0 hR))))
 .rename_i hu;rw[hu];cases hs;exact Ba (wpS_modify (D0 hR))))
set_option hygiene true
namespace L2
open PySem PyProof.Rows
variable{i j m n:Nat}{p:Array Nat}{vs:KW KN}{xss:KW (KW Int)}
def aB{γ:Type}(step:γ->K0 (Bool×γ)):Nat->γ->K0 γ
 |0,g=>some g
 |f+1,g=>(step g).bind λr=>if r.1=true then some r.2 else aB step f r.2
section
variable{prog:KQ}{w:KS}{A:KU}{E:KN->KO->Prop}{s:KO}{item:Nat->Keyed}{c:Nat->Nat->K0 Bool}{kd:SortKind}
def lT(kd:SortKind)(prog:KQ)(w:KS)(A:KU)(s:KO)(item:Nat->Keyed)(c:Nat->Nat->K0 Bool):Prop:=
 ∀i j b,c i j=some b->∀Q:Bool->KO->Prop,Q b s->wpAny (model prog w) A (keyLt' kd (item i).1 (item j).1) Q (λ_ _=>False) s
def je(c:Nat->Nat->K0 Bool)(left:Bool)(key:Nat)(arr:Array Nat)(i:Nat):K0 Bool:=arr[i]?.bind λx=>if left=true then c x key else(c key x).map (!·)
def gUp(b:Nat->K0 Bool)(m:Nat)(g:Nat×Nat):K0 (Bool×Nat×Nat):=if g.2>=m then some (true,g) else(b g.2).map λy=>if y=true then(false,g.2,2*g.2+1) else(true,g)
def gDn(b:Nat->K0 Bool)(m:Nat)(g:Nat×Nat):K0 (Bool×Nat×Nat):=if g.2>=m then some (true,g) else(b g.2).map λy=>if y=true then(true,g) else(false,g.2,2*g.2+1)
def xt(b:Nat->K0 Bool)(g:Nat×Nat):K0 (Bool×Nat×Nat):=
 if g.1>=g.2 then some (true,g) else(b (g.1+(g.2-g.1)/2)).map λy=>if y=true then(false,g.1+(g.2-g.1)/2+1,g.2) else(false,g.1,g.1+(g.2-g.1)/2)
def gal(c:Nat->Nat->K0 Bool)(left:Bool)(key:Nat)(arr:Array Nat)(base n Hd:Nat):K0 Nat:=
 (je c left key arr (base+Hd)).bind λright=>
  (if right=true then(aB (gUp (λo=>je c left key arr (base+(Hd+o))) (n-Hd)) n (0,1)).map λg=>(Hd+g.1+1,Hd+min g.2 (n-Hd))
   else(aB (gDn (λo=>je c left key arr (base+(Hd-o))) (Hd+1)) n (0,1)).map λg=>(Hd+1-min g.2 (Hd+1),Hd-g.1)).bind λlh=>
   (aB (xt λi=>je c left key arr (base+i)) n lh).map (·.2)
abbrev G1:=K0 (Array Nat)×Array Nat×Nat×Nat×Nat×Nat
abbrev G0:=(K0 (Array Nat)×Array Nat×Nat×Nat×Nat)×Nat
end
section
variable{prog:KQ}{w:KS}{A:KU}{E:KN->KO->Prop}{s:KO}{item:Nat->Keyed}{c:Nat->Nat->K0 Bool}{kd:SortKind}
def jf(a b Gw:Array Nat)(na nb:Nat):Array Nat:=a.extract 0 na++b.extract 0 nb++Gw.reverse
def lU(a b Gw:Array Nat)(na nb:Nat):Array Nat:=b.extract 0 nb++a.extract 0 na++Gw.reverse
abbrev H1:=K0 (Array Nat)×Nat×Nat×Array Nat×Nat×Nat
abbrev H3:=(K0 (Array Nat)×Nat×Nat×Array Nat×Nat×Nat×Nat)×Nat
abbrev H0:=(K0 (Array Nat)×Nat×Nat×Array Nat×Nat)×Nat
def hi1(c:Nat->Nat->K0 Bool)(a b:Array Nat)(mg:Nat)(g:H1):K0 (Bool×H1):=
 b[g.2.2.1-1]?.bind λy=>a[g.2.1-1]?.bind λx=>(c y x).bind λq=>
  if q=true then
   if(g.2.1-1==0)=true then some (true,some (jf a b (g.2.2.2.1.push x) (g.2.1-1) g.2.2.1),g.2.1-1,g.2.2.1,g.2.2.2.1.push x,g.2.2.2.2.1+1,0)
   else if g.2.2.2.2.1+1>=mg then some (true,none,g.2.1-1,g.2.2.1,g.2.2.2.1.push x,g.2.2.2.2.1+1,0)
   else some (false,none,g.2.1-1,g.2.2.1,g.2.2.2.1.push x,g.2.2.2.2.1+1,0)
  else
   if(g.2.2.1-1==1)=true then some (true,some (lU a b (g.2.2.2.1.push y) g.2.1 (g.2.2.1-1)),g.2.1,g.2.2.1-1,g.2.2.2.1.push y,0,g.2.2.2.2.2+1)
   else if g.2.2.2.2.2+1>=mg then some (true,none,g.2.1,g.2.2.1-1,g.2.2.2.1.push y,0,g.2.2.2.2.2+1)
   else some (false,none,g.2.1,g.2.2.1-1,g.2.2.2.1.push y,0,g.2.2.2.2.2+1)
def pV(a b Gw:Array Nat)(x na nb mg k k2:Nat):K0 (Bool×H3):=
  if(na-1==0)=true then some (true,(some (jf a b (Gw.push x) (na-1) nb),na-1,nb,Gw.push x,mg,k,k2),mg)
  else if(decide (k<7)&&decide (k2<7))=true then some (true,(none,na-1,nb,Gw.push x,mg,k,k2),mg)
  else some (false,(none,na-1,nb,Gw.push x,mg,k,k2),mg)
def pW(c:Nat->Nat->K0 Bool)(a b Gw:Array Nat)(y na nb mg k bc:Nat):K0 (Bool×H3):=
  if(nb-1==1)=true then some (true,(some (lU a b (Gw.push y) na (nb-1)),na,nb-1,Gw.push y,mg,k,bc),mg)
  else a[na-1]?.bind λx=>(gal c true x b 0 (nb-1) (nb-1-1)).bind λHS=>
   if nb-1-HS>0 then
    if(HS==1)=true then some (true,(some (lU a b (Gw.push y++(b.extract HS (nb-1)).reverse) na HS),na,HS,Gw.push y++(b.extract HS (nb-1)).reverse,mg,k,nb-1-HS),mg)
    else if(HS==0)=true then some (true,(some (jf a b (Gw.push y++(b.extract HS (nb-1)).reverse) na HS),na,HS,Gw.push y++(b.extract HS (nb-1)).reverse,mg,k,nb-1-HS),mg)
    else pV a b (Gw.push y++(b.extract HS (nb-1)).reverse) x na HS mg k (nb-1-HS)
   else pV a b (Gw.push y) x na (nb-1) mg k (nb-1-HS)
def pX(c:Nat->Nat->K0 Bool)(a b Gw:Array Nat)(na nb mg bc:Nat):K0 (Bool×H3):=
 b[nb-1]?.bind λy=>(gal c false y a 0 na (na-1)).bind λIR=>
  if na-IR>0 then
   if(IR==0)=true then some (true,(some (jf a b (Gw++(a.extract IR na).reverse) IR nb),IR,nb,Gw++(a.extract IR na).reverse,mg,na-IR,bc),mg)
   else pW c a b (Gw++(a.extract IR na).reverse) y IR nb mg (na-IR) bc
  else pW c a b Gw y na nb mg (na-IR) bc
def hi3(c:Nat->Nat->K0 Bool)(a b:Array Nat)(g:H3):K0 (Bool×H3):=
 if g.1.2.2.2.2.1>1 then pX c a b g.1.2.2.2.1 g.1.2.1 g.1.2.2.1 (g.1.2.2.2.2.1-1) g.1.2.2.2.2.2.2
 else pX c a b g.1.2.2.2.1 g.1.2.1 g.1.2.2.1 g.1.2.2.2.2.1 g.1.2.2.2.2.2.2
end
open PySem.Spec PySem.W
theorem pY:∀{zs:KW Str}{Gq:KW KN},ao (zs.map V.str) Gq->StrsAre Gq zs
 |[],_,.nil=>.nil
 |z::zs,_,.cons r rs=>by
  obtain⟨t,rfl⟩:=r;exact .cons _ _ (pY rs)
section
variable{X:Cx}{v:KY}{te:TE}{pos:Pos}
inductive rJoin(K:W.Frag)(o:V)(vs:List V)(H:Hp)(Q:VK):Prop
 |mk (u:Str) (p:Addr) (zs:List Str):o=.str u->vs=[.ref p]->SqL K H p (zs.map V.str)->(zs.map (·.length)).sum+zs.length*u.length<=16777216->Q (.str (Txt.join u zs)) H->rJoin K o vs H Q
theorem xu:MtR X "str.join" (rJoin X.K):=by
 intro Gn s σ H x vs v us Q I rx rv h;obtain⟨u,p,zs,rfl,rfl,hq,hz,q⟩:=h;obtain⟨t,rfl⟩:=rx;obtain⟨u2,rfl,r2⟩:=rv.one;cases r2;obtain⟨Gq,r',pl,_⟩:=I.list hq;refine join_list pl.isList (pY r') hz λt' k=>⟨.str _,H,I.tok _,⟨_,rfl⟩,q⟩
end
def aL(c:Nat->Nat->Bool){α:Type}:KasT α->α
 |.ret a=>a
 |.ask i j k=>aL c (k (c i j))
theorem gf{c:Nat->Nat->Bool}{α β:Type}{f:α->KasT β}:∀(t:KasT α),aL c (t.bind f)=aL c (f (aL c t))
 |.ret _=>rfl
 |.ask i j k=>gf (k (c i j))
structure Ordr(c:Nat->Nat->Bool):Prop where
 asym:∀a b,c a b=true->c b a=false
 tr:∀a b d,c b a=false->c d b=false->c d a=false
section
variable{c:Nat->Nat->Bool}
abbrev at0(p:Array Nat)(i:Nat):Nat:=p.getD i 0
def Up(c:Nat->Nat->Bool)(p:Array Nat)(m:Nat):Prop:=∀i j,i<j->j<m->c (at0 p j) (at0 p i)=false
def Dn(c:Nat->Nat->Bool)(p:Array Nat)(m:Nat):Prop:=∀i j,i<j->j<m->c (at0 p i) (at0 p j)=false
theorem Up.more(O:Ordr c)(h:Up c p m)(hm:0<m)(e:c (at0 p m) (at0 p (m-1))=false):Up c p (m+1):=by
 intro i j He hj;by_cases hjm:j<m
 .exact h i j He hjm
 .obtain rfl:j=m:=by lia
  by_cases hi:i=j-1
  .subst hi;exact e
  .exact O.tr _ _ _ (h i (j-1) (by lia) (by lia)) e
theorem Dn.more(O:Ordr c)(h:Dn c p m)(hm:0<m)(e:c (at0 p (m-1)) (at0 p m)=false):Dn c p (m+1):=by
 intro i j He hj;by_cases hjm:j<m
 .exact h i j He hjm
 .obtain rfl:j=m:=by lia
  by_cases hi:i=j-1
  .subst hi;exact e
  .exact O.tr _ _ _ e (h i (j-1) (by lia) (by lia))
theorem lV(O:Ordr c){p:Array Nat}:∀(f m:Nat),0<m->Up c p m->m<=aL c (kas_asc p f m)/\aL c (kas_asc p f m)<=m+f/\Up c p (aL c (kas_asc p f m))/\(aL c (kas_asc p f m)<m+f->c (at0 p (aL c (kas_asc p f m))) (at0 p (aL c (kas_asc p f m)-1))=true)
 |0,m,hm,h=>⟨A8 _,A8 _,h,λz=>absurd z (Bi _)⟩
 |f+1,m,hm,h=>by
  unfold kas_asc aL;cases e:c (p.getD m 0) (p.getD (m-1) 0) with
  |true=>
   dsimp only;rw[A9 rfl];exact⟨A8 _,by show m<=_;lia,h,λ_=>e⟩
  |false=>
   dsimp only;rw[A6 (by decide)];obtain⟨h1,h2,h3,h4⟩:=lV O f (m+1) (by lia) (h.more O hm e);exact⟨by lia,by lia,h3,λz=>h4 (by lia)⟩
theorem dC(hj:j<=p.size)(k:Nat):at0 (kas_rev p i j) k=if i<=k/\k<j then at0 p (i+j-1-k) else at0 p k:=by
 have h:=getElem?_mirror_all (xs:=p) (i:=i) hj k;have e:∀q:Array Nat,∀k,at0 q k=(q[k]?).getD 0:=λq k=>by simp[at0,Array.getD];split<;>simp[*]
 rw[e,e,e];unfold kas_rev;rw[h];split<;>rfl
def fG(p:Array Nat)(i j:Nat):(kas_rev p i j).size=p.size:=mirror_size _ _ _ _
theorem Dn.rev_all(h:Dn c p m)(hm:m<=p.size):Up c (kas_rev p 0 m) m:=by
 intro i j He hj;rw[dC hm,dC hm,A9 ⟨by lia,hj⟩,A9 ⟨by lia,by lia⟩];exact h _ _ (by lia) (by lia)
theorem Up.rev_all(h:Up c p m)(hm:m<=p.size):Dn c (kas_rev p 0 m) m:=by
 intro i j He hj;rw[dC hm,dC hm,A9 ⟨by lia,by lia⟩,A9 ⟨by lia,hj⟩];exact h _ _ (by lia) (by lia)
theorem Dn.rev_blk{q:Nat}(h:Dn c p m)(hm:m<=p.size)(hq:q+1<=m)(hb:∀i j,m-(q+1)<=i->i<m->m-(q+1)<=j->j<m->c (at0 p i) (at0 p j)=false):Dn c (kas_rev p (m-(q+1)) m) m:=by
 intro i j He hj;rw[dC hm,dC hm];by_cases h1:m-(q+1)<=i
 .rw[A9 ⟨h1,by lia⟩,A9 ⟨by lia,hj⟩];exact hb _ _ (by lia) (by lia) (by lia) (by lia)
 .rw[A6 (by lia)];by_cases h2:m-(q+1)<=j
  .rw[A9 ⟨h2,hj⟩];exact h _ _ (by lia) (by lia)
  .rw[A6 (by lia)];exact h _ _ He hj
def Blk(c:Nat->Nat->Bool)(p:Array Nat)(m q:Nat):Prop:=q+1<=m/\∀i j,m-(q+1)<=i->i<m->m-(q+1)<=j->j<m->c (at0 p i) (at0 p j)=false
theorem jg(O:Ordr c):∀(f:Nat) (p:Array Nat) (m q:Nat),m+f<=p.size->0<m->Dn c p m->Blk c p m q->∀r,r=aL c (kas_desc f p m q)->r.1.size=p.size/\m<=r.2.1/\r.2.1<=m+f/\Dn c r.1 r.2.1/\Blk c r.1 r.2.1 r.2.2
 |0,p,m,q,_,_,hd,hb,r,e=>by
  subst e;exact⟨rfl,A8 _,A8 _,hd,hb⟩
 |f+1,p,m,q,hs,hm,hd,hb,r,e=>by
  unfold kas_desc aL at e;cases e1:c (p.getD m 0) (p.getD (m-1) 0) with
  |true=>
   rw[e1] at e;dsimp only at e;rw[A9 rfl] at e;have e2:=O.asym _ _ e1;by_cases hq:q>0
   .rw[A9 hq] at e;have G4:=hd.rev_blk (by lia) hb.1 hb.2;have at_m:at0 (kas_rev p (m-(q+1)) m) m=at0 p m:=by rw[dC (by lia),A6 (by lia)]
    have at_m1:at0 (kas_rev p (m-(q+1)) m) (m-1)=at0 p (m-(q+1)+m-1-(m-1)):=by rw[dC (by lia),A9 ⟨by have:=hb.1;lia,by lia⟩]
    have e3:c (at0 (kas_rev p (m-(q+1)) m) (m-1)) (at0 (kas_rev p (m-(q+1)) m) m)=false:=by
     rw[at_m,at_m1];have b1:=hb.1;exact O.tr _ _ _ e2 (hb.2 _ (m-1) (by lia) (by lia) (by lia) (by lia))
    have IA:=G4.more O hm e3;have GY:Blk c (kas_rev p (m-(q+1)) m) (m+1) 0:=⟨by lia,λi j h1 h2 h3 h4=>by
     obtain rfl:i=m:=by lia
     obtain rfl:j=i:=by lia
     cases h:c (at0 (kas_rev p (j-(q+1)) j) j) (at0 (kas_rev p (j-(q+1)) j) j) with
     |false=>rfl
     |true=>have:=O.asym _ _ h;rw[h] at this;cases this⟩
    obtain⟨r1,r2,r3,r4,r5⟩:=jg O f _ (m+1) 0 (by rw[fG];lia) (by lia) IA GY r e;exact⟨by rw[r1,fG],by lia,by lia,r4,r5⟩
   .rw[A6 hq] at e;have IA:=hd.more O hm e2;have GY:Blk c p (m+1) 0:=⟨by lia,λi j h1 h2 h3 h4=>by
     obtain rfl:i=m:=by lia
     obtain rfl:j=i:=by lia
     cases h:c (at0 p j) (at0 p j) with
     |false=>rfl
     |true=>have:=O.asym _ _ h;rw[h] at this;cases this⟩
    obtain⟨r1,r2,r3,r4,r5⟩:=jg O f _ (m+1) 0 (by lia) (by lia) IA GY r e;exact⟨r1,by lia,by lia,r4,r5⟩
  |false=>
   rw[e1] at e;dsimp only at e;rw[A6 (by decide)] at e;unfold aL at e;cases e2:c (p.getD (m-1) 0) (p.getD m 0) with
   |true=>
    rw[e2] at e;dsimp only at e;rw[A9 rfl] at e;subst e;exact⟨rfl,A8 _,by show m<=_;lia,hd,hb⟩
   |false=>
    rw[e2] at e;dsimp only at e;rw[A6 (by decide)] at e;have IA:=hd.more O hm e2;have b1:=hb.1;have GY:Blk c p (m+1) (q+1):=⟨by lia,λi j h1 h2 h3 h4=>by
     by_cases hi:i=m
     .by_cases hj:j=m
      .subst hi;subst hj;cases h:c (at0 p j) (at0 p j) with
       |false=>rfl
       |true=>have:=O.asym _ _ h;rw[h] at this;cases this
      .subst hi;exact O.tr _ _ _ (hb.2 _ _ (by lia) (by lia) (by lia) (by lia)) e1
     .by_cases hj:j=m
      .subst hj;exact O.tr _ _ _ e2 (hb.2 _ _ (by lia) (by lia) (by lia) (by lia))
      .exact hb.2 _ _ (by lia) (by lia) (by lia) (by lia)⟩
    obtain⟨r1,r2,r3,r4,r5⟩:=jg O f _ (m+1) (q+1) (by lia) (by lia) IA GY r e;exact⟨r1,by lia,by lia,r4,r5⟩
theorem pZ(O:Ordr c)(hn:n<=p.size)(hm:m<=n)(h0:0<m)(hd:Dn c p m):∀r,r=aL c (kas_tail3 m n p)->r.2.size=p.size/\0<r.1/\r.1<=n/\Up c r.2 r.1:=by
 intro r e;unfold kas_tail3 at e;rw[gf] at e;subst e;obtain⟨h1,h2,h3,_⟩:=lV O (n-m) m h0 (hd.rev_all (by lia));exact⟨fG _ _ _,by show 0<aL c _;lia,by show aL c _<=n;lia,h3⟩
theorem p7(O:Ordr c)(hn:n<=p.size)(hm:m<n)(h0:0<m)(hd:Dn c p m)(e:c (at0 p m) (at0 p (m-1))=true):∀r,r=aL c (kas_descPart m n p)->r.2.size=p.size/\0<r.1/\r.1<=n/\Up c r.2 r.1:=by
 intro r er;unfold kas_descPart at er;rw[gf] at er;have Jl:=hd.more O h0 (O.asym _ _ e);have IB:Blk c p (m+1) 0:=⟨by lia,λi j h1 h2 h3 h4=>by
  obtain rfl:i=m:=by lia
  obtain rfl:j=i:=by lia
  cases h:c (at0 p j) (at0 p j) with
  |false=>rfl
  |true=>have:=O.asym _ _ h;rw[h] at this;cases this⟩
 obtain⟨r1,r2,r3,r4,r5⟩:=jg O (n-(m+1)) p (m+1) 0 (by lia) (by lia) Jl IB _ rfl;generalize aL c (kas_desc (n-(m+1)) p (m+1) 0)=d at*
 split at er
 .obtain⟨t1,t2,t3,t4⟩:=pZ O (p:=kas_rev d.1 (d.2.1-(d.2.2+1)) d.2.1) (m:=d.2.1) (n:=n) (by rw[fG];lia) (by lia) (by lia) (r4.rev_blk (by lia) r5.1 r5.2) r er;exact⟨by rw[t1,fG,r1],t2,t3,t4⟩
 .obtain⟨t1,t2,t3,t4⟩:=pZ O (p:=d.1) (m:=d.2.1) (n:=n) (by lia) (by lia) (by lia) r4 r er;exact⟨by rw[t1,r1],t2,t3,t4⟩
theorem xv(O:Ordr c)(hn:n<=p.size)(h0:0<n):∀r,r=aL c (kas_count n p)->r.2.size=p.size/\0<r.1/\r.1<=n/\Up c r.2 r.1:=by
 intro r er;unfold kas_count at er;rw[gf] at er;obtain⟨h1,h2,h3,h4⟩:=lV O (p:=p) (n-1) 1 (by decide) (λi j a b=>absurd b (by lia));generalize aL c (kas_asc p (n-1) 1)=m at*
 by_cases hm:m=n
 .subst hm;rw[A9 (by simp)] at er;subst er;exact⟨rfl,h0,A8 _,h3⟩
 .rw[A6 (by simp[hm])] at er;have st:=h4 (by lia);by_cases h5:m>1
  .rw[A9 h5] at er;unfold aL at er;cases e1:c (p.getD 0 0) (p.getD (m-1) 0) with
   |true=>
    rw[e1] at er;dsimp only at er;rw[A9 rfl] at er;subst er;exact⟨rfl,by show 0<m;lia,by show m<=n;lia,h3⟩
   |false=>
    rw[e1] at er;dsimp only at er;rw[A6 (by decide)] at er;have hd:=h3.rev_all (by lia:m<=p.size);obtain⟨t1,t2,t3,t4⟩:=p7 O (p:=kas_rev p 0 m) (m:=m) (n:=n) (by rw[fG];exact hn) (by lia) (by lia) hd (by
     rw[dC (by lia),dC (by lia),A6 (by lia),A9 ⟨by lia,by lia⟩,show 0+m-1-(m-1)=0 by lia];cases h:c (at0 p m) (at0 p 0) with
     |true=>rfl
     |false=>have:=O.tr _ _ _ e1 h;rw[st] at this;cases this) r er
    exact⟨by rw[t1,fG],t2,t3,t4⟩
  .rw[A6 h5] at er;obtain rfl:m=1:=by lia
   exact p7 O hn (by lia) (by decide) (λi j a b=>absurd b (by lia)) st r er
theorem lW(O:Ordr c){p:Array Nat}{k:Nat}(hu:Up c p k):∀(f l r:Nat),r-l<=f->l<=r->r<=k->(∀i,i<l->c (at0 p k) (at0 p i)=false)->(∀i,r<=i->i<k->c (at0 p k) (at0 p i)=true)->
  aL c (kas_place p k f l r)<=k/\(∀i,i<aL c (kas_place p k f l r)->c (at0 p k) (at0 p i)=false)/\(∀i,aL c (kas_place p k f l r)<=i->i<k->c (at0 p k) (at0 p i)=true)
 |0,l,r,hf,hl,hr,h1,h2=>by
  obtain rfl:l=r:=by lia
  exact⟨hr,h1,h2⟩
 |f+1,l,r,hf,hl,hr,h1,h2=>by
  unfold kas_place;by_cases h:l>=r
  .rw[A9 h];obtain rfl:l=r:=by lia
   exact⟨hr,h1,h2⟩
  .rw[A6 h];unfold aL;cases e:c (p.getD k 0) (p.getD ((l+r)/2) 0) with
   |true=>
    dsimp only;rw[A9 rfl];refine lW O hu f l ((l+r)/2) (by lia) (by lia) (by lia) h1 λi a b=>?_;by_cases hi:i=(l+r)/2
    .subst hi;exact e
    .cases q:c (at0 p k) (at0 p i) with
     |true=>rfl
     |false=>have:=O.tr _ _ _ (hu ((l+r)/2) i (by lia) b) q;rw[e] at this;cases this
   |false=>
    dsimp only;rw[A6 (by decide)];refine lW O hu f ((l+r)/2+1) r (by lia) (by lia) hr (λi a=>?_) h2;by_cases hi:i=(l+r)/2
    .subst hi;exact e
    .exact O.tr _ _ _ (hu i ((l+r)/2) (by lia) (by lia)) e
theorem p8{k d:Nat}(hk:k<p.size)(hd:d<=k)(i:Nat):at0 (bubble p k d) i=if i=k-d then at0 p k else if k-d<i/\i<=k then at0 p (i-1) else at0 p i:=by
 have h:=getElem?_bubble hk d hd i;have e:∀q:Array Nat,∀k,at0 q k=(q[k]?).getD 0:=λq k=>by simp[at0,Array.getD];split<;>simp[*]
 rw[e,e,e,e,h];split
 .rfl
 .split<;>rfl
theorem p9(O:Ordr c):∀(f:Nat) (p:Array Nat) (k:Nat),0<k->k+f<=p.size->Up c p k->Up c (aL c (kas_bin f p k)) (k+f)
 |0,p,k,_,_,h=>h
 |f+1,p,k,h0,hs,hu=>by
  unfold kas_bin;rw[gf];obtain⟨a1,a2,a3⟩:=lW O hu k 0 k (by lia) (by lia) (A8 _) (λi z=>absurd z (by lia)) (λi z1 z2=>absurd z2 (by lia));generalize aL c (kas_place p k k 0 k)=l at*
  have HZ:Up c (bubble p k (k-l)) (k+1):=by
   intro i j He hj;rw[p8 (by lia) (by lia),p8 (by lia) (by lia),show k-(k-l)=l by lia];by_cases j1:j=l
   .rw[A9 j1,A6 (by lia),A6 (by lia)];exact a2 i (by lia)
   .rw[A6 j1];by_cases j2:l<j/\j<=k
    .rw[A9 j2];by_cases i1:i=l
     .rw[A9 i1];exact O.asym _ _ (a3 (j-1) (by lia) (by lia))
     .rw[A6 i1];by_cases i2:l<i/\i<=k
      .rw[A9 i2];exact hu _ _ (by lia) (by lia)
      .rw[A6 i2];exact hu _ _ (by lia) (by lia)
    .rw[A6 j2,A6 (by lia),A6 (by lia)];exact hu _ _ He (by lia)
  have:=p9 O f (bubble p k (k-l)) (k+1) (by lia) (by rw[bubble_size];lia) HZ;rw[show k+(f+1)=k+1+f by lia];exact this
theorem qc(O:Ordr c)(h0:0<n):Up c (aL c (kas_sort n)) n:=by
 unfold kas_sort;rw[gf];obtain⟨r1,r2,r3,r4⟩:=xv O (p:=List.toArray (List.range n)) (n:=n) (by simp) h0 _ rfl;generalize aL c (kas_count n (List.toArray (List.range n)))=r at*
 have sz:r.2.size=n:=by rw[r1];simp
 by_cases h:r.1<n
 .rw[A9 h];have em:max r.1 1=r.1:=by lia
  rw[em];have:=p9 O (n-r.1) r.2 r.1 r2 (by lia) r4;rw[show r.1+(n-r.1)=n by lia] at this;exact this
 .rw[A6 h];have:r.1=n:=by lia
  rw[this] at r4;exact r4
end
theorem bq.wpc{n:Nat}{c:Nat->Nat->Bool}{α:Type}{R:α->Prop}{cmp:Nat->Nat->(Bool->KO->Prop)->KO->Prop}{Q:α->KO->Prop}{s:KO}(hc:∀i j,i<n->j<n->∀C:Bool->KO->Prop,C (c i j) s->cmp i j C s):∀{t:KasT α},(R (aL c t)->Q (aL c t) s)->bq n R t->t.kasWp cmp Q s
 |.ret a,hq,h=>hq h
 |.ask i j k,hq,h=>hc i j h.1 h.2.1 _ (bq.wpc hc (t:=k (c i j)) hq (h.2.2 (c i j)))
theorem qe:∀{xs ys zs:KW Int},xs.length=ys.length->ys.length=zs.length->cx false ys xs=false->cx false zs ys=false->cx false zs xs=false
 |[],[],[],_,_,_,_=>rfl
 |x::xs,y::ys,z::zs,h1,h2,a,b=>by
  unfold cx at a b⊢;by_cases e1:y=x
  .rw[A9 e1] at a;by_cases e2:z=y
   .rw[A9 e2] at b;rw[A9 (e2.trans e1)];exact qe (by simpa using h1) (by simpa using h2) a b
   .rw[A6 e2] at b;have:=CY b;rw[A6 (by lia)];exact Al (by lia)
  .rw[A6 e1] at a;have a:=CY a;by_cases e2:z=y
   .rw[A6 (by lia)];exact Al (by lia)
   .rw[A6 e2] at b;have:=CY b;rw[A6 (by lia)];exact Al (by lia)
theorem qf:∀{xs ys:KW Int},xs.length=ys.length->cx false xs ys=true->cx false ys xs=false
 |[],[],_,h=>nomatch h
 |x::xs,y::ys,hl,h=>by
  unfold cx at h⊢;by_cases e:x=y
  .rw[A9 e] at h;rw[A9 e.symm];exact qf (by simpa using hl) h
  .rw[A6 e] at h;have:=Au h;rw[A6 (by lia)];exact Al (by lia)
theorem qg:∀{xs ys:KW Int},xs.length=ys.length->cx false xs ys=false->cx false ys xs=false->xs=ys
 |[],[],_,_,_=>rfl
 |x::xs,y::ys,hl,h,k=>by
  unfold cx at h k;by_cases e:x=y
  .rw[A9 e] at h;rw[A9 e.symm] at k;rw[e,qg (by simpa using hl) h k]
  .rw[A6 e] at h;rw[A6 (CB e)] at k;have:=CY h;have:=CY k;lia
theorem lX{xs ys:KW Int}(h:xs.length=ys.length):ltI xs ys=cx false xs ys:=by
 unfold ltI;rw[Al (by lia)]
def gh(xss:KW (KW Int))(i:Nat):KW Int:=xss.getD i (xss.headD [])
def fH(xss:KW (KW Int))(i j:Nat):Bool:=ltI (gh xss i) (gh xss j)
theorem qh(h:i<xss.length):gh xss i=xss.getD i []:=by
 unfold gh;rw[A7,A7,A1 h];rfl
theorem jh(hi:i<xss.length)(hj:j<xss.length):fH xss i j=ltI (xss.getD i []) (xss.getD j []):=by
 unfold fH;rw[qh hi,qh hj]
theorem xw(h0:0<xss.length)(h:∀xs∈xss,xs.length=m)(i:Nat):(gh xss i).length=m:=by
 unfold gh;rw[A7];cases e:xss[i]? with
 |some x=>exact h x (Aa e)
 |none=>
  cases xss with
  |nil=>cases h0
  |cons x xs=>exact h x (by simp)
theorem qi(h0:0<xss.length)(h:∀xs∈xss,xs.length=m):Ordr (fH xss):=by
 have k:=xw h0 h;refine⟨λa b e=>?_,λa b d e1 e2=>?_⟩
 .unfold fH at e⊢;rw[lX (by rw[k,k])] at e⊢;exact qf (by rw[k,k]) e
 .unfold fH at e1 e2⊢;rw[lX (by rw[k,k])] at e1 e2⊢;exact qe (by rw[k,k]) (by rw[k,k]) e1 e2
inductive rSortO(vs:List V)(H:Hp)(Q:VK):Prop
 |mk (v:V) (xss:List (List Int)) (m:Nat):vs=[v]->Is H (.l (xss.map tI)) v->0<m->((∀xs∈xss,xs.length=m))->xss.length<64->(∀(GF:List (List Int)) (q:Addr) (H':Hp),GF.Perm xss->(∀i j,i<j->j<GF.length->ltI (GF.getD j []) (GF.getD i [])=false)->H q=none->af H H'->Is H' (.l (GF.map tI)) (.ref q)->Q (.ref q) H')->rSortO vs H Q
section
variable{prog:KQ}{w:KS}{A:KU}{E:KN->KO->Prop}{s:KO}
theorem qj{c:Nat->Nat->Bool}{kd:SortKind}{a:KP}{P:PySem.Fin->KO->Prop}(ho:s.heap.get? a=some (seqObj "list" vs.toArray n))(h2:2<=vs.length)(h64:vs.length<64)
  (IG:∀(R:SortKind->KO->Prop),R kd {s with heap:=aQ s.heap a vs}->wpAny (model prog w) A (keyKind' vs.toArray) R E {s with heap:=aQ s.heap a vs})
  (hc:∀i j,i<vs.length->j<vs.length->∀C:Bool->KO->Prop,C (c i j) {s with heap:=aQ s.heap a vs}->wpAny (model prog w) A (keyLt' kd (vs.getD i .none) (vs.getD j .none)) C (λ_ _=>False) {s with heap:=aQ s.heap a vs})
  (h:∀p,Ord vs.length p->p=aL c (kas_sort vs.length)->P (.done (.ret .none)) {s with heap:=sortedHeap s.heap a vs (p.map λi=>vs.getD i .none)}):wpAny (model prog w) A (Builtin.«list.sort» ⟨[.ref a],[]⟩) P E s:=by
 rw[list_sort_plain];have ha:a<s.heap.objs.size:=AD ho;refine A0 (listItems_at ho rfl ?_);refine A0 (CZ ho rfl ?_ (by rw[AA,As];lia) (AR _));obtain⟨e1,GU⟩:∃e1,(s.heap.update a (Obj.mapSeq λ_=>(#[]:Array KN))).get? a=some (seqObj "list" #[] e1):=⟨_,CW ho (λ_=> #[])⟩;refine A0 (seqEpoch_at GU rfl ?_);refine A0 (wpAny_newTuple ?_ (by show vs.length<=_;rw[As];lia));refine A0 (Cg ?_ (AR _));refine Ap ?_;have HY:(aQ s.heap a vs).get? a=some (seqObj "list" #[] e1):=by
  rw[B1 _ _ _ (by rw[Bb,Ax];exact AE (Ab ha)),B1 _ _ _ (by rw[Ax];exact AE ha)];exact GU
 show wpAny (model prog w) A _ P E {s with heap:=aQ s.heap a vs};dsimp only;have Ix:¬vs.toArray.size<2:=by rw[AA];lia
 rw[A6 Ix,A6 Ix];refine A0 (IG _ ?_);have est:kas_st kd (pairsOf vs) (List.toArray (List.range vs.length))=SortSt.mk' kd (vs.toArray.zip vs.toArray) #[] 7 none:=by
  have e:=kas_range (pairsOf vs);rw[pairsOf_size] at e;show SortSt.mk' kd ((List.toArray (List.range vs.length)).map (kas_item (pairsOf vs))) #[] 7 none=SortSt.mk' kd (pairsOf vs) #[] 7 none;rw[e]
 have ask:(kas_sort vs.length).kasWp (kas_cmp prog w A kd (pairsOf vs)) (λp s'=>s'={s with heap:=aQ s.heap a vs}/\Ord vs.length p/\p=aL c (kas_sort vs.length)) {s with heap:=aQ s.heap a vs}:=by
  refine bq.wpc (c:=c) (λi j hi hj C hC=>?_) (λhp=>⟨rfl,hp,rfl⟩) (pH (by lia));rw[<-kas_ask_eq];exact hc i j hi hj C hC
 have run:=kas_runs (E:=E) (Q:=λ_ GP s'=>∃p,s'={s with heap:=aQ s.heap a vs}/\(Ord vs.length p/\p=aL c (kas_sort vs.length))/\arrOf GP=p.map (kas_item (pairsOf vs))/\failedOf GP=none) h2 h64 (λp' GP s' _ a2 a3 a4=>⟨p',a4.1,a4.2,a2,a3⟩) ask;rw[est] at run;refine A0 (BD run ?_ λ_ _ e=>e);rintro⟨⟨⟩,GP⟩ s' ⟨p,rfl,⟨hp,IS⟩,har,hf⟩;dsimp only at har hf⊢;have eo:(arrOf GP).map (·.2)=p.map λi=>vs.getD i .none:=by
  rw[har,Array.map_map];refine Array.map_congr_left λi _=>?_;show(kas_item (pairsOf vs) i).2=_;rw[kas_item_eq]
 rw[eo];refine A0 (seqEpoch_at HY rfl ?_);refine A0 (CZ HY rfl ?_ (AR _) (by rw[Array.size_map,As,hp.size];lia));rw[hf];simp only[Ch,AI,At];exact A2 (h p hp IS)
theorem xx{c:Nat->Nat->Bool}{kd:SortKind}{l:KP}{Q:KN->KO->Prop}(hl:s.heap.IsList l vs.toArray)(h2:2<=vs.length)(h64:vs.length<64)
  (IG:∀(R:SortKind->KO->Prop) (E:KN->KO->Prop),R kd {s with heap:=dn s.heap vs}->wpAny (model prog w) A.in1.in1 (keyKind' vs.toArray) R E {s with heap:=dn s.heap vs})
  (hc:∀i j,i<vs.length->j<vs.length->∀C:Bool->KO->Prop,C (c i j) {s with heap:=dn s.heap vs}->wpAny (model prog w) A.in1.in1 (keyLt' kd (vs.getD i .none) (vs.getD j .none)) C (λ_ _=>False) {s with heap:=dn s.heap vs})
  (h:∀p,Ord vs.length p->p=aL c (kas_sort vs.length)->Q (.ref (s.heap.objs.size+1)) {s with heap:=sortedAll s.heap vs (p.map λi=>vs.getD i .none)}):wpAny (model prog w) A (call (.builtin "sorted") [.ref l]) Q E s:=by
 refine Cd kind_sorted plain_sorted entry_sorted (args_sorted1 _) ?_;unfold Builtin.«sorted»;refine A0 (m:=checkCount "sorted" 1 1 _) (A2 ?_);refine A0 (collect_list hl ?_ (by rw[As];lia));refine A0 (Cg ?_ (by rw[As];lia));have hsz:((s.heap.push (seqObj "list" #[] 0)).update s.heap.objs.size (Obj.mapSeq (· ++vs.toArray))).objs.size=s.heap.objs.size+1:=by
  rw[Ax,Bb]
 have Ji:(((s.heap.push (seqObj "list" #[] 0)).update s.heap.objs.size (Obj.mapSeq (· ++vs.toArray))).push (seqObj "list" vs.toArray 0)).get? (s.heap.objs.size+1)=some (seqObj "list" vs.toArray 0):=by
  rw[<-hsz];exact AC _ rfl
 show wpAny _ _ _ _ _ {s with heap:=((s.heap.push (seqObj "list" #[] 0)).update s.heap.objs.size (Obj.mapSeq (· ++vs.toArray))).push (seqObj "list" vs.toArray 0)};rw[hsz];refine A0 (Ap (Ag DF ⟨_,Ji,rfl⟩ DE (qj (c:=c) (s:={s with heap:=((s.heap.push (seqObj "list" #[] 0)).update s.heap.objs.size (Obj.mapSeq (· ++vs.toArray))).push (seqObj "list" vs.toArray 0)}) Ji h2 h64 (λR=>IG R _) hc λp hp IS=>⟨_,rfl,?_⟩) (DG _)));exact A2 ⟨_,rfl,h p hp IS⟩
end
section
variable{X:Cx}{Gn:KW (KP×Obj)}{σ:St}{H:Hp}{s:KO}
theorem xy:bB X (.builtin "sorted") rSortO:=by
 intro Gn s σ H xs us Q I r h;obtain⟨v,xss,m,rfl,hv,hm,Ik,Gv,q⟩:=h;have Hi:∀xs∈xss,xs≠[]:=λxs hx z=>by have:=Ik xs hx;rw[z] at this;exact absurd this (by show¬0=m;lia)
 obtain⟨l,rs,rfl,hl,hi⟩:=aP hv;have Jw:rs.length=xss.length:=by rw[hi.length,A3]
 obtain⟨u,rfl,rx⟩:=cP r;cases rx;obtain⟨Gq,r',pl,hz⟩:=I.list (SqL.of (K:=X.K) hl);have ln:=r'.length;by_cases h2:rs.length<2
 .refine pK (vs:=Gq) pl.isList (by lia) ?_;obtain⟨e,he⟩:=sortedAll_at s.heap Gq Gq.toArray;have fr:=I.hok.fresh (a:=s.heap.objs.size+1) (Bj _);exact⟨.ref (s.heap.objs.size+1),_,I.laid (t':=s.toks) (λ_ _=>sortedAll_old) (Bj _) (show aC X.prog X.w _ _ _ (.lst rs) from⟨hz,Gq,e,r',he⟩),rfl,q xss _ _ (List.Perm.refl _) (λi j a b=>absurd b (by lia)) fr (af.new fr) (ba am (hi.mono (af.new fr)))⟩
 .have I2:Inv X Gn σ H {s with heap:=dn s.heap Gq}:=I.kept (t':=s.toks) λb o e=>pI e;have lns:Gq.length=xss.length:=by lia
  refine xx (c:=fH xss) (kd:=tuples' true) (vs:=Gq) pl.isList (by lia) (by lia) (λR E hR=>?_) (λi j HB hj' C hC=>?_) λp ho IS=>?_
  .obtain⟨fs,k1,k2,k3⟩:=lS I2 hi r' Hi;exact kat_kind (T:= .type "int") k1 (by lia) (λf hf=>by obtain⟨z,t,rfl⟩:=k3 f hf;exact .now) rfl hR
  .have g:∀i,i<xss.length->∃a,Gq.getD i .none=.ref a/\SqT X.K H a ((xss.getD i []).map V.int):=λi h=>by
    have hr:i<rs.length:=by lia
    obtain⟨d,hd,h1⟩:=hi.of_get (A1 hr);rw[AF,A1 h] at hd;cases hd;obtain⟨a,ea,ha⟩:=eM h1;obtain⟨u,Hq,ru⟩:=r'.get (A1 hr);rw[ea] at ru;obtain rfl:u=Value.ref a:=ru;refine⟨a,?_,?_⟩
    .rw[A7,Hq];rfl
    .rw[A7,A1 h];exact SqT.of ha
   obtain⟨a1,e1,s1⟩:=g i (by lia);obtain⟨a2,e2,s2⟩:=g j (by lia);rw[e1,e2];rw[jh (by lia) (by lia)] at hC;exact pO I2 s1 s2 hC
  .rw[lns] at ho IS;have G5:∀i∈p.toList,i<xss.length:=λi hi=>ho.lt hi;obtain⟨e,he⟩:=sortedAll_at s.heap Gq (p.map λi=>Gq.getD i .none);have en:(p.map λi=>Gq.getD i .none)=List.toArray (p.toList.map λi=>Gq.getD i .none):=by
    apply Array.toList_inj.mp;simp
   rw[en] at he⊢;have fr:=I.hok.fresh (a:=s.heap.objs.size+1) (Bj _);refine⟨.ref (s.heap.objs.size+1),_,I.laid (t':=s.toks) (λ_ _=>sortedAll_old) (Bj _) (show aC X.prog X.w _ _ _ (.lst (p.toList.map λi=>rs.getD i .non)) from⟨?_,_,e,jc r' p.toList (λi hi=>by rw[Jw];exact G5 i hi),he⟩),rfl,q (p.toList.map λi=>xss.getD i []) _ _ ?_ ?_ fr (af.new fr) (ba am ((lR hi p.toList G5).mono (af.new fr)))⟩
   .rw[A3,AV,As,ho.size];lia
   .have pp:=(Bm.mp ho).map λi=>xss.getD i [];rw[show(List.range xss.length).toArray.toList=List.range xss.length from rfl,pN] at pp;exact pp
   .intro i j He hj;rw[A3,AV,ho.size] at hj;have up:=qc (qi (xss:=xss) (m:=m) (by lia) Ik) (n:=xss.length) (by lia) i j He hj;rw[<-IS] at up;have g:∀i,i<xss.length->(p.toList.map λi=>xss.getD i []).getD i []=xss.getD (at0 p i) []/\at0 p i<xss.length:=λi h=>by
     have hs:i<p.size:=by rw[ho.size];exact h
     have e:at0 p i=p[i]:=by simp[at0,Array.getD,hs]
     rw[e];refine⟨?_,ho.lt (by simp)⟩;rw[A7,AF];simp[hs]
    obtain⟨g1,g2⟩:=g i (by lia);obtain⟨g3,g4⟩:=g j hj;rw[g1,g3];rw[jh g4 g2] at up;exact up
end
end L2
namespace L2
open PySem PySem.Spec PyProof.Rows PyProof PySem.Builtin PySem.Builtin.Str
theorem qk:∀(l:KW (Str×Tok)),ao ((l.map (·.1)).map V.str) (strValues l)
 |[]=>.nil
 |(z,t)::l=>.cons ⟨t,rfl⟩ (qk l)
section
variable{X:Cx}
theorem xz:bB X (.type "int") (λxs H Q=>∃(z:Str) (n:Int),xs=[.str z]/\PySem.intText? z=some n/\z.length<=640/\Q (.int n) H):=by
 intro Gn s σ H xs us Q I r h;obtain⟨z,n,rfl,hn,hl,q⟩:=h;obtain⟨u,rfl,rx⟩:=cP r;obtain⟨t,rfl⟩:=rx;exact W.KIN.call_text hn hl ⟨.int n,H,I.tok _,⟨_,rfl⟩,q⟩
theorem qm:MtR X "str.startswith" (λo vs H Q=>∃x y:Str,o=.str x/\vs=[.str y]/\Q (.bl (Txt.startswith x y)) H):=by
 intro Gn s σ H x vs v us Q I rx rv h;obtain⟨x,y,rfl,rfl,q⟩:=h;obtain⟨t,rfl⟩:=rx;obtain⟨u2,rfl,r2⟩:=rv.one;obtain⟨t2,rfl⟩:=r2;exact SC.startswith ⟨.bl _,H,I,rfl,q⟩
theorem xA{prog:KQ}{w:KS}{A:KU}{E:KN->KO->Prop}{s:KO}{x y:Str}{t u:Tok}{Q:KN->KO->Prop}(hy:(y.length==0)=false)
  (q:∀(l:KW (Str×Tok)) (k:Nat),l.map (·.1)=Txt.split x y->Q (.ref s.heap.objs.size) {s with heap:=s.heap.push (seqObj "list" (strValues l).toArray 0),toks:=k})
  (z1:x.length<=sizeLine) (z3:(Txt.split x y).length<=sizeLine):wpAny (model prog w) A (call (.builtin "str.split") [.str x t,.str y u]) Q E s:=by
 cases c1:(decide (x.length<y.length)||decide (strKind x<strKind y)) with
 |true=>exact Cp F.slot_str_split (typeIs_str _ _ _) F.entry_str_split (F.args_str_split_2 _ _) (meets_str_split_cannot_occur x y t u c1) (q [(x,t)] s.toks (A9 c1).symm)
 |false=>
  cases c2:(occurrences x y 0 x.length (x.length+1)).isEmpty with
  |true=>exact Cp F.slot_str_split (typeIs_str _ _ _) F.entry_str_split (F.args_str_split_2 _ _) (meets_str_split_not_found x y t u c1 hy c2) (q [(x,t)] s.toks ((A6 (CQ c1)).trans (A9 c2)).symm)
  |false=>
   have z2:(partsBetween x (occurrences x y 0 x.length (x.length+1)) y.length).length<=sizeLine:=((A6 (CQ c1)).trans (A6 (CQ c2)):Txt.split x y=_)▸z3;refine Cp F.slot_str_split (typeIs_str _ _ _) F.entry_str_split (F.args_str_split_2 _ _) (meets_str_split_sep x y t u c1 hy c2 z1 z2) ?_;have h:=λk=>q (numbered s.toks (partsBetween x (occurrences x y 0 x.length (x.length+1)) y.length)) k ((numbered_texts _ _).trans ((A6 (CQ c1)).trans (A6 (CQ c2))).symm);simp only[<-strsFrom_eq] at h;exact h _
inductive rSplit(o:V)(vs:List V)(H:Hp)(Q:VK):Prop
 |mk (x y:Str):o=.str x->vs=[.str y]->0<y.length->x.length<=sizeLine->(Txt.split x y).length<=sizeLine->(∀p H2,H p=none->af H H2->H2 p=some (.lst ((Txt.split x y).map V.str))->Q (.ref p) H2)->rSplit o vs H Q
theorem g7:MtR X "str.split" rSplit:=by
 intro Gn s σ H x vs v us Q I rx rv h;obtain⟨x,y,rfl,rfl,hy,z1,z3,q⟩:=h;obtain⟨t,rfl⟩:=rx;obtain⟨u2,rfl,r2⟩:=rv.one;obtain⟨t2,rfl⟩:=r2;refine xA (by simp;lia) (λl k hl=>?_) z1 z3;have fr:=I.hok.fresh (A8 s.heap.objs.size);refine⟨.ref s.heap.objs.size,_,I.laid (t':=k) (λb o e=>A4 _ e) (A8 _) (show aC X.prog X.w _ _ _ (.lst ((Txt.split x y).map V.str)) from⟨by rw[A3];exact z3,strValues l,0,by rw[<-hl];exact qk l,AC _ rfl⟩),rfl,q _ _ fr (af.new fr) am⟩
end
end L2
namespace L2
open PySem PySem.Spec PyProof.Rows PyProof
def Itx(x:Str):It:=⟨λi _=>i<x.cps.size,λi H v H'=>H'=H/\∃c,x.cps[i]? =some c/\v=.str ⟨#[c]⟩,λi _=>i=x.cps.size⟩
theorem xB{P:KQ}{w:KS}{K:W.Frag}{tg:KY}(it:KP)(x:Str)(t:Tok):Turn P w K tg (Itx x) [it] it (λi h=>h.IsStrIter it "str_ascii_iterator" x t i) where
 mem:=by simp
 obj:=λi h st b hb=>by
  obtain rfl:b=it:=by simpa using hb
  obtain⟨o,e,c,d⟩:=st;exact⟨o,e,λv z=>by rw[d] at z;cases z⟩
 keep:=λi h h' st k=>let ⟨o,ho,r⟩:=st;⟨o,k it (by simp) o ho,r⟩
 item:=by
  intro X hP hw hK hc i Gn s σ H E I hf st hg;subst hP hw hK;obtain⟨f0,f1,f2,f3,f4,f5⟩:=hf it (by simp);refine(Walks.strAscii (prog:=X.prog) (w:=X.w) (I.ok.hd hc) it x t).item i s _ _ hg st λv h' tk hv GP kk=>?_;obtain⟨sg,u,hsg,rfl⟩:=hv;have I1:Inv X Gn σ H {s with heap:=h',toks:=tk}:=I.turned (λb o hb e=>kk b o (by simpa using hb) e) f0 f1 f3 f4 f5;obtain⟨o,e,c,d⟩:=id GP;exact⟨_,rfl,go_of (s:={s with heap:=h',toks:=tk}) e c d (by decide) ⟨.str ⟨#[sg]⟩,H,I1,⟨u,rfl⟩,⟨rfl,sg,hsg,rfl⟩,GP,λb hb=>(hf b hb).1⟩⟩
 done:=by
  intro X hP hw hK hc i Gn s σ H E I hf st hg;subst hP hw hK;obtain⟨f0,f1,f2,f3,f4,f5⟩:=hf it (by simp);have e:i=x.cps.size:=hg;subst e;exact(Walks.strAscii (prog:=X.prog) (w:=X.w) (I.ok.hd hc) it x t).done s _ _ st λh' tk kk=>⟨rfl,I.turned (λb o hb e=>kk b o (by simpa using hb) e) f0 f1 f3 f4 f5⟩
 self:=λ_ _ _ _ _ st h=>wpAny_pyIter_striter_ascii st h
section
variable{X:Cx}{tg:KY}
inductive iTxt_(R:(It->Hp->Prop))(x:V)(H1:Hp):Prop
 |mk (z:Str):x=.str z->z.cps.all (· <128)=true->R (Itx z) H1->iTxt_ R x H1
def xC(tl:TE):TI:=λσ H R=>tl σ H λx H1=>iTxt_ R x H1
theorem xD{l:KY}{tl:TE}(hl:PE X l tl):PI X tg l (xC tl):=by
 intro Gn s σ H R I h;refine thn (hl Gn s σ H _ I h) λv s1 zu66=>?_;obtain⟨x,H1,I1,r1,q1⟩:=zu66;obtain⟨z,e,ha,q⟩:=q1;subst e;obtain⟨t,rfl⟩:=r1;refine wpAny_pyIter_ascii ha ?_;refine⟨s1.heap.objs.size,[s1.heap.objs.size],_,_,H1,rfl,I1.kept (t':=s1.toks) λb o e=>A4 _ e,xB _ z t,⟨_,AC _ rfl,rfl,rfl⟩,λb hb=>?_,q⟩;obtain rfl:b=s1.heap.objs.size:=by simpa using hb
 exact I1.fpOk (A8 _) (I1.hok.fresh (A8 _))
end
theorem xE{x:Str}{own:Nat}{js:KW Nat}{g:TG}{ti:TT}{te:TE}{σ:St}{H1:Hp}{acc:KP}{Q:VK}(Pv:Nat->Hp->Prop)(h0:Pv 0 (upd H1 acc (.lst [])))
  (hs:∀i c H2,x.cps[i]? =some c->Pv i H2->g (.str ⟨#[c]⟩) (cG own js σ) H2 λσ4 H4=>ti σ4 H4 λb H5=>if b=true then te σ4 H5 λy H6=>rAppend (.ref acc) [y] H6 λ_ H7=>Pv (i+1) H7 else Pv (i+1) H5) (hd:∀H2,Pv x.cps.size H2->Q (.ref acc) H2)
  (mono:∀σ H (R R':St->Hp->Prop) x,(∀σ' H',R σ' H'->R' σ' H')->g x σ H R->g x σ H R') (Hb:∀σ H (R R':Bool->Hp->Prop),(∀b H',R b H'->R' b H')->ti σ H R->ti σ H R') (Hc:∀σ H (R R':VK),(∀v H',R v H'->R' v H')->te σ H R->te σ H R'):
  gZ (Itx x) own js g ti te σ H1 acc Q:=by
 refine⟨λi m H2=>m=x.cps.size-i/\i<=x.cps.size/\Pv i H2,⟨x.cps.size,by simp,AR _,h0⟩,?_⟩;rintro i m H2 ⟨rfl,hi,p⟩;by_cases Gx:i<x.cps.size
 .refine .inr ⟨Gx,λv H3 y=>?_⟩;obtain⟨e1,c,hc,e2⟩:=y;subst e1 e2;refine mono _ _ _ _ _ (λσ4 H4 q=>Hb _ _ _ _ (λb H5 q=>?_) q) (hs i c _ hc p);cases b with
  |true=>
   refine Hc _ _ _ _ (λv H6 q=>?_) q;obtain⟨l,xs,y,a1,a2,a3,a4,a5⟩:=q;exact⟨l,xs,y,a1,a2,a3,a4,x.cps.size-(i+1),by lia,rfl,Gx,a5⟩
  |false=>exact⟨x.cps.size-(i+1),by lia,rfl,Gx,q⟩
 .have e:i=x.cps.size:=by lia
  subst e;exact .inl ⟨rfl,hd H2 p⟩
end L2
namespace HT
open PySem PySem.Spec PyProof.Rows
section
variable{prog:KQ}{w:KS}{A:KU}{E:KN->KO->Prop}{s:KO}
theorem getItem_tuple_all{t sl:KP}{items:Array KN}{vl vu:KN}{lo hi:K0 Int}{Q:KN->KO->Prop}(ht:IsTup s.heap t items)(hs:s.heap.IsSliceOf sl vl vu .none)(pl:IsPart vl lo)(pu:IsPart vu hi)
  (hw:sIx items.size 0 lo=0/\sIx items.size items.size hi=items.size) (h:Q (.ref t) s):wpAny (model prog w) A (getItem (.ref t) (.ref sl)) Q E s:=by
 obtain⟨os,Ke,hcs,hds⟩:=id hs;have hTs:s.TypeIs (.ref sl) "slice":=⟨os,Ke,hcs⟩;unfold getItem;try with_reducible refine Ap ?_
 first|refine A0 (A2 ?_)|skip
 refine A0 (wpAny_sequenceKey ht.typeIs (by decide) ?_);refine A0 (B2 (name:=Str.ofString "__getitem__") ht.typeIs BE
  (Ag BE ht.typeIs entry_tuple_getitem ?_ (args_tuple_getitem _ _)))
 show wpAny _ _ (Builtin.Tuple.tupleItemsOf (.ref t)>>=_) _ _ s;refine A0 (tupleItemsOf_ ht ?_);refine A0 (DD hTs ?_);rw[A9 (by decide)];refine A0 (oG hs pl pu ?_);have hyes:(((sIx items.size 0 lo:Nat):Int)==0&&(1:Int)==1&&(sIx items.size items.size hi-sIx items.size 0 lo)==items.size)=true:=by
  rw[hw.1,hw.2];simp
 show wpAny _ _ (if(((sIx items.size 0 lo:Nat):Int)==0&&(1:Int)==1&&(sIx items.size items.size hi-sIx items.size 0 lo)==items.size)=true then _ else _) _ _ s;rw[A9 hyes];unfold Builtin.Tuple.tupleIsExact;refine A0 (A0 (DD ht.typeIs (A2 ?_)));rw[A9 (by decide)];refine A0 (wpAny_rule ?_);exact A2 ⟨_,rfl,A2 h⟩
end
end HT
namespace L2
open PySem PySem.Spec PyProof.Rows
variable{n:Nat}{x:V}
section
variable{X:Cx}
inductive rSlA(K:W.Frag)(x:V)(lo:Option Int)(hi:Option Int)(H:Hp)(Q:VK):Prop
 |mk a xs:x=.ref a->SqT K H a xs->(((HT.sIx xs.length 0 lo=0/\HT.sIx xs.length xs.length hi=xs.length)->Q (.ref a) H))->((¬(HT.sIx xs.length 0 lo=0/\HT.sIx xs.length xs.length hi=xs.length)->∀p,H p=none->Q (.ref p) (upd H p (.tup (bh xs lo hi)))))->rSlA K x lo hi H Q
theorem xF:SlR X (rSlA X.K):=by
 intro Gn s σ H x v vl vu lo hi sl Q I rx hs pl pu h;obtain⟨a,xs,rfl,hx,q1,q2⟩:=h;by_cases hw:HT.sIx xs.length 0 lo=0/\HT.sIx xs.length xs.length hi=xs.length
 .cases rx;obtain⟨Gq,r,ht,hz⟩:=I.tuple hx;have Gv:Gq.toArray.size=xs.length:=by rw[AA];exact r.length.symm
  refine⟨"tuple",_,BE.lookup,ht.typeIs,?_⟩;exact HT.getItem_tuple_all ht hs pl pu (by rw[Gv];exact hw) ⟨.ref a,H,I,rfl,q1 hw⟩
 .exact vL Gn s σ H _ v vl vu lo hi sl Q I rx hs pl pu ⟨a,xs,rfl,hx,hw,q2 hw⟩
end
open PySem.W
section
variable{X:Cx}{Gn:KW (KP×Obj)}{σ:St}{H:Hp}{s:KO}
def bvs(bs:KW Bool):Array KN:=(bs.map Value.bool).toArray
def EqT(K:W.Frag)(H:Hp)(n:Nat)(x y:V)(e:Bool):Prop:=∀(X:Cx) (Gn:KW (KP×Obj)) (σ:St) (s:KO),X.K=K->Inv X Gn σ H s->∀(A:KU) (u v:KN),A.units+n<cLine->ar x u->ar y v->SeqAt.EqAt A s u v e
theorem EqR.told{K:W.Frag}{y:V}{e:Bool}(h:EqR K H n x y e):EqT K H n x y e:=λX Gn σ s hk I A u v hu ru rv=>by
 subst hk;exact(h.bo I (A:=A) hu ru rv).2.2
def lY(K:W.Frag)(H:Hp)(n:Nat)(xs:KW V)(x:V)(es:Nat->Bool):Prop:=n<=8/\(∀(j:Nat) z,xs[j]? =some z->(∃a,z=.ref a)/\EqT K H n z x (es j))/\∀(i j:Nat) z,xs[i]? =some z->xs[j]? =some z->es i=es j
open Classical in
theorem qo{xs:KW V}{es:Nat->Bool}{Gq:KW KN}(t:lY X.K H n xs x es)(r:ao xs Gq){j:Nat}{u:KN}(hu:Gq[j]? =some u):eO Gq es u=es j:=by
 have same:∀i:Nat,Gq[i]? =some u->es i=es j:=λi hi=>by
  have li:=(AJ.mp hi).1;have lj:=(AJ.mp hu).1;have ln:=r.length;have xi:xs[i]? =some xs[i]:=A1 (by lia);have xj:xs[j]? =some xs[j]:=A1 (by lia);obtain⟨u1,e1,r1⟩:=r.get xi;obtain⟨u2,e2,r2⟩:=r.get xj;rw[hi] at e1;rw[hu] at e2;cases e1;cases e2;obtain⟨⟨a,ea⟩,_⟩:=t.2.1 i _ xi;obtain⟨⟨b,eb⟩,_⟩:=t.2.1 j _ xj;rw[ea] at r1 xi;rw[eb] at r2 xj;obtain rfl:u=Value.ref a:=r1;have:Value.ref a=Value.ref b:=r2;cases this;exact t.2.2 i j _ xi xj
 unfold eO;cases h:es j with
 |true=>exact B3 ⟨j,hu,h⟩
 |false=>exact Al λ⟨i,hi,e⟩=>by rw[same i hi,h] at e;cases e
inductive rCountD(K:W.Frag)(o:V)(vs:List V)(H:Hp)(Q:VK):Prop
 |mk (p:Addr) (xs:List V) (x:V) (n:Nat) (es:Nat->Bool):o=.ref p->vs=[x]->SqL K H p xs->lY K H n xs x es->Q (.int (((List.range xs.length).countP es:Nat):Int)) H->rCountD K o vs H Q
theorem xG{k:Nat}(hr:Room k X.A):MtM X "list.count" (rCountD X.K):=by
 intro Gn s σ H o vs v us Q I ro rv h;obtain⟨p,xs,x,n,es,rfl,rfl,hq,t,q⟩:=h;cases ro;obtain⟨u,rfl,ru⟩:=ao.one rv;have hu:=hr.un;have t8:=t.1;obtain⟨Gq,r,pl,hz⟩:=I.list hq;have ln:=r.length;obtain⟨⟨cls,dd,data,sl⟩,ho,hc,m,hd⟩:=pl.isList;simp only at hc hd;subst hc hd;have ec:Gq.toArray.toList.countP (eO Gq es)=(List.range xs.length).countP es:=by
  have e1:Gq=(List.range Gq.length).map λi=>Gq.getD i .none:=by
   refine Cv (by simp) λi h1 h2=>?_;simp[h1]
  have e2:Gq.countP (eO Gq es)=((List.range Gq.length).map λi=>Gq.getD i .none).countP (eO Gq es):=by rw[<-e1]
  show Gq.countP (eO Gq es)=_;rw[e2,List.countP_map,ln];refine List.countP_congr λi hi=>?_;have HB:i<Gq.length:=by simpa using hi
  have:eO Gq es (Gq.getD i .none)=es i:=qo t r (by rw[A7,A1 HB];rfl);simp only[Function.comp_apply,this]
 refine Cp F.slot_list_count ⟨_,ho,rfl⟩ F.entry_list_count (F.args_list_count_2 _ _) (SeqAt.list_countAt p Gq.toArray m dd sl u (eO Gq es)) ⟨ho,λy hy=>?_,?_⟩
 .obtain⟨j,hj,e⟩:=Bu.mp (by simpa using hy);have ej:Gq[j]? =some y:=by rw[A1 hj,e]
  have xj:xs[j]? =some xs[j]:=A1 (by lia);obtain⟨u2,e2,r2⟩:=r.get xj;rw[ej] at e2;cases e2;rw[qo t r ej];exact(t.2.1 j _ xj).2 X Gn σ s rfl I _ _ _ (by rw[di];lia) r2 ru
 rw[ec];exact⟨.int _,H,I.tok _,⟨_,rfl⟩,q⟩
end
end L2
namespace L2
open PySem PySem.SetTable PySem.Spec PyProof.Rows
variable{Q:Bool->KO->Prop}{S a b it x:KP}{ad:Nat->KP}{ep i m n p slot:Nat}{es:Array (Int×KN)}{h h':KZ}{k:KW Int}{kk:Nat->KW Int}{ks:Array (KW Int)}{o:Obj}{vs:KW KN}{xs:Array Nat}{xss:KW (KW Int)}
def Ris(xs:Array Nat):Prop:=∀i j,i<j->j<xs.size->xs.getD i 0<xs.getD j 0
theorem qp(h:i<xs.size)(a b:Nat):xs.getD i a=xs.getD i b:=by simp[Array.getD,h]
theorem lZ{xs:Array Nat}{j:Nat}(r:Ris xs):∀(f lo hi:Nat),hi-lo<=f->lo<=hi->hi<=xs.size->(∀i,i<lo->xs.getD i 0<j)->(∀i,hi<=i->i<xs.size->j<=xs.getD i 0)->
  lo<=below.go xs j f lo hi/\below.go xs j f lo hi<=hi/\(∀i,i<below.go xs j f lo hi->xs.getD i 0<j)/\(∀i,below.go xs j f lo hi<=i->i<xs.size->j<=xs.getD i 0)
 |0,lo,hi,hf,hl,hh,h1,h2=>by
  unfold below.go;have:lo=hi:=by lia
  subst this;exact⟨A8 _,A8 _,h1,h2⟩
 |f+1,lo,hi,hf,hl,hh,h1,h2=>by
  unfold below.go;by_cases c:lo<hi
  .rw[A9 c];dsimp only;have hm:(lo+hi)/2<xs.size:=by lia
   by_cases c2:xs.getD ((lo+hi)/2) j<j
   .rw[A9 c2];rw[qp hm j 0] at c2;obtain⟨a,b,c,d⟩:=lZ r f ((lo+hi)/2+1) hi (by lia) (by lia) hh (λi HB=>by
     by_cases e:i=(lo+hi)/2
     .rw[e];exact c2
     .exact Ci (r i _ (by lia) hm) c2) h2
    exact⟨by lia,b,c,d⟩
   .rw[A6 c2];rw[qp hm j 0] at c2;obtain⟨a,b,c,d⟩:=lZ r f lo ((lo+hi)/2) (by lia) (by lia) (by lia) h1 (λi h3 h4=>by
     by_cases e:i=(lo+hi)/2
     .rw[e];lia
     .have:=r ((lo+hi)/2) i (by lia) h4;lia)
    exact⟨a,by lia,c,d⟩
  .rw[A6 c];have:lo=hi:=by lia
   subst this;exact⟨A8 _,A8 _,h1,h2⟩
theorem xH(r:Ris xs)(j:Nat):below xs j<=xs.size/\(∀i,i<below xs j->xs.getD i 0<j)/\(∀i,below xs j<=i->i<xs.size->j<=xs.getD i 0):=by
 obtain⟨_,b,c,d⟩:=lZ (j:=j) r xs.size 0 xs.size (by lia) (AR _) (A8 _) (λi h=>absurd h (by lia)) (λi h1 h2=>by lia);exact⟨b,c,d⟩
def hAt(es:Array (Int×KN))(i:Nat):Int:=(es[i]?.map (·.1)).getD 0
structure Tb(t:SetTable)(es:Array (Int×KN)):Prop where
 size:t.place.size=es.size
 dum:t.dummies= #[]
 ris:Ris t.place
 few:es.size<64
theorem qq{α:Type}{xs:Array α}{a:α}(h:xs[i]? =some a):i<xs.size:=by
 rcases C4 i xs.size with c|c
 .exact c
 .rw[B7 c] at h;exact nomatch h
theorem jk{t:SetTable}(b:Tb t es)(hs:es.size<=t.mask):t.fits es.size=true:=by
 have h1:t.fill<=t.mask:=by
  unfold SetTable.fill;rw[b.dum,b.size];exact hs
 unfold SetTable.fits;rw[b.size,B3 h1];simp
def hK(k:KW Int):Int:=reduceHash (Builtin.Tuple.tupleHashOf (k.map hashInt))
def okT(t:SetTable)(n:Nat):Bool:=t.fits n&& !t.gaveWay&&t.plain
def srE(t:SetTable)(ks:Array (KW Int))(k:KW Int):Nat->Probe->K0 (K0 Nat)
 |0,_=>none
 |f+1,p=>match t.probe (λi=>(ks[i]?.map hK).getD 0) (hK k) p with
  |some (.empty j none)=>some (some j)
  |some (.candidate j i next)=>match ks[i]? with
   |some k'=>if k'=k then some none else if t.slot j=.live i then srE t ks k f next else none
   |none=>none
  |_=>none
abbrev Ks:=SetTable×Array (KW Int)
variable{y:Ks}
def reE(t:SetTable)(ks:Array (KW Int)):K0 Ks:=(t.relaid (ks.map hK) (grown ks.size)).bind λr=>
 if(r.2.filterMap (ks[·]?)).size=ks.size/\sizeAbove (grown ks.size)<=4096 then some (r.1,r.2.filterMap (ks[·]?)) else none
def puE(t:SetTable)(ks:Array (KW Int))(k:KW Int)(j:Nat):K0 Ks:=
 if(t.put j).2<=ks.size/\ks.size<64/\okT (t.put j).1 (ks.size+1)=true then
  if(t.put j).1.tooFull=true then reE (t.put j).1 (insertAt ks (t.put j).2 k) else some ((t.put j).1,insertAt ks (t.put j).2 k)
 else none
def adE(x:Ks)(k:KW Int):K0 Ks:=if okT x.1 x.2.size=true then(srE x.1 x.2 k 300 (x.1.probeStart (hK k))).bind λr=>match r with
  |none=>some x
  |some j=>puE x.1 x.2 k j
 else none
def stE(x:Ks):KW (KW Int)->K0 Ks
 |[]=>some x
 |k::r=>(adE x k).bind λy=>stE y r
theorem qr{x y:Ks}:∀{l:KW (KW Int)}{i:Nat}{k:KW Int},stE x (l.take i)=some y->l[i]? =some k->stE x (l.take (i+1))=adE y k
 |[],i,k,_,h=>by simp at h
 |a::l,0,k,h,hk=>by
  cases hk;cases h;show(adE x a).bind (λy=>stE y [])=_;cases adE x a<;>rfl
 |a::l,i+1,k,h,hk=>by
  rw[List.take_succ_cons,stE] at h⊢;obtain⟨z,hz,h⟩:=Ay.mp h;rw[hz,Option.bind_some];exact qr (l:=l) h hk
theorem qt{x y:Ks}:∀{l:KW (KW Int)},stE x l=some y->∀i,∃z,stE x (l.take i)=some z
 |[],_,i=>⟨x,by simp[stE]⟩
 |a::l,h,0=>⟨x,rfl⟩
 |a::l,h,i+1=>by
  rw[stE] at h;obtain⟨z,hz,h⟩:=Ay.mp h;obtain⟨u,hu⟩:=qt (l:=l) h i;exact⟨u,by rw[List.take_succ_cons,stE,hz];exact hu⟩
structure EsK(kk:Nat->KW Int)(ad:Nat->KP)(n:Nat)(es:Array (Int×KN))(ks:Array (KW Int)):Prop where
 size:es.size=ks.size
 bo:∀(i:Nat) (k:List Int),ks[i]? =some k->∃j,j<n/\kk j=k/\es[i]? =some (hK k,.ref (ad j))
theorem EsK.hash(e:EsK kk ad n es ks):hAt es=λi=>(ks[i]?.map hK).getD 0:=by
 funext i
 unfold hAt;cases h:ks[i]? with
 |none=>
  have:es[i]? =none:=by rw[Bn,e.size,<-Bn];exact h
  rw[this];rfl
 |some k=>
  obtain⟨j,_,_,h2⟩:=e.bo i k h;rw[h2];rfl
theorem EsK.of(e:EsK kk ad n es ks){v:Int×KN}(h:es[i]? =some v):∃j,j<n/\ks[i]? =some (kk j)/\v=(hK (kk j),.ref (ad j)):=by
 have hi:i<ks.size:=by rw[<-e.size];exact qq h
 obtain⟨j,h1,h2,h3⟩:=e.bo i _ (AW hi);rw[h] at h3;cases h3;exact⟨j,h1,by rw[AW hi,h2],by rw[h2]⟩
def EsK.mono(e:EsK kk ad n es ks)(h:n<=m):EsK kk ad m es ks:=⟨e.size,λi k hk=>let ⟨j,h1,h2⟩:=e.bo i k hk;⟨j,AS h1 h,h2⟩⟩
theorem qu{α:Type}{xs:Array α}(hp:p<=xs.size)(x:α)(i:Nat):(insertAt xs p x)[i]? =if i<p then xs[i]? else if i=p then some x else xs[i-1]? :=by
 unfold insertAt;have s1:(xs.extract 0 p).size=p:=by simp;lia
 have s2:((xs.extract 0 p).push x).size=p+1:=by simp;lia
 by_cases h1:i<p
 .rw[A9 h1,Array.getElem?_append_left (by rw[s2];lia),Array.getElem?_push,A6 (by rw[s1];lia)];simp[Array.getElem?_extract];lia
 .rw[A6 h1];by_cases h2:i=p
  .rw[A9 h2,Array.getElem?_append_left (by rw[s2];lia),Array.getElem?_push,A9 (by rw[s1];exact h2)]
  .rw[A6 h2,Array.getElem?_append_right (by rw[s2];lia),s2];simp only[Array.getElem?_extract];by_cases h3:i-(p+1)<xs.size-p
   .rw[A9 (by lia)];congr 1
    lia
   .rw[A6 (by lia)];symm;rw[Bn];lia
theorem l7{α:Type}{xs:Array α}(hp:p<=xs.size)(x:α):(insertAt xs p x).size=xs.size+1:=by
 unfold insertAt;simp;lia
section
variable{prog:KQ}{w:KS}{A:KU}{E:KN->KO->Prop}{s:KO}
theorem qv(h:ItemsAre (intKind prog w) k vs):∀v∈vs,∃n t,v=.int n t:=by
 induction h with
 |nil=>intro v hv;simp at hv
 | @cons k v' ks vs h1 _ ih=>
  intro v hv;rcases AH.mp hv with rfl|hv
  .cases v with
   |int n t=>exact⟨n,t,rfl⟩
   |_=>exact absurd h1 (by simp[intKind,Value.isInt])
  .exact ih v hv
theorem qw(hx:IsTupleKey (intKind prog w) s.heap k x)(h:Q false s):
  wpAny (model prog w) A (ofAClassStatement 8 (.ref x)) Q E s:=by
 have hT:=hx.typeIs;obtain⟨o,items,n,ho,hc,hd,hi⟩:=hx;unfold ofAClassStatement;refine A0 (DD hT ?_);show wpAny _ _ ((if("tuple"=="tuple")=true then pure true else isSubtype (.type "tuple") (.type "tuple"))>>=_) _ _ s;refine A0 (A2 ?_);simp only[CV,AI,At];refine A0 (CU ho hd ?_);refine A0 ?_;show wpAny _ _ (forIn items _ _) _ _ s;rw[<-Array.forIn_toList];refine wpAny_forIn_list _ (λbj r s'=>r.1=none/\s'=s/\∀v∈bj,∃n t,v=Value.int n t) _ ?_ ?_ _ _ ⟨rfl,rfl,qv hi⟩
 .rintro v bj r s' ⟨hr,rfl,Hn⟩;obtain⟨n,t,rfl⟩:=Hn v Ai;refine A0 (wpAny_of_eq (show ofAClassStatement 7 (.int n t)=pure false from by unfold ofAClassStatement;rfl) (A2 ?_));simp only[AI,At];exact⟨trivial,trivial,λu hu'=>Hn u (AU _ hu')⟩
 .rintro⟨r1,r2⟩ s' ⟨hr,rfl,_⟩;simp only at hr;subst hr;exact A2 h
theorem xI(hx:IsTupleKey (intKind prog w) s.heap k x)(ys:KW KN)
  (hy:∀y∈ys,∃b j,y=.ref b/\IsTupleKey (intKind prog w) s.heap j b) (h:Q false s):
  wpAny (model prog w) A (searchCouldBeSeen (.ref x) ys) Q E s:=by
 unfold searchCouldBeSeen;refine A0 ?_;refine wpAny_forIn_list _ (λbj r s'=>r.1=none/\s'=s/\∀v∈bj,∃b j,v=Value.ref b/\IsTupleKey (intKind prog w) s.heap j b) _ ?_ ?_ _ _ ⟨rfl,rfl,hy⟩
 .rintro v bj r s' ⟨hr,rfl,Hn⟩;obtain⟨b,j,rfl,hj⟩:=Hn v Ai;have JS:∀u∈bj,∃b j,u=Value.ref b/\IsTupleKey (intKind prog w) s'.heap j b:=λu hu'=>Hn u (AU _ hu');dsimp only;split
  .exact A2 ⟨rfl,rfl,JS⟩
  .refine A0 (wpAny_eqIsQuiet_tuple hx ?_);simp only[CV,AI,At];refine A0 (wpAny_eqIsQuiet_tuple hj ?_);simp only[CV,AI,At];refine A0 (qw hx ?_);simp only[AI,At];refine A0 (qw hj ?_);simp only[AI,At];exact A2 ⟨rfl,rfl,JS⟩
 .rintro⟨r1,r2⟩ s' ⟨hr,rfl,_⟩;simp only at hr;subst hr;exact A2 h
def xJ(a:Addr)(x:Value)(h:Int)(GZ:Bool)(Hg:Nat)(Hh:Option Probe):setSearchFrom a x h GZ (Hg+1) Hh=(do
  let (es,_,t)<-setState a
  if t.gaveWay then unsupported "set:on-a-table-that-gave-way"
  let some met:=t.probe (hAt es) h (Hh.getD (t.probeStart h))|unsupported "internal:set-table-without-an-empty-slot"
  match met with
  |.empty j dummy=>
   match dummy with
   |none=>return .free j false
   |some d=>
    if GZ&&t.slot d != .dummy then rule "set.search.the-dummy-was-taken";return<-setSearchFrom a x h GZ Hg none
    return .free d true
  |.candidate j i next=>
   if !t.led then
    if<-searchCouldBeSeen x ((es.filter (·.1==h)).toList.map (·.2)) then unsupported "set:the-search-would-show-the-table"
   let some (_,y):=es[i]? |unsupported "internal:set-entry"
   let HU<-holding [y] (eqBool y x)
   let (GS,_,t')<-setState a
   if GZ&&HU then return .there none
   let some same:=t'.sameMemory t.moves t.mask|unsupported "set.changed-during-lookup:is-the-new-block-at-the-old-address"
   let IT<-match(if same then t'.slot j else .empty) with
    |.live i'=>match GS[i']? with
     |some (_,y')=>do pure (if<-isSame y' y then some i' else none)
     |none=>pure none
    |_=>pure none
   match IT with
   |none=>rule "set.search.anew";setSearchFrom a x h GZ Hg none
   |some i'=>if HU then return .there (some i') else setSearchFrom a x h GZ Hg (some next)):=rfl
theorem qx{a:Addr}{o:Obj}{es:Array (Int×Value)}{ks:Array (List Int)}{ep:Nat}{t:SetTable}{kk:Nat->List Int}{ad:Nat->Addr}{n:Nat}(ho:s.heap.get? a=some o)(hd:o.data=.set es ep t)(hf:t.fits es.size=true)(hw:t.gaveWay=false)
  (hu:A.units<cLine) (ek:EsK kk ad n es ks) (hkk:∀j,j<n->IsTupleKey (intKind prog w) s.heap (kk j) (ad j)) {k:List Int}{x:Addr} (hx:IsTupleKey (intKind prog w) s.heap k x) {Q:SetFound->Shared->Prop}{r:Option Nat}
  (hQ:Q (match r with|none=>.there none|some j=>.free j false) s):
  ∀(m Hg:Nat) (Hh:Option Probe),srE t ks k m (Hh.getD (t.probeStart (hK k)))=some r->m<=Hg->
   wpAny (model prog w) A (setSearchFrom a (.ref x) (hK k) true Hg Hh) Q E s
 |0,_,_,h,_=>nomatch h
 |m+1,0,_,_,h=>absurd h (by lia)
 |m+1,Hg+1,Hh,h,hm=>by
  rw[xJ];refine A0 (BG ho hd hf ?_);dsimp only;rw[hw];simp only[AI,At];rw[srE] at h;rw[ek.hash];generalize hp:t.probe (λi=>(ks[i]?.map hK).getD 0) (hK k) (Hh.getD (t.probeStart (hK k)))=met at h⊢
  match met,h with
  |some (.empty j none),h=>
   cases h;exact A2 hQ
  |some (.candidate j i next),h=>
   dsimp only at h⊢;cases hk:ks[i]? with
   |none=>rw[hk] at h;cases h
   |some k'=>
    rw[hk] at h;dsimp only at h;obtain⟨jj,j1,rfl,ey⟩:=ek.bo i k' hk;have hy:=hkk jj j1;have hSeen:∀y∈(es.filter (λe=>e.1==hK k)).toList.map (·.2),∃b j,y=Value.ref b/\IsTupleKey (intKind prog w) s.heap j b:=by
     intro y hy;obtain⟨e,he,rfl⟩:=Ad.mp hy;have Kn:e∈es:=(Array.mem_filter.mp (CL.mp he)).1;obtain⟨i,hi,ei⟩:=Array.mem_iff_getElem.mp Kn;obtain⟨q,q1,_,q3⟩:=ek.of (AW hi);rw[ei] at q3;subst q3;exact⟨_,_,rfl,hkk q q1⟩
    have JT:wpAny (model prog w) A (do
      let some (_,y):=es[i]? |unsupported "internal:set-entry"
      let HU<-holding [y] (eqBool y (.ref x))
      let (GS,_,t')<-setState a
      if true&&HU then return SetFound.there none
      let some same:=t'.sameMemory t.moves t.mask|unsupported "set.changed-during-lookup:is-the-new-block-at-the-old-address"
      let IT<-match(if same then t'.slot j else .empty) with
       |.live i'=>match GS[i']? with
        |some (_,y')=>do pure (if<-isSame y' y then some i' else none)
        |none=>pure none
       |_=>pure none
      match IT with
      |none=>rule "set.search.anew";setSearchFrom a (.ref x) (hK k) true Hg none
      |some i'=>if HU then return SetFound.there (some i') else setSearchFrom a (.ref x) (hK k) true Hg (some next)) Q E s:=by
     rw[ey];dsimp only;refine A0 (Ap (wpAny_eqBool_tuple hu hy hx ?_));refine A0 (BG ho hd hf ?_);dsimp only;by_cases HC:kk jj=k
     .rw[A9 HC] at h;cases h;rw[B3 HC];simp only[Bool.true_and,Bh];exact A2 hQ
     .rw[A6 HC] at h;rw[Al HC];simp only[CK,AI,At];have hsm:t.sameMemory t.moves t.mask=some true:=by unfold SetTable.sameMemory;simp
      rw[hsm];dsimp only;by_cases hs:t.slot j=.live i
      .rw[A9 hs] at h;rw[A9 rfl,hs];dsimp only;rw[ey];dsimp only;refine A0 ?_;refine wpAny_isSame_ref_self ?_;simp only[Bh];exact qx ho hd hf hw hu ek hkk hx hQ m Hg (some next) h (by lia)
      .rw[A6 hs] at h;cases h
    cases hl:t.led with
    |true=>simpa only[CV,AI,At] using JT
    |false=>
     simp only[Bool.not_false,Bh];refine A0 (xI hx _ hSeen ?_);simp only[AI,At];exact JT
theorem qy{es:Array (Int×KN)}{ep:Nat}{t:SetTable}(ho:h.get? a=some {cls:= .type "set",dict:=none,data:= .set es ep t})(GS:Array (Int×KN))(t':SetTable):
  (h.update a (Obj.putSet GS t')).get? a=some {cls:= .type "set",dict:=none,data:= .set GS (ep+1) t'}:=by
 have:=Bw (Obj.putSet GS t') ho (by rw[putSet_of GS t' rfl];rfl);rw[putSet_of GS t' rfl] at this;exact this
theorem xK(hx:IsTupleKey (intKind prog w) s.heap k x)(h:Q true s):
  wpAny (model prog w) A (hashByValue 8 (.ref x)) Q E s:=by
 have hT:=hx.typeIs;obtain⟨o,items,n,ho,hc,hd,hi⟩:=hx;unfold hashByValue;refine A0 (wpAny_specialOf hT F.slot_tuple_hash.lookup ?_);dsimp only;refine A0 (CU ho hd ?_);refine A0 ?_;show wpAny _ _ (forIn items _ _) _ _ s;rw[<-Array.forIn_toList];refine wpAny_forIn_list _ (λbj r s'=>r.1=none/\s'=s/\∀v∈bj,∃n t,v=Value.int n t) _ ?_ ?_ _ _ ⟨rfl,rfl,qv hi⟩
 .rintro v bj r s' ⟨hr,rfl,Hn⟩;obtain⟨n,t,rfl⟩:=Hn v Ai;refine A0 (wpAny_of_eq (show hashByValue 7 (.int n t)=pure true from by unfold hashByValue;rfl) (A2 ?_));simp only[CV,AI,At];exact⟨trivial,trivial,λu hu'=>Hn u (AU _ hu')⟩
 .rintro⟨r1,r2⟩ s' ⟨hr,rfl,_⟩;simp only at hr;subst hr;exact A2 h
def xL(a:Addr)(Il:Nat):setRelay a Il=(do
  let (es,_,t)<-setState a
  if SetTable.sizeAbove Il>sizeLine then unsupported "set:memory"
  let (es,t)<-(do
   let some (t,order):=t.relaid (es.map (·.1)) Il|unsupported "internal:set-table-without-room"
   let GS:=order.filterMap (es[·]?)
   if GS.size !=es.size then unsupported "internal:set-table-lost-an-element"
   pure (GS,t):Sem (Array (Int×Value)×SetTable))
  storeSet a es t):=rfl
def dD(h:KZ)(S:KP)(t:SetTable)(es:Array (Int×KN)):Prop:=∃ep,h.get? S=some {cls:= .type "set",dict:=none,data:= .set es ep t}
theorem EsK.ins{kk:Nat->KW Int}{ad:Nat->KP}{n:Nat}{es:Array (Int×KN)}{ks:Array (KW Int)}(e:EsK kk ad n es ks){p:Nat}(hp:p<=ks.size):EsK kk ad (n+1) (insertAt es p (hK (kk n),.ref (ad n))) (insertAt ks p (kk n)):=by
 have G2:p<=es.size:=by rw[e.size];exact hp
 refine⟨by rw[l7 G2,l7 hp,e.size],λi k h=>?_⟩;rw[qu hp] at h;rw[qu G2];have Jj:∀i,ks[i]? =some k->∃j,j<n+1/\kk j=k/\es[i]? =some (hK k,Value.ref (ad j)):=λi h=>let ⟨j,h1,h2⟩:=e.bo i k h;⟨j,by lia,h2⟩;split at h
 .rename_i c;rw[A9 c];exact Jj _ h
 .rename_i c;rw[A6 c];split at h
  .rename_i c2;rw[A9 c2];cases h;exact⟨n,by lia,rfl,rfl⟩
  .rename_i c2;rw[A6 c2];exact Jj _ h
theorem qz{α β:Type}{xs:Array α}{ys:Array β}(e:xs.size=ys.size):∀(l:KW Nat),(l.filterMap (xs[·]?)).length=(l.filterMap (ys[·]?)).length/\∀(i:Nat) (v:β),(l.filterMap (ys[·]?))[i]? =some v->∃q:Nat,ys[q]? =some v/\(l.filterMap (xs[·]?))[i]? =xs[q]?
 |[]=>⟨rfl,λi v h=>by simp at h⟩
 |q::l=>by
  obtain⟨h1,h2⟩:=qz e l;rw[CT,CT];rcases C4 q xs.size with c|c
  .rw[AW c,AW (by lia:q<ys.size)];refine⟨by simp only[AN];lia,λi v h=>?_⟩;cases i with
   |zero=>exact⟨q,by rw[AW (by lia:q<ys.size)];simpa using h,by rw[AW c];rfl⟩
   |succ i=>exact h2 i v (by simpa using h)
  .rw[B7 c,B7 (by lia)];exact⟨h1,h2⟩
theorem EsK.re(e:EsK kk ad n es ks)(od:Array Nat):EsK kk ad n (od.filterMap (es[·]?)) (od.filterMap (ks[·]?)):=by
 obtain⟨h1,h2⟩:=qz e.size od.toList;rw[<-Array.toList_filterMap,<-Array.toList_filterMap] at h1;refine⟨by rw[<-AV,<-AV];exact h1,λi k h=>?_⟩;rw[<-B9,Array.toList_filterMap] at h⊢;obtain⟨q,q1,q2⟩:=h2 i k h;rw[q2];exact e.bo q k q1
theorem xM{t:SetTable}(hS:dD s.heap S t es)(ek:EsK kk ad n es ks)
  (hkk:∀j,j<n+1->IsTupleKey (intKind prog w) s.heap (kk j) (ad j)) (hu:A.units<cLine) (h:adE (t,ks) (kk n)=some y) 
  (k:∀b h' GS,Heap.SameBut S s.heap h'->dD h' S y.1 GS->EsK kk ad (n+1) GS y.2->Q b {s with heap:=h'}):
  wpAny (model prog w) A (setAddHashed S (.ref (ad n)) (hK (kk n))) Q E s:=by
 have hS0:=hS;obtain⟨ep,ho⟩:=hS;have hx:=hkk n (by lia);unfold adE at h;split at h
 .rename_i hok;unfold okT at hok;simp only[AB,CC] at hok;obtain⟨⟨hf,hw⟩,hp⟩:=hok;have hf:t.fits es.size=true:=by rw[ek.size];exact hf
  obtain⟨r,hr,h⟩:=Ay.mp h;unfold setAddHashed setAddHashedIn;refine Ap (A0 (BG ho rfl hf ?_));dsimp only;have Kl:byScan (.ref (ad n)) es=false:=by unfold byScan;rfl
  rw[Kl];simp only[AI,At];unfold setSearch;refine A0 (qx ho rfl hf hw hu ek (λj hj=>hkk j (by lia)) hx (r:=r) ?_ 300 100000 none hr (by lia));cases r with
  |none=>
   cases h;exact A2 (k false s.heap es (Heap.SameBut.refl _ _) hS0 (ek.mono (by lia)))
  |some j=>
   dsimp only at h⊢;unfold puE at h;split at h
   .rename_i c;obtain⟨c1,c2,c3⟩:=c;unfold okT at c3;simp only[AB,CC] at c3;obtain⟨⟨f1,w1⟩,p1⟩:=c3;refine A0 (BG ho rfl hf ?_);dsimp only;generalize t.put j=tp at c1 f1 w1 p1 h⊢;obtain⟨t1,p⟩:=tp;dsimp only at c1 f1 w1 p1 h⊢;rw[A9 p1];refine A0 (xK hx ?_);simp only[Bh];have Ko:=ek.ins c1;have z1:(insertAt es p (hK (kk n),Value.ref (ad n))).size=es.size+1:=l7 (by rw[ek.size];exact c1) _;have e64:es.size<64:=by rw[ek.size];exact c2
    have hsl:sizeLine>=4096:=by rw[As];decide
    have f1':t1.fits (insertAt es p (hK (kk n),Value.ref (ad n))).size=true:=by rw[z1,ek.size];exact f1
    refine A0 (wpAny_storeSet_of ho rfl ?_ (by rw[z1];lia));have GU:=qy ho (insertAt es p (hK (kk n),Value.ref (ad n))) t1;have sb1:=B6 s.heap S (Obj.putSet (insertAt es p (hK (kk n),Value.ref (ad n))) t1);generalize s.heap.update S (Obj.putSet (insertAt es p (hK (kk n),Value.ref (ad n))) t1)=h1 at GU sb1⊢;rw[<-z1];generalize insertAt es p (hK (kk n),Value.ref (ad n))=es1 at Ko f1' GU z1⊢;generalize insertAt ks p (kk n)=ks1 at Ko h;cases full:t1.tooFull with
    |true=>
     rw[full,A9 rfl] at h;simp only[Bool.not_false,Bool.and_self,Bh];unfold reE at h;obtain⟨q,hq,h⟩:=Ay.mp h;split at h
     .rename_i c4;cases h;have eh:es1.map (·.1)=ks1.map hK:=by
       refine Array.ext_getElem? λi=>?_;rw[Array.getElem?_map,Array.getElem?_map];cases e:ks1[i]? with
       |none=>
        have:es1[i]? =none:=by rw[Bn,Ko.size,<-Bn];exact e
        rw[this];rfl
       |some k0=>
        obtain⟨_,_,_,e2⟩:=Ko.bo i k0 e;rw[e2];rfl
      rw[xL];refine A0 ?_;refine A0 (BG (s:={s with heap:=h1}) GU rfl f1' ?_);dsimp only;have zk:es1.size=ks1.size:=Ko.size;rw[A6 (by rw[zk];lia),eh,zk,hq];dsimp only;have ek2:=Ko.re q.2;rw[show((q.2.filterMap (es1[·]?)).size !=ks1.size)=false from by rw[ek2.size,c4.1];simp];simp only[AI,At];refine A0 (A2 ?_);refine wpAny_storeSet_of (s:={s with heap:=h1}) GU rfl ?_ (by rw[ek2.size,c4.1,<-zk,z1];lia);have G9:=qy GU (q.2.filterMap (es1[·]?)) q.1;have sb2:=B6 h1 S (Obj.putSet (q.2.filterMap (es1[·]?)) q.1);generalize h1.update S _=h2 at G9 sb2⊢;exact A2 (k true h2 _ (sb1.trans sb2) ⟨_,G9⟩ ek2)
     .cases h
    |false=>
     rw[full,A6 (by simp)] at h;cases h;simp only[Bool.not_false,CK,AI,At];exact A2 (k true h1 _ sb1 ⟨_,GU⟩ Ko)
   .cases h
 .cases h
theorem dD.mv{t:SetTable}(a:dD h S t es)(e:∀o,h.get? S=some o->h'.get? S=some o):dD h' S t es:=by obtain⟨ep,ho⟩:=a;exact⟨ep,e _ ho⟩
theorem l9(q:IsTupleKey (intKind prog w) h k x)(e:∀o,h.get? x=some o->h'.get? x=some o):IsTupleKey (intKind prog w) h' k x:=by
 obtain⟨o,items,n,ho,r⟩:=q;exact⟨o,items,n,e _ ho,r⟩
theorem xN{R:Result->KO->Prop}{I:KP}{fp wr:KW KP}{G:Array GenState->Array GenState->Prop}{P:Nat->KN->Prop}{St:Nat->KO->Prop}
  (Wq:WalksS prog w A.in1 I fp wr G n P St) (S:KP) (hSf:S∉fp) (hu:A.in1.units<cLine)
  (kk:Nat->KW Int) (ad:Nat->KP) (hval:∀i v,P i v->v=.ref (ad i)) (hwr:∀i,i<n->ad i∉wr) {x0:Ks}{l:KW (KW Int)} (hlk:∀i,i<n->l[i]? =some (kk i)) (hse:∀i,∃y,stE x0 (l.take i)=some y):
  ∀(k i:Nat) (s:KO) (es:Array (Int×KN)) (y:Ks),n-i=k->i<=n->St i s->dD s.heap S y.1 es->EsK kk ad i es y.2->stE x0 (l.take i)=some y->(∀j,j<n->IsTupleKey (intKind prog w) s.heap (kk j) (ad j))->
   (∀s' GS y',Moved (S::wr) G s s'->dD s'.heap S y'.1 GS->EsK kk ad n GS y'.2->stE x0 (l.take n)=some y'->R (.ok (.ret .none)) s')->
   codeAny (model prog w) A (.builtin "set.update.loop" ⟨[.ref S,.ref I],[]⟩) R s:=by
 have hSw:S∉wr:=λh=>hSf (Wq.sub _ h);have IU:∀b∈wr,b∈S::wr:=λb hb=>AU _ hb;intro k;induction k with
 |zero=>
  intro i s es y hk hi Hw hS ek hy hkk hR;have hin:i=n:=by lia
  subst hin;refine Bk F.entry_set_update_loop ?_;rw[Bg F.plain_set_update_loop _];show wpAny _ A.in1 (pyNext (.ref I)>>=_) _ _ s;refine A0 (Wq.done s _ _ Hw λs' hm=>?_);show wpAny _ A.in1 (ret Value.none) _ _ s';exact A2 (hR s' es y (hm.mono IU) (hS.mv λo e=>hm.heap S o hSw e) ek hy)
 |succ k ih=>
  intro i s es y hk hi Hw hS ek hy hkk hR;have Gx:i<n:=by lia
  refine Bk F.entry_set_update_loop ?_;rw[Bg F.plain_set_update_loop _];show wpAny _ A.in1 (pyNext (.ref I)>>=_) _ _ s;refine A0 (Wq.item i s _ _ Gx Hw λv s' hP hst' hm=>?_);obtain rfl:=hval i v hP;have Jx:dD s'.heap S y.1 es:=hS.mv λo e=>hm.heap S o hSw e;have HC:∀j,j<n->IsTupleKey (intKind prog w) s'.heap (kk j) (ad j):=λj hj=>l9 (hkk j hj) λo e=>hm.heap _ o (hwr j hj) e;obtain⟨y2,hy2⟩:=hse (i+1);have hy3:=hy2;rw[qr hy (hlk i Gx)] at hy3;show wpAny _ A.in1 (holding [Value.ref (ad i)] (setAdd S (.ref (ad i)))>>=_) _ _ s';refine A0 (Ap ?_);unfold setAdd;refine Ap ?_;refine A0 (wpAny_pyHash_tuple hu (HC i Gx) ?_);refine xM (s:={s' with toks:=s'.toks+((kk i).length+1)}) Jx ek (λj hj=>HC j (by lia)) hu (y:=y2) hy3 λb h' GS hsb hS2 ek2=>?_;have hkS:∀j,j<n->ad j≠S:=by
   intro j hj e;obtain⟨o,items,m,ho,_,hd,_⟩:=HC j hj;obtain⟨ep,Hk⟩:=Jx;rw[e,Hk,Option.some.injEq] at ho;subst ho;exact nomatch hd
  refine A2 ⟨D7 F.plain_set_update_loop _,ih (i+1) _ GS y2 (by lia) Gx (Wq.frame _ s' _ _ hst' (Nat.le_add_right _ _) λb hb o e=>?_) hS2 ek2 hy2 (λj hj=>l9 (HC j hj) λo e=>?_) λHJ es'' y'' hm'' hS'' ek'' hy''=>?_⟩
  .rw[hsb.2 b (λh:b=S=>hSf (by rw[<-h];exact hb))];exact e
  .show h'.get? _=_;rw[hsb.2 _ (hkS j hj)];exact e
  .refine hR HJ es'' y'' (Moved.trans Wq.gtrans ((hm.mono IU).then_heap (Nat.le_add_right _ _) λb o hb e=>?_) hm'') hS'' ek'' hy'';rw[hsb.2 b (λh:b=S=>hb (by rw[h];exact Ai))];exact e
theorem xO(a:KN){Q₁:KN->KO->Prop}
  (h:Q₁ (.ref s.heap.objs.size) {s with heap:=s.heap.push {cls:= .type "set",dict:=none,data:= .set #[] 0 (.fresh 0 0 (!w.params.followText "set-order"))}}):
  codeAny (model prog w) A (.call (.builtin "set.__new__") ⟨[.type "set",a],[]⟩) (wants Q₁ E) s:=by
 refine codeAny_of_tree ?_;show wpAny _ A.in1 (do checkBuiltinCall "set.__new__" ⟨[.type "set",a],[]⟩;again (.builtin "set.__new__" ⟨[.type "set",a],[]⟩)) _ _ s;refine A0 (wpAny_of_eq (F.newCall_set_1 a) (A2 ⟨D7 F.plain_set_new _,Bk F.entry_set_new ?_⟩));rw[Bg F.plain_set_new _];unfold Builtin.«set.__new__» Builtin.Frozenset.newClass;have IU:=sub_set_self;obtain⟨hp,g,d,tk,os⟩:=s;dsimp only
 wp_walk
 refine D6 (A2 ?_);dsimp only;simp only[newObj];refine A0 (wpAny_alloc (A2 ?_));exact A2 h
theorem xP{l:KP}{items:Array KN}{Q:KN->KO->Prop}
  (hh:A.handled=none) (hu:A.units+8<cLine) (hl:s.heap.IsList l items) {xs:KW (KW Int)} (hxs:∀i,i<items.size->xs[i]? =some (kk i)) (hxl:xs.length=items.size) (Hw:stE (.fresh 0 0 (!w.params.followText "set-order"), #[]) xs=some y)
  (hk:∀i,i<items.size->items[i]? =some (.ref (ad i))/\IsTupleKey (intKind prog w) s.heap (kk i) (ad i))
  (h:∀(h':KZ) (tk:Nat) (es:Array (Int×KN)),dD h' s.heap.objs.size y.1 es->EsK kk ad items.size es y.2->
   (∀b o,b<s.heap.objs.size->s.heap.get? b=some o->h'.get? b=some o)->Q (.ref s.heap.objs.size) {s with heap:=h',toks:=tk}):
  wpAny (model prog w) A (call (.type "set") [.ref l]) Q E s:=by
 obtain⟨c,tl,hmro⟩:=Cc.mro;have hmade:=Cc.made;have IU:=Cc.sub;refine wpAny_call (codeAny_of_tree ?_);show wpAny _ _ (callAny (.type "set") _) _ _ _;refine A2 ⟨Code.quiet_builtin _ (by ac_nf),Bk F.entry_type_call ?_⟩;rw[Around.under_plain (weight_type_call_type "set" [.ref l] []) rfl];have h1:=Cc.notType;have h2:=Cc.canCreate;have hct:=F.typeCall_set_1 (.ref l)
 repeat (any_goals (first|assumption|wp_step))
 refine CD (xO (.ref l) (E:=E) (Q₁:=λobj s₁=>obj=.ref s.heap.objs.size/\s₁={s with heap:=s.heap.push {cls:= .type "set",dict:=none,data:= .set #[] 0 (.fresh 0 0 (!w.params.followText "set-order"))}}) ⟨rfl,rfl⟩) λr s₁ hr=>?_;generalize (!w.params.followText "set-order")=led at Hw hr;cases r with
 |error e=>exact hr
 |ok fl=>
  cases fl with
  |ret obj=>
   obtain⟨rfl,rfl⟩:=hr;have hS:(s.heap.push {cls:= .type "set",dict:=none,data:= .set #[] 0 (.fresh 0 0 led)}).get? s.heap.objs.size=some {cls:= .type "set",dict:=none,data:= .set #[] 0 (.fresh 0 0 led)}:=AC _ rfl;have hT:Shared.TypeIs {s with heap:=s.heap.push {cls:= .type "set",dict:=none,data:= .set #[] 0 (.fresh 0 0 led)}} (.ref s.heap.objs.size) "set":=⟨_,hS,rfl⟩;have GN:=Cc.init.lookup;have hbi:=Cc.init.bind (.ref s.heap.objs.size)
   repeat (any_goals (first|assumption|wp_step))
   refine CD (codeAny_call_builtin (R:=wants (λr s₂=>r=.none/\∃h' tk es,s₂={s with heap:=h',toks:=tk}/\
     dD h' s.heap.objs.size y.1 es/\EsK kk ad items.size es y.2/\
     (∀b o,b<s.heap.objs.size->s.heap.get? b=some o->h'.get? b=some o)) E) Cc.init.plain F.entry_set_init (check_set_init_1 hT ?_)) λr₂ s₂ hr₂=>?_
   .obtain⟨ol,hol,IF,nl,hdl⟩:=hl;obtain⟨ocls,odict,odata,Kp⟩:=ol;simp only at IF hdl;subst IF;subst hdl;have hol':(s.heap.push {cls:= .type "set",dict:=none,data:= .set #[] 0 (.fresh 0 0 led)}).get? l=some {cls:= .type "list",dict:=odict,data:= .seq items nl,slots:=Kp}:=A4 _ hol;have hsls:=F.sub_list_set;have hslf:=F.sub_list_frozenset;have Hi:(Value.type "list"==Value.type "dict")=false:=by decide
    have Ia:(s.heap.push {cls:= .type "set",dict:=none,data:= .set #[] 0 (.fresh 0 0 led)}).IsList l items:=⟨_,hol',rfl,nl,rfl⟩;unfold Builtin.«set.__init__» noKeywords Builtin.Frozenset.updateFrom;generalize hPI:pyIter=PI
    wp_walk
    subst hPI;refine Cw Ia ?_;refine A0 (wpAny_runValue ?_);have hlS:l<s.heap.objs.size:=AD hol;have hh3:A.in1.in1.in1.handled=none:=by simp[hh]
    have hneI:l≠(s.heap.push {cls:= .type "set",dict:=none,data:= .set #[] 0 (.fresh 0 0 led)}).objs.size:=by
     rw[Aw];exact AE (Ab hlS)
    have hSf:s.heap.objs.size∉[(s.heap.push {cls:= .type "set",dict:=none,data:= .set #[] 0 (.fresh 0 0 led)}).objs.size,l]:=by
     rw[Aw];simp only[AH,An,Av,Bl,not_or];exact⟨AE (B8 _),BZ hlS⟩
    refine xN ((Walks.list hh3 _ l hneI items).toS) s.heap.objs.size
     hSf ?hu kk ad ?hval ?hwr hxs (qt Hw) (items.size-0) 0 _ #[] _ (by lia) (AR _)
     ⟨⟨_,AC _ rfl,rfl,rfl⟩,(Ia.push _)⟩ ?hS0 ?hE0 rfl ?hkk ?hR
    case hu=>show A.units+3<cLine;lia
    case hval=>
     intro i v hv;have hi:i<items.size:=qq hv;rw[(hk i hi).1,Option.some.injEq] at hv;exact hv.symm
    case hwr=>
     intro i hi;obtain⟨o,_,_,ho,_⟩:=(hk i hi).2;have:=AD ho;rw[Aw];simp only[AH,Av,Bl];exact AE (Ab this)
    case hS0=>exact⟨_,A4 _ hS⟩
    case hE0=>exact⟨rfl,λi k e=>by simp at e⟩
    case hkk=>exact λj hj=>l9 (hk j hj).2 λo e=>A4 _ (A4 _ e)
    case hR=>
     intro s' GS y' hm Jx ek' hy';rw[<-hxl,Az,Hw] at hy';cases hy';obtain⟨h',g',d',tk',Kd⟩:=s';have eg:g'=s.gens:=hm.gens;have ed:d'=s.drawn:=hm.drawn;have eo:Kd=s.os:=hm.os;subst eg;subst ed;subst eo;show wpAny _ _ _ _ _ _;refine A2 ?_;show wpAny _ _ (ret Value.none) _ _ _;refine A2 ⟨rfl,h',tk',GS,rfl,Jx,ek',λb o hb e=>?_⟩;have IB:b≠s.heap.objs.size:=AE hb;have GK:b≠(s.heap.push {cls:= .type "set",dict:=none,data:= .set #[] 0 (.fresh 0 0 led)}).objs.size:=by
      rw[Aw];exact AE (Ab hb)
     exact hm.heap b o (by simp only[AH,An,Av,Bl,not_or];exact⟨IB,GK⟩) (A4 _ (A4 _ e))
   .cases r₂ with
    |error e=>exact hr₂
    |ok fl₂=>
     cases fl₂ with
     |ret r=>
      obtain⟨rfl,h',tk,es,rfl,Jx,ek',IQ⟩:=hr₂
      repeat (any_goals (first|assumption|wp_step))
      exact h _ _ _ Jx ek' IQ
     |_=>exact hr₂.elim
  |_=>exact hr.elim
end
theorem xQ:entryFor table "set.__iter__"=some Builtin.«frozenset.__iter__»:=
 entryFor_alias (id':="frozenset.__iter__") (by kernel_rfl) rfl (by ac_nf) (by kernel_rfl)
theorem qA:Slot "set_iterator" "__iter__" "set_iterator.__iter__":=
 .of (owner:="set_iterator") (n:="__iter__") (by rw[typeLookup_type,builtinLookup_eq_fast];kernel_rfl) (by ac_nf) (by ac_nf) (by ac_nf)
  (by first|exact .inl (by ac_nf)|exact .inr (by ac_nf)) (by rw[isSubtype_type];kernel_rfl)
theorem xR:entryFor table "set_iterator.__iter__"=some Builtin.«dict_keyiterator.__iter__»:=
 entryFor_alias (id':="dict_keyiterator.__iter__") (by kernel_rfl) rfl (by ac_nf) (by kernel_rfl)
theorem xS(a:KN):argsOk "set_iterator.__iter__" ⟨[a],[]⟩:=by unfold argsOk;kernel_rfl
theorem gi:Slot "set_iterator" "__next__" "set_iterator.__next__":=
 .of (owner:="set_iterator") (n:="__next__") (by rw[typeLookup_type,builtinLookup_eq_fast];kernel_rfl) (by ac_nf) (by ac_nf) (by ac_nf)
  (by first|exact .inl (by ac_nf)|exact .inr (by ac_nf)) (by rw[isSubtype_type];kernel_rfl)
theorem qB:entryFor table "set_iterator.__next__"=some Builtin.«set_iterator.__next__»:=entryFor_of_tree (by kernel_rfl)
theorem qC(a:KN):argsOk "set_iterator.__next__" ⟨[a],[]⟩:=by unfold argsOk;kernel_rfl
theorem qD{α:Type}:∀(l:KW α) (i:Nat) (h:i<l.length),([l[i]]++l.eraseIdx i).Perm l
 |[],i,h=>absurd h (by simp)
 |a::l,0,h=>by simp
 |a::l,i+1,h=>by
  have hi:i<l.length:=by simpa using h
  have:=qD l i hi;simp only[List.getElem_cons_succ,List.eraseIdx_cons_succ,List.singleton_append] at this⊢;exact(List.Perm.swap a l[i] _).trans (this.cons a)
theorem qE{α:Type}(next:Nat->Nat):∀(f k:Nat) (left:KW α) (Gw:Array α),left.length=f->(pickOrder.go next f k left Gw).toList.Perm (Gw.toList++left)
 |0,k,left,Gw,e=>by
  have:left=[]:=Bz.mp e;subst this;unfold pickOrder.go;simp
 |f+1,k,left,Gw,e=>by
  have hp:next k%left.length<left.length:=Nat.mod_lt _ (by lia);unfold pickOrder.go;rw[A1 hp];dsimp only;refine(qE next f (k+1) _ _ (by rw[List.length_eraseIdx_of_lt hp];lia)).trans ?_;rw[Array.toList_push,Cm];refine List.Perm.append_left _ ?_;exact qD left _ hp
theorem xT{α:Type}(next:Nat->Nat)(xs:Array α):(pickOrder next xs).toList.Perm xs.toList:=by
 unfold pickOrder;simpa using qE next xs.size 0 xs.toList #[] (by simp)
def dY(w:KS)(a:KP)(ep:Nat)(es:Array (Int×KN)):Array (Int×KN):=if w.params.followText "set-order" then pickOrder (w.params.setOrder a ep) es else es
theorem qF(w:KS)(a:KP)(ep:Nat)(es:Array (Int×KN)):(dY w a ep es).toList.Perm es.toList:=by
 unfold dY;split
 .exact xT _ _
 .exact List.Perm.refl _
theorem ma(w:KS)(a:KP)(ep:Nat)(es:Array (Int×KN)):(dY w a ep es).size=es.size:=by
 have:=(qF w a ep es).length_eq;simpa using this
def bE(w:KS)(t:SetTable)(i:Nat):Nat:=if w.params.followText "set-order" then 0 else if i=0 then 0 else t.place.getD (i-1) 0+1
theorem qG(r:Ris xs){j:Nat}(hp:p<=xs.size)(h1:∀i,i<p->xs.getD i 0<j)(h2:∀i,p<=i->i<xs.size->j<=xs.getD i 0):below xs j=p:=by
 obtain⟨a1,a2,a3⟩:=xH r j;rcases Nat.lt_trichotomy (below xs j) p with c|c|c
 .have:=h1 _ c;have:=a3 _ (A8 _) (by lia);lia
 .exact c
 .have:=a2 _ c;have:=h2 p (A8 _) (by lia);lia
theorem xU{t:SetTable}(r:Ris t.place)(hi:i<=t.place.size):below t.place (if i=0 then 0 else t.place.getD (i-1) 0+1)=i:=by
 by_cases z:i=0
 .subst z;exact qG r (AR _) (λi h=>absurd h (by lia)) λi _ _=>AR _
 .rw[A6 z];refine qG r hi (λj hj=>?_) λj h1 h2=>?_
  .rcases C4 j (i-1) with c|c
   .have:=r j (i-1) c (by lia);lia
   .have:j=i-1:=by lia
    subst this;lia
  .have:=r (i-1) j (by lia) h2;lia
section
variable{prog:KQ}{w:KS}{A:KU}{E:KN->KO->Prop}{s:KO}
def xV(a:Addr)(slot given epochThen:Nat):setNext a slot given epochThen=(do
  let (es,epoch,t)<-setState a
  if<-setsByText then
   if epoch !=epochThen then unsupported "set_iterator.__next__:elements-changed"
   return ((<-setWalk a)[given]?).map λe=>(e.2,slot)
  if !t.plain&&es.size>1 then unsupported "set_iterator.__next__:the-table-is-plain-no-more"
  (do if !t.led&& !es.isEmpty then unsupported "set:maker-not-led":Sem Unit)
  let i:=SetTable.below t.place slot
  return match es[i]?,t.place[i]? with
   |some (_,x),some j=>some (x,j+1)
   |_,_=>none):=rfl
theorem qH{es:Array (Int×KN)}{ep:Nat}{t:SetTable}{i:Nat}{Q:K0 (KN×Nat)->KO->Prop}
  (ho:s.heap.get? S=some {cls:= .type "set",dict:=none,data:= .set es ep t}) (b:Tb t es) (hs:es.size<=t.mask) (hl:t.led= !w.params.followText "set-order") (hp:t.plain=true) (hi:i<=es.size)
  (h:Q (((dY w S ep es)[i]?).map λe=>(e.2,bE w t (i+1))) s):wpAny (model prog w) A (setNext S (bE w t i) i ep) Q E s:=by
 have hf:=jk b hs;rw[xV];refine A0 (BG ho rfl hf ?_);dsimp only;unfold setsByText;refine A0 (A0 (D6 (A2 ?_)));show wpAny _ _ (if(w.params.followText "set-order")=true then _ else _) _ _ s;unfold dY bE at h;unfold bE;cases ht:w.params.followText "set-order" with
 |true=>
  rw[ht] at h;simp only[Bh] at h⊢;simp only[Ch,AI,At];unfold setWalk;refine A0 (A0 (BG ho rfl hf ?_));dsimp only;unfold setsByText;refine A0 (A0 (D6 (A2 ?_)));show wpAny _ _ (if(w.params.followText "set-order")=true then _ else _) _ _ s;rw[ht];simp only[Bh];refine A0 (D6 (A2 ?_));exact A2 h
 |false=>
  rw[ht] at h hl;simp only[AI,At] at h⊢;rw[hp,hl];simp only[CV,Bool.not_false,Bool.false_and,AI,At];refine A0 (A2 ?_);rw[xU b.ris (by rw[b.size];exact hi)];refine A2 ?_;rcases C4 i es.size with c|c
  .have c':i<t.place.size:=by rw[b.size];exact c
   have e2:t.place.getD (i+1-1) 0=t.place[i]:=by simp[Array.getD,c']
   rw[AW c] at h⊢;rw[AW c'];rw[A6 (by lia),e2] at h;exact h
  .rw[B7 c] at h⊢;exact h
def dE(h:KZ)(it S:KP)(slot i n ep:Nat):Prop:=∃o,h.get? it=some o/\o.cls=.type "set_iterator"/\o.data=.fields #[.int slot 0,.int i 0,.ref S,.int n 0,.int ep 0]
theorem dE.typeIs(x:dE s.heap it S slot i n ep):s.TypeIs (.ref it) "set_iterator":=by obtain⟨o,ho,hc,_⟩:=x;exact⟨o,ho,hc⟩
theorem dE.mv(x:dE h it S slot i n ep)(e:∀o,h.get? it=some o->h'.get? it=some o):dE h' it S slot i n ep:=by obtain⟨o,ho,r⟩:=x;exact⟨o,e _ ho,r⟩
theorem xW{es:Array (Int×KN)}{ep:Nat}{t:SetTable}{Q:KN->KO->Prop}
  (ho:s.heap.get? S=some {cls:= .type "set",dict:=none,data:= .set es ep t}) (b:Tb t es) (hs:es.size<=t.mask) (hp:t.plain=true)
  (h:Q (.ref s.heap.objs.size) {s with heap:=s.heap.push {cls:= .type "set_iterator",data:= .fields #[.int (bE w t 0:Nat) 0,.int (0:Nat) 0,.ref S,.int es.size 0,.int ep 0]}}):
  wpAny (model prog w) A (pyIter (.ref S)) Q E s:=by
 have hT:s.TypeIs (.ref S) "set":=⟨_,ho,rfl⟩;have hf:=jk b hs;refine wpAny_pyIter_slot hT F.slot_set_iter (Ag F.slot_set_iter hT xQ ?_ (F.args_set_iter_1 _));unfold Builtin.«frozenset.__iter__» Builtin.Frozenset.slot0 slotArgs;simp only[List.isEmpty_nil,CV,AI,↓reduceIte,bind_assoc,List.length_nil,Ch];unfold Builtin.Frozenset.addrOf Builtin.Frozenset.sizeOf setEntries;refine A0 (A2 ?_);try dsimp only
 refine A0 (A2 ?_);refine A0 (A0 (A0 (BG ho rfl hf (A2 (A2 ?_)))));have hdr:∀{Q':Bool->KO->Prop},Q' false s->wpAny (model prog w) A.in1 (setDrawn S) Q' E s:=by
  intro Q' q;unfold setDrawn;refine A0 (BG ho rfl hf ?_);dsimp only;unfold setsByText;refine A0 (A0 (D6 (A2 ?_)));refine A2 ?_;have:(!t.plain&&decide (es.size>1))=false:=by rw[hp];rfl
  show Q' (!w.params.followText "set-order"&&(!t.plain&&decide (es.size>1))) s;rw[this,CK];exact q
 refine A0 (hdr ?_);simp only[AI,At];refine A0 (A2 ?_);refine A0 (wpAny_setEpoch_of ho rfl hf ?_);unfold newFields;refine A0 (Aq (A2 ⟨_,rfl,"set_iterator",_,⟨_,AC _ rfl,rfl⟩,gi.lookup,?_⟩));have e0:bE w t 0=0:=by unfold bE;split<;>rfl
 rw[e0] at h;simpa[rawInt] using h
def qI{vs:Array KN}(ho:h.get? a=some o)(hd:o.data=.fields vs)(f:Array KN->Array KN):
  ∃o',(h.update a (Obj.mapFields f)).get? a=some o'/\o'.cls=o.cls/\o'.data=.fields (f vs):=
 ⟨_,Bw _ ho (D3 (Bc hd _)),Obj.cls_mapFields ..,Bc hd _⟩
theorem xX{t:SetTable}{e:Int×KN}{Q:K0 KN->KO->Prop}(GD:dE s.heap it S (bE w t i) i es.size ep)
  (ho:s.heap.get? S=some {cls:= .type "set",dict:=none,data:= .set es ep t}) (b:Tb t es) (hs:es.size<=t.mask) (hl:t.led= !w.params.followText "set-order") (hp:t.plain=true) (hi:i<es.size)
  (he:(dY w S ep es)[i]? =some e) (hQ:∀h',dE h' it S (bE w t (i+1)) (i+1) es.size ep->Heap.SameBut it s.heap h'->Q (some e.2) {s with heap:=h'}):
  wpAny (model prog w) A (pyNext (.ref it)) Q E s:=by
 obtain⟨o,hoi,hc,hd⟩:=id GD;have hf:=jk b hs;unfold pyNext;refine A0 (C1 (B2 (name:=Str.ofString "__next__") GD.typeIs gi
  (Ag gi GD.typeIs qB ?_ (qC _))))
 show wpAny _ _ (fieldsOf (.ref it)>>=_) _ _ s;refine A0 (Cy hoi hd ?_);dsimp only;unfold setEntries;refine A0 (A0 (BG ho rfl hf (A2 ?_)));dsimp only;rw[A6 (by simp)];simp only[B0];refine A0 (qH ho b hs hl hp (Ar hi) ?_);rw[he];dsimp only[Option.map_some];refine A0 (Bt hoi hd (by simp) ?_);obtain⟨o1,GU,JP,Jl⟩:=qI hoi hd (·.setIfInBounds 0 (rawInt (bE w t (i+1):Nat)));have sb1:=B6 s.heap it (Obj.mapFields (·.setIfInBounds 0 (rawInt (bE w t (i+1):Nat))));generalize s.heap.update it (Obj.mapFields (·.setIfInBounds 0 (rawInt (bE w t (i+1):Nat))))=h1 at GU sb1⊢;refine A0 (Bt (s:={s with heap:=h1}) GU Jl (by simp) ?_);obtain⟨o2,G9,HM,G4⟩:=qI GU Jl (·.setIfInBounds 1 (rawInt ((i:Int)+1)));have sb2:=B6 h1 it (Obj.mapFields (·.setIfInBounds 1 (rawInt ((i:Int)+1))));dsimp only;generalize h1.update it (Obj.mapFields (·.setIfInBounds 1 (rawInt ((i:Int)+1))))=h2 at G9 sb2⊢;refine A2 ⟨_,rfl,A2 (hQ _ ⟨o2,G9,by rw[HM,JP,hc],?_⟩ (sb1.trans sb2))⟩;rw[G4];simp[rawInt]
theorem xY{t:SetTable}{Q:K0 KN->KO->Prop}(hh:A.handled=none)(GD:dE s.heap it S (bE w t es.size) es.size es.size ep)
  (ho:s.heap.get? S=some {cls:= .type "set",dict:=none,data:= .set es ep t}) (b:Tb t es) (hs:es.size<=t.mask) (hl:t.led= !w.params.followText "set-order") (hp:t.plain=true)
  (hQ:∀h',Heap.ExtBut it s.heap h'->Q none {s with heap:=h'}):
  wpAny (model prog w) A (pyNext (.ref it)) Q E s:=by
 obtain⟨o,hoi,hc,hd⟩:=id GD;have hf:=jk b hs;unfold pyNext;refine A0 (C1 (B2 (name:=Str.ofString "__next__") GD.typeIs gi
  (Ag gi GD.typeIs qB ?_ (qC _))))
 show wpAny _ _ (fieldsOf (.ref it)>>=_) _ _ s;refine A0 (Cy hoi hd ?_);dsimp only;unfold setEntries;refine A0 (A0 (BG ho rfl hf (A2 ?_)));dsimp only;rw[A6 (by simp)];simp only[B0];refine A0 (qH ho b hs hl hp (A8 _) ?_);rw[B7 (by rw[ma];exact A8 _)];dsimp only[Option.map_none];refine A0 (Bt hoi hd (by simp) ?_);show wpAny _ _ (newExc (.type "StopIteration") []>>=_) _ _ _;refine A0 ?_;simp only[newExc,newTuple];refine A0 (Aq ?_ (by size_fits));refine A0 (m:=firstArgMember _ _) (wpAny_of_eq (a:=Value.none) (by first|rfl|(simp only[firstArgMember];rfl)) ?_);refine Aq ?_ (by size_fits);simp -iota only[raiseNew];refine A0 (wpAny_handled ?_);rw[show A.in1.handled=none from hh];refine A0 (A2 (wpAny_throw ?_));refine A0 (D5 (T:="StopIteration") (b:=true) ⟨_,AC _ rfl,rfl⟩ isSubtype_stop ?_);exact A2 (hQ _ (((B6 ..).extBut.push _).push _))
theorem xZ(hh:A.handled=none)(I S:KP)(Hi:S≠I){t:SetTable}(b:Tb t es)(hs:es.size<=t.mask)(hl:t.led= !w.params.followText "set-order")(hp:t.plain=true):
  Walks prog w A I [I,S] [I] es.size (λi v=>∃e,(dY w S ep es)[i]? =some e/\v=e.2) (λi h=>dE h I S (bE w t i) i es.size ep/\h.get? S=some {cls:= .type "set",dict:=none,data:= .set es ep t}) where
 sub:=λb hb=>by simp at hb;simp[hb]
 frame:=λ_ _ _ st hk=>⟨st.1.mv λo e=>hk I (by simp) o e,hk S (by simp) _ st.2⟩
 item:=λi s Q E hi st hQ=>by
  have HB:i<(dY w S ep es).size:=by rw[ma];exact hi
  refine xX st.1 st.2 b hs hl hp hi (AW HB) λh' IP Jv=>?_;exact hQ _ h' s.toks ⟨_,AW HB,rfl⟩ ⟨IP,Jv.extBut S _ Hi st.2⟩ λb o hb e=>Jv.extBut b o (λh=>hb (by simp[h])) e
 done:=λs Q E st hQ=>xY hh st.1 st.2 b hs hl hp λh' Kn=>hQ h' s.toks λb o hb e=>Kn b o (λh=>hb (by simp[h])) e
 self:=λ_ s _ _ st hQ=>by
  refine wpAny_pyIter_slot st.1.typeIs qA (Ag qA st.1.typeIs xR ?_ (xS _));show wpAny _ _ (ret (.ref I)) _ _ s;exact A2 ⟨_,rfl,"set_iterator",_,st.1.typeIs,gi.lookup,hQ⟩
end
open PySem.W
section
variable{prog:KQ}{w:KS}{A:KU}{E:KN->KO->Prop}{s:KO}
theorem x6{es:Array (Int×KN)}{ep:Nat}{t:SetTable}{Q:KW KN->KO->Prop}(hh:A.handled=none)
  (ho:s.heap.get? S=some {cls:= .type "set",dict:=none,data:= .set es ep t}) (b:Tb t es) (hs:es.size<=t.mask) (hl:t.led= !w.params.followText "set-order") (hp:t.plain=true)
  (hQ:∀h' tk vs,(∀b o,s.heap.get? b=some o->h'.get? b=some o)->s.heap.objs.size<=h'.objs.size->vs.Perm (es.toList.map (·.2))->Q vs {s with heap:=h',toks:=tk}):
  wpAny (model prog w) A (collect (.ref S)) Q E s:=by
 unfold collect;refine A0 (wpAny_runValue (Bk F.entry_proto_collect ?_));rw[Bg F.plain_proto_collect _];show wpAny _ A.in1 (newList []>>=λl=>again (.builtin "list.__iadd__" ⟨[l,.ref S],[]⟩)) _ _ s;refine A0 (Aq ?_);refine A2 ⟨D7 F.plain_list_iadd _,Bk F.entry_list_iadd ?_⟩;rw[Bg F.plain_list_iadd _];show wpAny _ A.in1 (Builtin.List.listExtendWith (.ref s.heap.objs.size) (.ref S) (.ref s.heap.objs.size)) _ _ _;have hS:S<s.heap.objs.size:=AD ho;have GU:(s.heap.push {cls:= .type "list",data:= .seq ([]:KW KN).toArray}).get? S=some {cls:= .type "set",dict:=none,data:= .set es ep t}:=A4 _ ho;have hT:Shared.TypeIs {s with heap:=s.heap.push {cls:= .type "list",data:= .seq ([]:KW KN).toArray}} (.ref S) "set":=⟨_,GU,rfl⟩;unfold Builtin.List.listExtendWith;refine A0 (DD hT ?_);have h1:Builtin.List.listSameRef (.ref s.heap.objs.size) (.ref S)=false:=by
  show(s.heap.objs.size==S)=false;exact BR.mpr (BZ hS)
 have h2:(Value.type "set"==Value.type "list")=false:=by decide
 have h3:(Value.type "set"==Value.type "tuple")=false:=by decide
 simp only[h1,h2,h3,Bool.or_false,AI,At];refine A0 (xW GU b hs hp ?_);refine A0 (Ap ?_);unfold Builtin.List.listLengthHint;generalize hH:s.heap.push {cls:= .type "list",data:= .seq ([]:KW KN).toArray}=H at GU hT⊢;have hHs:H.objs.size=s.heap.objs.size+1:=by rw[<-hH,Aw]
 have hT2:Shared.TypeIs {s with heap:=H.push {cls:= .type "set_iterator",data:= .fields #[.int (bE w t 0:Nat) 0,.int (0:Nat) 0,.ref S,.int es.size 0,.int ep 0]}} (.ref S) "set":=⟨_,A4 _ GU,rfl⟩;refine A0 (wpAny_specialOf hT2 F.slot_set_len.lookup ?_)
 wp_delta
 refine A0 (D5 (b:=true) hT2 (by rw[isSubtype_type];kernel_rfl) ?_);show wpAny _ A.in1 (typeOf (.ref S)>>=_) _ _ _;refine A0 (DD hT2 ?_);refine A2 ?_;rw[A9 (by decide)];refine A0 (wpAny_rule ?_);unfold Builtin.List.listTouch;have Hi:S≠H.objs.size:=by rw[hHs];exact AE (Ab hS)
 have hI0:dE (H.push {cls:= .type "set_iterator",data:= .fields #[.int (bE w t 0:Nat) 0,.int (0:Nat) 0,.ref S,.int es.size 0,.int ep 0]}) H.objs.size S (bE w t 0) 0 es.size ep:=⟨_,AC _ rfl,rfl,rfl⟩;have hL:(H.push {cls:= .type "set_iterator",data:= .fields #[.int (bE w t 0:Nat) 0,.int (0:Nat) 0,.ref S,.int es.size 0,.int ep 0]}).get? s.heap.objs.size=some (seqObj "list" #[] 0):=A4 _ (hH▸AC _ rfl);have hS2:(H.push {cls:= .type "set_iterator",data:= .fields #[.int (bE w t 0:Nat) 0,.int (0:Nat) 0,.ref S,.int es.size 0,.int ep 0]}).get? S=some {cls:= .type "set",dict:=none,data:= .set es ep t}:=A4 _ GU;have hold:∀b o,s.heap.get? b=some o->(H.push {cls:= .type "set_iterator",data:= .fields #[.int (bE w t 0:Nat) 0,.int (0:Nat) 0,.ref S,.int es.size 0,.int ep 0]}).get? b=some o:=λb o e=>A4 _ (hH▸A4 _ e);have hsz:(H.push {cls:= .type "set_iterator",data:= .fields #[.int (bE w t 0:Nat) 0,.int (0:Nat) 0,.ref S,.int es.size 0,.int ep 0]}).objs.size=s.heap.objs.size+2:=by rw[Aw,hHs]
 generalize H.push {cls:= .type "set_iterator",data:= .fields #[.int (bE w t 0:Nat) 0,.int (0:Nat) 0,.ref S,.int es.size 0,.int ep 0]}=H1 at hI0 hL hS2 hold hsz⊢;refine A0 (A0 (CZ (s:={s with heap:=H1}) hL rfl ?_ (AR _) (by decide)));have hL1:=CW hL (λx=>x.push Value.none);have Hq:∀b,b≠s.heap.objs.size->(H1.update s.heap.objs.size (Obj.mapSeq λx=>x.push Value.none)).get? b=H1.get? b:=(B6 H1 s.heap.objs.size _).2;dsimp only;generalize H1.update s.heap.objs.size (Obj.mapSeq λx=>x.push Value.none)=H2 at hL1 Hq⊢;refine CZ (s:={s with heap:=H2}) hL1 rfl ?_ (by simp[As]) (by simp);have hL2:=CW hL1 (λx=>x.pop);have HZ:∀b,b≠s.heap.objs.size->(H2.update s.heap.objs.size (Obj.mapSeq λx=>x.pop)).get? b=H2.get? b:=(B6 H2 s.heap.objs.size _).2;dsimp only;generalize H2.update s.heap.objs.size (Obj.mapSeq λx=>x.pop)=H3 at hL2 HZ⊢;have hk3:∀b o,b≠s.heap.objs.size->H1.get? b=some o->H3.get? b=some o:=λb o hb e=>by rw[HZ b hb,Hq b hb];exact e
 have hSf:s.heap.objs.size∉[H.objs.size,S]:=by
  rw[hHs];simp only[AH,Av,Bl,not_or];exact⟨AE (B8 _),BZ hS⟩
 have hSn:S≠s.heap.objs.size:=AE hS;have hHn:H.objs.size≠s.heap.objs.size:=by rw[hHs];exact BZ (B8 _)
 refine A2 ⟨D7 F.plain_extend_loop _,codeAny_extend_loopS (xZ (A:=A.in1) (ep:=ep) hh H.objs.size S Hi b hs hl hp).toS ?_ _ hSf _ es.size 0 _ _ _ rfl (AR _) ⟨hI0.mv λo e=>hk3 _ o hHn e,hk3 S _ hSn hS2⟩ hL2 (ItemsOf.nil _) λs' Kq c' hm Jx Gr=>?_⟩
 .have:=b.few;rw[As];lia
 show wpAny _ A (load s.heap.objs.size>>=_) _ _ s';refine A0 (wpAny_load Jx ?_);obtain⟨h',g',d',tk',Kd⟩:=s';have eg:g'=s.gens:=hm.gens;have ed:d'=s.drawn:=hm.drawn;have eo:Kd=s.os:=hm.os;subst eg;subst ed;subst eo;refine A2 (hQ h' tk' Kq.toList (λb o e=>?_) (Ar (AD Jx)) ?_)
 .have Gx:=AD e;refine hm.heap b o (λhb=>?_) (hk3 b o (AE Gx) (hold b o e));simp only[AH,Av,Bl] at hb;rcases hb with hb|hb
  .exact absurd Gx (by rw[hb];exact Bi _)
  .rw[hb,hHs] at Gx;exact absurd Gx (Nat.not_lt.mpr (Bj _))
 .have:Kq.toList=(dY w S ep es).toList.map (·.2):=by
   apply List.ext_getElem?;intro i;rw[AF,B9,B9];rcases C4 i es.size with c|c
   .have hi:i<Kq.size:=by rw[Gr.1];exact c
    obtain⟨e,he,hv⟩:=Gr.2 i _ (AW hi);rw[AW hi,hv,he];rfl
   .rw[B7 (by rw[Gr.1];exact c),B7 (by rw[ma];exact c)];rfl
  rw[this];exact(qF w S ep es).map _
abbrev lsH(h:KZ)(vs:KW KN):KZ:=h.push (seqObj "list" vs.toArray 0)
def g8(h:KZ)(vs:KW KN):(lsH h vs).get? h.objs.size=some (seqObj "list" vs.toArray 0):=AC _ rfl
theorem md(hb:h.get? b=some o):(aQ (lsH h vs) h.objs.size vs).get? b=some o:=by
 have Gx:b<h.objs.size:=AD hb;have n0:b≠h.objs.size:=AE Gx;have n1:b≠h.objs.size+1:=AE (Ab Gx);have n2:b≠h.objs.size+1+1:=AE (Ab (Ab Gx));rw[B1 _ _ _ (by rw[Bb,Ax,Bb];exact n2),B1 _ _ _ (by rw[Ax,Bb];exact n1),DC _ _ _ _ n0,B1 _ _ _ n0];exact hb
theorem qJ{Gw:Array KN}(hb:h.get? b=some o):(sortedHeap (lsH h vs) h.objs.size vs Gw).get? b=some o:=by
 unfold sortedHeap;rw[DC _ _ _ _ (AE (AD hb))];exact md hb
theorem qK(h:KZ)(vs:KW KN)(Gw:Array KN):∃e,(sortedHeap (lsH h vs) h.objs.size vs Gw).get? h.objs.size=some (seqObj "list" Gw e):=by
 obtain⟨e1,GU⟩:∃e1,((lsH h vs).update h.objs.size (Obj.mapSeq λ_=>(#[]:Array KN))).get? h.objs.size=some (seqObj "list" #[] e1):=⟨_,CW (g8 h vs) (λ_=> #[])⟩;have HY:(aQ (lsH h vs) h.objs.size vs).get? h.objs.size=some (seqObj "list" #[] e1):=by
  rw[B1 _ _ _ (by rw[Bb,Ax,Bb];exact AE (Ab (B8 _))),B1 _ _ _ (by rw[Ax,Bb];exact AE (B8 _))];exact GU
 exact⟨_,CW HY (λ_=>Gw)⟩
theorem x8{v:KN}{gj:KW KN->KO->Prop}{Q:KN->KO->Prop}(hcol:wpAny (model prog w) A.in1 (collect v) gj E s)
  (h:∀vs s1,gj vs s1->vs.length<64/\(vs.length<2->Q (.ref s1.heap.objs.size) {s1 with heap:=sortedHeap (lsH s1.heap vs) s1.heap.objs.size vs vs.toArray})/\
   (2<=vs.length->∃(c:Nat->Nat->Bool) (kd:SortKind),
    (∀(R:SortKind->KO->Prop) (E:KN->KO->Prop),R kd {s1 with heap:=aQ (lsH s1.heap vs) s1.heap.objs.size vs}->wpAny (model prog w) A.in1.in1 (keyKind' vs.toArray) R E {s1 with heap:=aQ (lsH s1.heap vs) s1.heap.objs.size vs})/\
    (∀i j,i<vs.length->j<vs.length->∀C:Bool->KO->Prop,C (c i j) {s1 with heap:=aQ (lsH s1.heap vs) s1.heap.objs.size vs}->wpAny (model prog w) A.in1.in1 (keyLt' kd (vs.getD i .none) (vs.getD j .none)) C (λ_ _=>False) {s1 with heap:=aQ (lsH s1.heap vs) s1.heap.objs.size vs})/\
    ∀p,Ord vs.length p->p=aL c (kas_sort vs.length)->Q (.ref s1.heap.objs.size) {s1 with heap:=sortedHeap (lsH s1.heap vs) s1.heap.objs.size vs (p.map λi=>vs.getD i .none)})):
  wpAny (model prog w) A (call (.builtin "sorted") [v]) Q E s:=by
 refine Cd kind_sorted plain_sorted entry_sorted (args_sorted1 _) ?_;unfold Builtin.«sorted»;refine A0 (m:=checkCount "sorted" 1 1 _) (A2 ?_);refine A0 (thn hcol λvs s1 g=>?_);obtain⟨h64,few,many⟩:=h vs s1 g;refine A0 (Cg ?_ (by rw[As];lia));show wpAny _ _ _ _ _ {s1 with heap:=lsH s1.heap vs};by_cases h2:vs.length<2
 .refine A0 (Ap (Ag DF ⟨_,g8 s1.heap vs,rfl⟩ DE (pJ (s:={s1 with heap:=lsH s1.heap vs}) (g8 s1.heap vs) h2 ⟨_,rfl,?_⟩) (DG _)));exact A2 ⟨_,rfl,few h2⟩
 .obtain⟨c,kd,IG,hc,hq⟩:=many (by lia);refine A0 (Ap (Ag DF ⟨_,g8 s1.heap vs,rfl⟩ DE (qj (c:=c) (s:={s1 with heap:=lsH s1.heap vs}) (g8 s1.heap vs) (by lia) h64 (λR=>IG R _) hc λp hp IS=>⟨_,rfl,?_⟩) (DG _)));exact A2 ⟨_,rfl,hq p hp IS⟩
end
section
variable{X:Cx}{Gn:KW (KP×Obj)}{σ:St}{H:Hp}{s:KO}
theorem qL:∀{xs:KW Int}{vs:KW KN},ao (xs.map V.int) vs->∀(prog:KQ) (w:KS),ItemsAre (intKind prog w) xs vs
 |[],_,.nil,_,_=>.nil
 |x::xs,_,.cons r1 r2,prog,w=>by
  obtain⟨t,rfl⟩:=r1;exact .cons (intKind_is prog w x t) (qL r2 prog w)
theorem x9(I:Inv X Gn σ H s){xs:KW Int}(h:SqT X.K H a (xs.map V.int)):IsTupleKey (intKind X.prog X.w) s.heap xs a:=by
 obtain⟨Gq,r,p,z⟩:=I.tuple h;obtain⟨o,ho,hc,n,hd⟩:=p;exact⟨o,_,n,ho,hc,hd,qL r _ _⟩
theorem yb{A:KU}{k:Nat}(hr:Room k A):A.units+8<cLine:=Nat.lt_of_le_of_lt (Nat.add_le_add_left (by decide:8<=64) _) hr.units
def ssB(xss:KW (KW Int)):Bool:=[true,false].all λled=>match stE (.fresh 0 0 led, #[]) xss with
 |some y=>y.1.fits y.2.size&&decide (y.1.dummies= #[])&&decide (y.1.place.toList.Pairwise (· < ·))&&(y.1.led==led)&&y.1.plain&&decide (y.2.size<=y.1.mask)&&decide (y.2.size<64)&&decide y.2.toList.Nodup&&y.2.toList.all (xss.contains ·)&&xss.all (y.2.toList.contains ·)
 |none=>false
theorem yc(h:ssB xss=true)(led:Bool):∃y,stE (.fresh 0 0 led, #[]) xss=some y/\(∀es:Array (Int×KN),es.size=y.2.size->Tb y.1 es)/\y.1.led=led/\y.1.plain=true/\y.2.size<=y.1.mask/\y.2.size<64/\y.2.toList.Nodup/\∀z,z∈y.2.toList↔z∈xss:=by
 have h:=AG.mp h led (by cases led<;>simp)
 generalize stE (.fresh 0 0 led, #[]) xss=r at h⊢;cases r with
 |none=>cases h
 |some y=>
  simp only[AB,Aj,AG,List.contains_iff_mem,BM] at h;obtain⟨⟨⟨⟨⟨⟨⟨⟨⟨h1,h2⟩,h3⟩,h4⟩,h5⟩,h6⟩,h7⟩,h8⟩,h9⟩,h10⟩:=h;refine⟨y,rfl,λes e=>⟨?_,h2,λi j He hj=>?_,by lia⟩,h4,h5,h6,h7,h8,λz=>⟨h9 z,h10 z⟩⟩
  .unfold SetTable.fits at h1;simp only[AB,BM] at h1;rw[h1.1,e]
  .have:=Bp.mp h3 i j (by simp;lia) (by simpa using hj) He;simpa[Array.getD,hj,Ci He hj] using this
inductive rSSet(vs:List V)(H:Hp)(Q:VK):Prop
 |mk (v:V) (xss:List (List Int)) (m:Nat):vs=[v]->Is H (.l (xss.map tI)) v->0<m->((∀xs∈xss,xs.length=m))->ssB xss=true->(∀(GF:List (List Int)) (q:Addr) (H':Hp),GF.Nodup->(∀z,z∈GF↔z∈xss)->(∀i j,i<j->j<GF.length->ltI (GF.getD j []) (GF.getD i [])=false)->H q=none->af H H'->Is H' (.l (GF.map tI)) (.ref q)->Q (.ref q) H')->rSSet vs H Q
theorem yd(I:Inv X Gn σ H s){rs:KW V}(hi:Iss H (xss.map tI) rs)(r':ao rs vs)(hm:0<m)(Ik:∀xs∈xss,xs.length=m)(Gv:xss.length<64){Q:VK}
  (q:∀(GF:KW (KW Int)) (q:KP) (H':Hp),GF.Perm xss->(∀i j,i<j->j<GF.length->ltI (GF.getD j []) (GF.getD i [])=false)->H q=none->af H H'->Is H' (.l (GF.map tI)) (.ref q)->Q (.ref q) H') (A:KU):
  vs.length<64/\(vs.length<2->EP X Gn σ Q (.ref s.heap.objs.size) {s with heap:=sortedHeap (lsH s.heap vs) s.heap.objs.size vs vs.toArray})/\
   (2<=vs.length->∃(c:Nat->Nat->Bool) (kd:SortKind),
    (∀(R:SortKind->KO->Prop) (E:KN->KO->Prop),R kd {s with heap:=aQ (lsH s.heap vs) s.heap.objs.size vs}->wpAny (model X.prog X.w) A.in1.in1 (keyKind' vs.toArray) R E {s with heap:=aQ (lsH s.heap vs) s.heap.objs.size vs})/\
    (∀i j,i<vs.length->j<vs.length->∀C:Bool->KO->Prop,C (c i j) {s with heap:=aQ (lsH s.heap vs) s.heap.objs.size vs}->wpAny (model X.prog X.w) A.in1.in1 (keyLt' kd (vs.getD i .none) (vs.getD j .none)) C (λ_ _=>False) {s with heap:=aQ (lsH s.heap vs) s.heap.objs.size vs})/\
    ∀p,Ord vs.length p->p=aL c (kas_sort vs.length)->EP X Gn σ Q (.ref s.heap.objs.size) {s with heap:=sortedHeap (lsH s.heap vs) s.heap.objs.size vs (p.map λi=>vs.getD i .none)}):=by
 have Hi:∀xs∈xss,xs≠[]:=λxs hx z=>by have:=Ik xs hx;rw[z] at this;exact absurd this (by show¬0=m;lia)
 have Jw:rs.length=xss.length:=by rw[hi.length,A3]
 have ln:=r'.length;have lns:vs.length=xss.length:=by lia
 refine⟨by lia,λh2=>?_,λh2=>⟨fH xss,tuples' true,λR E hR=>?_,λi j HB hj' C hC=>?_,λp ho IS=>?_⟩⟩
 .obtain⟨e,he⟩:=qK s.heap vs vs.toArray;have fr:=I.hok.fresh (a:=s.heap.objs.size) (A8 _);exact⟨.ref s.heap.objs.size,_,I.laid (t':=s.toks) (λ_ _=>qJ) (A8 _) (show aC X.prog X.w _ _ _ (.lst rs) from⟨by rw[As];lia,vs,e,r',he⟩),rfl,q xss _ _ (List.Perm.refl _) (λi j a b=>absurd b (by lia)) fr (af.new fr) (ba am (hi.mono (af.new fr)))⟩
 .have I2:Inv X Gn σ H {s with heap:=aQ (lsH s.heap vs) s.heap.objs.size vs}:=I.kept (t':=s.toks) λb o e=>md e;obtain⟨fs,k1,k2,k3⟩:=lS I2 hi r' Hi;exact kat_kind (T:= .type "int") k1 (by lia) (λf hf=>by obtain⟨z,t,rfl⟩:=k3 f hf;exact .now) rfl hR
 .have I2:Inv X Gn σ H {s with heap:=aQ (lsH s.heap vs) s.heap.objs.size vs}:=I.kept (t':=s.toks) λb o e=>md e;have g:∀i,i<xss.length->∃a,vs.getD i .none=.ref a/\SqT X.K H a ((xss.getD i []).map V.int):=λi h=>by
   have hr:i<rs.length:=by lia
   obtain⟨d,hd,h1⟩:=hi.of_get (A1 hr);rw[AF,A1 h] at hd;cases hd;obtain⟨a,ea,ha⟩:=eM h1;obtain⟨u,Hq,ru⟩:=r'.get (A1 hr);rw[ea] at ru;obtain rfl:u=Value.ref a:=ru;refine⟨a,?_,?_⟩
   .rw[A7,Hq];rfl
   .rw[A7,A1 h];exact SqT.of ha
  obtain⟨a1,e1,s1⟩:=g i (by lia);obtain⟨a2,e2,s2⟩:=g j (by lia);rw[e1,e2];rw[jh (by lia) (by lia)] at hC;exact pO I2 s1 s2 hC
 .rw[lns] at ho IS;have G5:∀i∈p.toList,i<xss.length:=λi hi=>ho.lt hi;obtain⟨e,he⟩:=qK s.heap vs (p.map λi=>vs.getD i .none);have en:(p.map λi=>vs.getD i .none)=List.toArray (p.toList.map λi=>vs.getD i .none):=by
   apply Array.toList_inj.mp;simp
  rw[en] at he⊢;have fr:=I.hok.fresh (a:=s.heap.objs.size) (A8 _);refine⟨.ref s.heap.objs.size,_,I.laid (t':=s.toks) (λ_ _=>qJ) (A8 _) (show aC X.prog X.w _ _ _ (.lst (p.toList.map λi=>rs.getD i .non)) from⟨?_,_,e,jc r' p.toList (λi hi=>by rw[Jw];exact G5 i hi),he⟩),rfl,q (p.toList.map λi=>xss.getD i []) _ _ ?_ ?_ fr (af.new fr) (ba am ((lR hi p.toList G5).mono (af.new fr)))⟩
  .rw[A3,AV,As,ho.size];lia
  .have pp:=(Bm.mp ho).map λi=>xss.getD i [];rw[show(List.range xss.length).toArray.toList=List.range xss.length from rfl,pN] at pp;exact pp
  .intro i j He hj;rw[A3,AV,ho.size] at hj;have up:=qc (qi (xss:=xss) (m:=m) (by lia) Ik) (n:=xss.length) (by lia) i j He hj;rw[<-IS] at up;have g:∀i,i<xss.length->(p.toList.map λi=>xss.getD i []).getD i []=xss.getD (at0 p i) []/\at0 p i<xss.length:=λi h=>by
    have hs:i<p.size:=by rw[ho.size];exact h
    have e:at0 p i=p[i]:=by simp[at0,Array.getD,hs]
    rw[e];refine⟨?_,ho.lt (by simp)⟩;rw[A7,AF];simp[hs]
   obtain⟨g1,g2⟩:=g i (by lia);obtain⟨g3,g4⟩:=g j hj;rw[g1,g3];rw[jh g4 g2] at up;exact up
theorem me{α β:Type}{f:β->α}{P:β->Prop}:∀(vs:KW α),(∀v∈vs,∃j,P j/\v=f j)->∃js:KW β,vs=js.map f/\∀j∈js,P j
 |[],_=>⟨[],rfl,λ_ h=>nomatch h⟩
 |v::vs,h=>by
  obtain⟨j,pj,e⟩:=h v (by simp);obtain⟨js,es,ps⟩:=me vs λu hu=>h u (by simp[hu]);exact⟨j::js,by rw[e,es];rfl,λi hi=>by rcases AH.mp hi with rfl|hi;exact pj;exact ps i hi⟩
theorem qM(ad:Nat->KP):∀js:KW Nat,ao (js.map λj=>V.ref (ad j)) (js.map λj=>Value.ref (ad j))
 |[]=>.nil
 |j::js=>.cons rfl (qM ad js)
theorem qN{H:Hp}(kk:Nat->KW Int)(ad:Nat->KP):∀js:KW Nat,(∀j∈js,H (ad j)=some (.tup ((kk j).map V.int)))->Iss H ((js.map kk).map tI) (js.map λj=>V.ref (ad j))
 |[],_=>aM
 |j::js,h=>aT (ja (h j (by simp))) (qN kk ad js λi hi=>h i (by simp[hi]))
theorem ye{α β:Type}{f:α->β}{L:KW α}{vs:KW β}(h:vs.Perm (L.map f)):∃js:KW α,js.Perm L/\vs=js.map f:=by
 generalize hm:L.map f=ms at h;induction h generalizing L with
 |nil=>exact⟨[],by rw[List.map_eq_nil_iff.mp hm],rfl⟩
 | @cons x l1 l2 p ih=>
  cases L with
  |nil=>cases hm
  |cons a L=>
   rw[AM] at hm;injection hm with h1 h2;obtain⟨js,p,e⟩:=ih h2;exact⟨a::js,p.cons a,by rw[AM,h1,e]⟩
 |swap x y l=>
  match L,hm with
  |a::b::L,hm=>
   simp only[AM,C7] at hm;obtain⟨rfl,rfl,rfl⟩:=hm;exact⟨b::a::L,List.Perm.swap ..,rfl⟩
 |trans p1 p2 ih1 ih2=>
  obtain⟨js,q1,e1⟩:=ih2 hm;obtain⟨ks,q2,e2⟩:=ih1 e1.symm;exact⟨ks,q2.trans q1,e2⟩
theorem yf(ek:EsK kk ad n es ks)(hp:vs.Perm (es.toList.map (·.2))):
  ∃js:KW Nat,vs=js.map (λj=>Value.ref (ad j))/\(∀j∈js,j<n)/\(js.map kk).Perm ks.toList:=by
 have hl:es.toList.length=ks.toList.length:=by simp[ek.size]
 obtain⟨L,eL,pL⟩:=me (f:=λj=>((hK (kk j),Value.ref (ad j)),kk j)) (P:=λj=>j<n) (es.toList.zip ks.toList) λv hv=>by
  obtain⟨i,hi,e⟩:=Bu.mp hv;rw[List.getElem_zip] at e;rw[List.length_zip] at hi;have hi1:i<es.size:=by simp at hi;lia
  obtain⟨j,j1,j2,j3⟩:=ek.of (AW hi1);have hk:ks[i]? =some ks.toList[i]:=by rw[<-B9,A1]
  rw[hk,Option.some.injEq] at j2;refine⟨j,j1,?_⟩;rw[<-e,j2];exact Prod.ext (by simpa using j3) rfl
 have e1:es.toList=L.map λj=>(hK (kk j),Value.ref (ad j)):=by
  have:=Ah (List.map Prod.fst) eL;rw[List.map_fst_zip (by lia),BA] at this;exact this
 have e2:ks.toList=L.map kk:=by
  have:=Ah (List.map Prod.snd) eL;rw[List.map_snd_zip (by lia),BA] at this;exact this
 rw[e1,BA] at hp;obtain⟨js,p,e⟩:=ye hp;exact⟨js,e,λj hj=>pL j (p.mem_iff.mp hj),by rw[e2];exact p.map kk⟩
theorem yg{e:KY}{ta:TA}{p p2 pos IV:Pos}(hu:X.A.units+8<cLine)(hh:X.A.handled=none)(hg:Gl X "sorted")(hm:X.mg "sorted"=none)(hg2:Gl X "set")(hm2:X.mg "set"=none)
  (ha:PA X [e] ta) (he:starEach [e] X.env=(false,eval e X.env)::starEach [] X.env:=by rfl)
  (Iy:starEach [Expr.Call (.Name "set" p2) [e] [] IV] X.env=(false,eval (Expr.Call (.Name "set" p2) [e] [] IV) X.env)::starEach [] X.env:=by rfl):
  PE X (.Call (.Name "sorted" p) [.Call (.Name "set" p2) [e] [] IV] [] pos) (tCB rSSet ta):=by
 intro Gn s σ H Q I h;refine BH (dw I hg hm (by first|exact boot_sorted|rfl|ac_nf) ?_ (by decide) (by decide));refine Cu ?_ Iy (by rfl);rw[Iy];show wpAny _ _ (spliced ((false,eval (Expr.Call (.Name "set" p2) [e] [] IV) X.env)::backTo pos (starEach [] X.env))) _ _ s;refine BI ?_;refine BH (dw I hg2 hm2 (by first|rfl|ac_nf) ?_ (by decide) (by decide));refine BP (thn (ha IV Gn s σ H _ I h) λus s1 zu67=>?_) he (by rfl);obtain⟨vs,H1,I1,r1,q1⟩:=zu67;obtain⟨v,xss,m,rfl,hv,hm',Ik,Kr,q⟩:=q1;obtain⟨y,Hw,htb,tl,tp,tm,t64,knd,kmem⟩:=yc Kr (!X.w.params.followText "set-order");obtain⟨l,rs,rfl,hl,hi⟩:=aP hv;have Jw:rs.length=xss.length:=by rw[hi.length,A3]
 obtain⟨u,rfl,rx⟩:=cP r1;cases rx;obtain⟨Gq,r',pl,hz⟩:=I1.list (SqL.of (K:=X.K) hl);have ln:=r'.length;have g:∀i,∃a,i<xss.length->Gq[i]? =some (.ref a)/\rs[i]? =some (.ref a)/\H1 a=some (.tup ((xss.getD i []).map V.int)):=λi=>by
  by_cases h:i<xss.length
  .have hr:i<rs.length:=by lia
   obtain⟨d,hd,h1⟩:=hi.of_get (A1 hr);rw[AF,A1 h] at hd;cases hd;obtain⟨a,ea,ha⟩:=eM h1;obtain⟨u,Hq,ru⟩:=r'.get (A1 hr);rw[ea] at ru;obtain rfl:u=Value.ref a:=ru;refine⟨a,λ_=>⟨Hq,by rw[A1 hr,ea],?_⟩⟩;rw[A7,A1 h];exact ha
  .exact⟨0,λc=>absurd c h⟩
 let ad:Nat->KP:=λi=>Classical.choose (g i)
 have hg:∀i,i<xss.length->Gq[i]? =some (.ref (ad i))/\rs[i]? =some (.ref (ad i))/\H1 (ad i)=some (.tup ((xss.getD i []).map V.int)):=λi hi=>Classical.choose_spec (g i) hi;generalize ad=ad at hg;refine xP (kk:=λi=>xss.getD i []) (ad:=ad) (items:=Gq.toArray) hh (by lia) pl.isList (xs:=xss) (λi hi=>?_) (by rw[AA];lia) Hw (λi hi=>?_) λh' tk es hS ek hk=>?_
 .rw[AA] at hi;rw[A7,A1 (by lia)];rfl
 .rw[AA] at hi;have hg':=hg i (by lia);exact⟨by rw[List.getElem?_toArray];exact hg'.1,x9 I1 (SqT.of hg'.2.2)⟩
 .have I2:Inv X Gn σ H1 {s1 with heap:=h',toks:=tk}:=I1.kept λb o e=>hk b o (AD e) e;refine A2 ?_;show wpAny _ _ (call (.builtin "sorted") [.ref s1.heap.objs.size]) _ _ {s1 with heap:=h',toks:=tk};obtain⟨ep,ho⟩:=hS;have ez:=ek.size;refine x8 (x6 (s:={s1 with heap:=h',toks:=tk}) (A:=X.A.in1) hh ho (htb es ez) (by lia) tl tp λJu tk' vs IQ hsz hp=>?_) λvs s' g=>g;obtain⟨js,ev,lt,pk⟩:=yf ek hp;have I3:Inv X Gn σ H1 {s1 with heap:=Ju,toks:=tk'}:=I2.kept IQ;have lt':∀j∈js,j<xss.length:=λj hj=>by have:=lt j hj;rw[AA] at this;lia
  subst ev;have mem:∀z,z∈js.map (λi=>xss.getD i [])↔z∈xss:=λz=>by rw[pk.mem_iff];exact kmem z
  have bound:(js.map λi=>xss.getD i []).length=y.2.size:=by rw[pk.length_eq,AV]
  have nd:=pk.nodup_iff.mpr knd;refine yd I3 (rs:=js.map λj=>V.ref (ad j)) (xss:=js.map λi=>xss.getD i []) (qN _ ad js λj hj=>(hg j (lt' j hj)).2.2) (qM ad js) hm' (λxs hx=>Ik xs ((mem xs).mp hx)) (by lia) (λGF q' H' pm srt hq sm his=>?_) X.A;exact q GF q' H' (pm.nodup_iff.mpr nd) (λz=>by rw[pm.mem_iff];exact mem z) srt hq sm his
end
end L2
namespace L2
open PySem PySem.Spec PyProof.Rows PySem.W
variable{Gp:KW (KW Key×V)}{H H':Hp}{P:KQ}{Q:K0 KN->KO->Prop}{d it:KP}{e:DictEntry}{ep i:Nat}{es:Array DictEntry}{o:Obj}{w:KS}
section
variable{prog:KQ}{w:KS}{A:KU}{E:KN->KO->Prop}{s:KO}
theorem yh{Q:KN->KO->Prop}(hd:(d==sysModules)=false)(ho:s.heap.get? d=some o)(hc:o.ExactDict)(HV:o.data=.dict es ep)
  (hQ:Q (.ref s.heap.objs.size) {s with heap:=s.heap.push {cls:= .type "dict_keyiterator",data:= .fields #[.ref d,.int 0 0,.int es.size 0,.int ep 0]}}):
  wpAny (model prog w) A (pyIter (.ref d)) Q E s:=by
 have hT:s.TypeIs (.ref d) "dict":=⟨o,ho,hc.1⟩;refine wpAny_pyIter_slot hT PySem.F.slot_dict_iter (Ag PySem.F.slot_dict_iter hT PySem.F.entry_dict_iter ?_ (PySem.F.args_dict_iter_1 _));unfold Builtin.«dict.__iter__»;refine A0 ?_;unfold Builtin.Dict.dictSlotNone;refine A0 (wpAny_notOrdered_dict hT ?_);show wpAny _ _ (pure (Value.ref d)) _ _ s;refine A2 ?_;show wpAny _ _ (Builtin.Dict.showsAll d>>=_) _ _ s;unfold Builtin.Dict.showsAll;rw[A6 (by rw[hd];exact AT)];refine A0 (A2 ?_);refine A0 (CO ho HV ?_);refine A0 (Cn ho HV ?_);refine A0 (Aq (A2 ⟨_,rfl,"dict_keyiterator",_,⟨_,AC _ rfl,rfl⟩,BN.lookup,?_⟩));simpa[rawInt] using hQ
theorem yi(GD:s.heap.IsKeyIter it d i es.size ep)(IW:s.heap.get? d=some o)(IX:o.data=.dict es ep)(he:es[i]? =some e)
  (hQ:∀h',h'.IsKeyIter it d (i+1) es.size ep->Heap.SameBut it s.heap h'->Q (some e.key) {s with heap:=h'}):wpAny (model prog w) A (pyNext (.ref it)) Q E s:=by
 obtain⟨oi,ho,hc,hd⟩:=id GD;have Gx:i<es.size:=(BQ.mp he).1;unfold pyNext;refine A0 (C1 (B2 (name:=Str.ofString "__next__") GD.typeIs BN (Ag BN GD.typeIs PySem.F.entry_dict_keyiterator_next ?_ (PySem.F.args_dict_keyiterator_next_1 _))));refine A0 (A2 ?_);refine A0 ?_;refine A0 ?_;first|refine A0 (CA GD.typeIs (A2 ?_));skip|refine A0 (Cf GD.typeIs (A2 ?_));skip
 refine A0 (Cy ho hd ?_);have HD:Builtin.Dict_items.ownsTuple "dict_keyiterator"=false:=by decide
 simp -iota only[HD,AI,At];show wpAny _ _ (if(Value.ref d==Value.none)=true then _ else _) _ _ s;rw[A6 (show¬((Value.ref d==Value.none)=true) from AT)];refine A0 (A2 ?_);refine A0 (CO IW IX ?_);rw[A6 (by simp)];refine A0 (A2 ?_);refine A0 (Cn IW IX ?_);rw[A6 (by simp)];refine A2 ?_;simp only[show¬((i:Int)<0) from by lia,At,B0,he];refine A0 ?_;first|refine A0 (CA GD.typeIs (A2 ?_));skip|refine A0 (Cf GD.typeIs (A2 ?_));skip
 refine A0 (wpAny_isOneOf_keyiter GD.typeIs ?_);show wpAny _ _ (setField (.ref it) 1 (rawInt ((i:Int)+1))>>=_) _ _ s;refine A0 (Bt ho hd (by simp) ?_);have GP:(s.heap.update it (Obj.mapFields (·.setIfInBounds 1 (rawInt ((i:Int)+1))))).IsKeyIter it d (i+1) es.size ep:=⟨_,Bw _ ho (D3 (Bc hd _)),(Obj.cls_mapFields ..).trans hc,by rw[Bc hd];simp[rawInt]⟩;refine A0 (Ap ?_);refine A0 (wpAny_isOneOf_keyiter (s:={s with heap:=s.heap.update it (Obj.mapFields (·.setIfInBounds 1 (rawInt ((i:Int)+1))))}) GP.typeIs ?_);show wpAny _ _ (pure e.key) _ _ _;exact A2 (A2 ⟨_,rfl,A2 (hQ _ GP (B6 ..))⟩)
theorem yj(hh:A.handled=none)(GD:s.heap.IsKeyIter it d i es.size ep)(IW:s.heap.get? d=some o)(IX:o.data=.dict es ep)(he:es.size<=i)
  (hQ:∀h',Heap.ExtBut it s.heap h'->Q none {s with heap:=h'}):wpAny (model prog w) A (pyNext (.ref it)) Q E s:=by
 obtain⟨oi,ho,hc,hd⟩:=id GD;unfold pyNext;refine A0 (C1 (B2 (name:=Str.ofString "__next__") GD.typeIs BN (Ag BN GD.typeIs PySem.F.entry_dict_keyiterator_next ?_ (PySem.F.args_dict_keyiterator_next_1 _))));refine A0 (A2 ?_);refine A0 ?_;refine A0 ?_;first|refine A0 (CA GD.typeIs (A2 ?_));skip|refine A0 (Cf GD.typeIs (A2 ?_));skip
 refine A0 (Cy ho hd ?_);have HD:Builtin.Dict_items.ownsTuple "dict_keyiterator"=false:=by decide
 simp -iota only[HD,AI,At];show wpAny _ _ (if(Value.ref d==Value.none)=true then _ else _) _ _ s;rw[A6 (show¬((Value.ref d==Value.none)=true) from AT)];refine A0 (A2 ?_);refine A0 (CO IW IX ?_);rw[A6 (by simp)];refine A0 (A2 ?_);refine A0 (Cn IW IX ?_);rw[A6 (by simp)];refine A2 ?_;simp only[show¬((i:Int)<0) from by lia,At,B0,B7 he];refine A0 ?_;first|refine A0 (CA GD.typeIs (A2 ?_));skip|refine A0 (Cf GD.typeIs (A2 ?_));skip
 show wpAny _ _ (setField (.ref it) 0 .none>>=_) _ _ s;refine A0 (Bt ho hd (by simp) ?_);show wpAny _ _ (newExc (.type "StopIteration") []>>=_) _ _ _;refine A0 ?_;simp only[newExc,newTuple];refine A0 (Aq ?_ (by size_fits));refine A0 (m:=firstArgMember _ _) (wpAny_of_eq (a:=Value.none) (by first|rfl|(simp only[firstArgMember];rfl)) ?_);refine Aq ?_ (by size_fits);simp -iota only[raiseNew];refine A0 (wpAny_handled ?_);rw[show A.in1.handled=none from hh];refine A0 (A2 (wpAny_throw ?_));refine A0 (D5 (T:="StopIteration") (b:=true) ⟨_,AC _ rfl,rfl⟩ isSubtype_stop ?_);exact A2 (hQ _ (((B6 ..).extBut.push _).push _))
end
section
variable{prog:KQ}{w:KS}{A:KU}{E:KN->KO->Prop}{s:KO}
theorem yk{Q:KN->KO->Prop}(hd:(d==sysModules)=false)(ho:s.heap.get? d=some o)(hc:o.ExactDict)
  (hQ:Q (.ref s.heap.objs.size) {s with heap:=s.heap.push {cls:= .type "dict_values",data:= .fields #[.ref d]}}):wpAny (model prog w) A (call (.builtin "dict.values") [.ref d]) Q E s:=by
 have hT:s.TypeIs (.ref d) "dict":=⟨o,ho,hc.1⟩;refine Ag PySem.F.slot_dict_values hT PySem.F.entry_dict_values ?_ (PySem.F.args_dict_values_1 _);refine A0 ?_;unfold Builtin.Dict.noArgs;refine A0 (wpAny_notOrdered_dict hT ?_);show wpAny _ _ (pure d) _ _ s;refine A2 ?_;show wpAny _ _ (Builtin.Dict.showsAll d>>=_) _ _ s;unfold Builtin.Dict.showsAll;rw[A6 (by rw[hd];exact AT)];refine A0 (A2 ?_);exact A0 (Aq (A2 ⟨_,rfl,hQ⟩))
theorem yl{v:KP}{Q:KN->KO->Prop}(hv:s.heap.IsValuesView v d)(ho:s.heap.get? d=some o)(HV:o.data=.dict es ep)
  (hQ:Q (.ref s.heap.objs.size) {s with heap:=s.heap.push {cls:= .type "dict_valueiterator",data:= .fields #[.ref d,.int 0 0,.int es.size 0,.int ep 0]}}):
  wpAny (model prog w) A (pyIter (.ref v)) Q E s:=by
 obtain⟨ov,hov,hcv,hdv⟩:=id hv;refine wpAny_pyIter_slot hv.typeIs PySem.F.slot_dict_values_iter (Ag PySem.F.slot_dict_values_iter hv.typeIs PySem.F.entry_dict_values_iter ?_ (PySem.F.args_dict_values_iter_1 _));unfold Builtin.«dict_values.__iter__»;refine A0 (A2 ?_);refine A0 ?_;unfold Builtin.Dict_items.dictOf;refine A0 (BB hov hdv (x:= .ref d) rfl (A2 ?_));refine A0 ?_;unfold Builtin.Dict_items.newIterator;refine A0 (CO ho HV ?_);refine A0 (Cn ho HV ?_);have HD:Builtin.Dict_items.ownsTuple "dict_valueiterator"=false:=by decide
 simp -iota only[HD,AI,At];refine Aq (A2 ⟨_,rfl,"dict_valueiterator",_,⟨_,AC _ rfl,rfl⟩,BJ.lookup,?_⟩);simpa[rawInt] using hQ
theorem ym(GD:s.heap.IsValIter it d i es.size ep)(IW:s.heap.get? d=some o)(IX:o.data=.dict es ep)(he:es[i]? =some e)
  (hQ:∀h',h'.IsValIter it d (i+1) es.size ep->Heap.SameBut it s.heap h'->Q (some e.val) {s with heap:=h'}):wpAny (model prog w) A (pyNext (.ref it)) Q E s:=by
 obtain⟨oi,ho,hc,hd⟩:=id GD;have Gx:i<es.size:=(BQ.mp he).1;unfold pyNext;refine A0 (C1 (B2 (name:=Str.ofString "__next__") GD.typeIs BJ (Ag BJ GD.typeIs PySem.F.entry_dict_valueiterator_next ?_ (PySem.F.args_dict_valueiterator_next_1 _))));refine A0 (A2 ?_);refine A0 ?_;refine A0 ?_;first|refine A0 (C9 GD.typeIs (A2 ?_));skip|refine A0 (Ce GD.typeIs (A2 ?_));skip
 refine A0 (Cy ho hd ?_);have HD:Builtin.Dict_items.ownsTuple "dict_valueiterator"=false:=by decide
 simp -iota only[HD,AI,At];show wpAny _ _ (if(Value.ref d==Value.none)=true then _ else _) _ _ s;rw[A6 (show¬((Value.ref d==Value.none)=true) from AT)];refine A0 (A2 ?_);refine A0 (CO IW IX ?_);rw[A6 (by simp)];refine A0 (A2 ?_);refine A0 (Cn IW IX ?_);rw[A6 (by simp)];refine A2 ?_;simp only[show¬((i:Int)<0) from by lia,At,B0,he];refine A0 ?_;first|refine A0 (C9 GD.typeIs (A2 ?_));skip|refine A0 (Ce GD.typeIs (A2 ?_));skip
 refine A0 (wpAny_isOneOf_valiter GD.typeIs ?_);show wpAny _ _ (setField (.ref it) 1 (rawInt ((i:Int)+1))>>=_) _ _ s;refine A0 (Bt ho hd (by simp) ?_);have GP:(s.heap.update it (Obj.mapFields (·.setIfInBounds 1 (rawInt ((i:Int)+1))))).IsValIter it d (i+1) es.size ep:=⟨_,Bw _ ho (D3 (Bc hd _)),(Obj.cls_mapFields ..).trans hc,by rw[Bc hd];simp[rawInt]⟩;refine A0 (Ap ?_);refine A0 (wpAny_isOneOf_valiter (s:={s with heap:=s.heap.update it (Obj.mapFields (·.setIfInBounds 1 (rawInt ((i:Int)+1))))}) GP.typeIs ?_);refine A0 (wpAny_isOneOf_valiter (s:={s with heap:=s.heap.update it (Obj.mapFields (·.setIfInBounds 1 (rawInt ((i:Int)+1))))}) GP.typeIs ?_);show wpAny _ _ (pure e.val) _ _ _;exact A2 (A2 ⟨_,rfl,A2 (hQ _ GP (B6 ..))⟩)
theorem yn(hh:A.handled=none)(GD:s.heap.IsValIter it d i es.size ep)(IW:s.heap.get? d=some o)(IX:o.data=.dict es ep)(he:es.size<=i)
  (hQ:∀h',Heap.ExtBut it s.heap h'->Q none {s with heap:=h'}):wpAny (model prog w) A (pyNext (.ref it)) Q E s:=by
 obtain⟨oi,ho,hc,hd⟩:=id GD;unfold pyNext;refine A0 (C1 (B2 (name:=Str.ofString "__next__") GD.typeIs BJ (Ag BJ GD.typeIs PySem.F.entry_dict_valueiterator_next ?_ (PySem.F.args_dict_valueiterator_next_1 _))));refine A0 (A2 ?_);refine A0 ?_;refine A0 ?_;first|refine A0 (C9 GD.typeIs (A2 ?_));skip|refine A0 (Ce GD.typeIs (A2 ?_));skip
 refine A0 (Cy ho hd ?_);have HD:Builtin.Dict_items.ownsTuple "dict_valueiterator"=false:=by decide
 simp -iota only[HD,AI,At];show wpAny _ _ (if(Value.ref d==Value.none)=true then _ else _) _ _ s;rw[A6 (show¬((Value.ref d==Value.none)=true) from AT)];refine A0 (A2 ?_);refine A0 (CO IW IX ?_);rw[A6 (by simp)];refine A0 (A2 ?_);refine A0 (Cn IW IX ?_);rw[A6 (by simp)];refine A2 ?_;simp only[show¬((i:Int)<0) from by lia,At,B0,B7 he];refine A0 ?_;first|refine A0 (C9 GD.typeIs (A2 ?_));skip|refine A0 (Ce GD.typeIs (A2 ?_));skip
 show wpAny _ _ (setField (.ref it) 0 .none>>=_) _ _ s;refine A0 (Bt ho hd (by simp) ?_);show wpAny _ _ (newExc (.type "StopIteration") []>>=_) _ _ _;refine A0 ?_;simp only[newExc,newTuple];refine A0 (Aq ?_ (by size_fits));refine A0 (m:=firstArgMember _ _) (wpAny_of_eq (a:=Value.none) (by first|rfl|(simp only[firstArgMember];rfl)) ?_);refine Aq ?_ (by size_fits);simp -iota only[raiseNew];refine A0 (wpAny_handled ?_);rw[show A.in1.handled=none from hh];refine A0 (A2 (wpAny_throw ?_));refine A0 (D5 (T:="StopIteration") (b:=true) ⟨_,AC _ rfl,rfl⟩ isSubtype_stop ?_);exact A2 (hQ _ (((B6 ..).extBut.push _).push _))
theorem yo(hh:A.handled=none)(I d:KP)(Hi:d≠I)(HV:o.data=.dict es ep):
  Walks prog w A I [I,d] [I] es.size (λi v=>∃e,es[i]? =some e/\v=e.val) (λi h=>h.IsValIter I d i es.size ep/\h.get? d=some o) where
 sub:=λb hb=>by simp at hb;simp[hb]
 frame:=λ_ _ _ st hk=>⟨st.1.at λo e=>hk I (by simp) o e,hk d (by simp) _ st.2⟩
 item:=λi s Q E hi st hQ=>ym st.1 st.2 HV (AW hi) λh' IP Jv=>hQ _ h' s.toks ⟨_,AW hi,rfl⟩ ⟨IP,Jv.extBut d _ Hi st.2⟩ λb o hb e=>Jv.extBut b o (λh=>hb (by simp[h])) e
 done:=λs Q E st hQ=>yn hh st.1 st.2 HV (A8 _) λh' Kn=>hQ h' s.toks λb o hb e=>Kn b o (λh=>hb (by simp[h])) e
 self:=λ_ _ _ _ st hQ=>wpAny_pyIter_valiter st.1 hQ
theorem qO(ns:KW Int):∀k,k<=ns.length->preSum (λi=>ns.getD i 0) k=(ns.take k).sum
 |0,_=>by simp[preSum]
 |k+1,h=>by
  have hk:k<ns.length:=by lia
  have g:ns.getD k 0=ns[k]:=by simp[List.getD,hk]
  rw[preSum,qO ns k (by lia),Af,A1 hk,List.sum_append];show _+ns.getD k 0=_+[ns[k]].sum;rw[g];simp
end
theorem mf{α β:Type}{R:α->β->Prop}:∀{xs:KW α}{ys:KW β}{i:Nat}{x:α},Paired R xs ys->xs[i]? =some x->∃y,ys[i]? =some y/\R x y
 |_,_,i,x,.nil,h=>by simp at h
 |_,_,0,x,.cons r _,h=>by simp at h;subst h;exact⟨_,rfl,r⟩
 |_,_,i+1,x,.cons _ t,h=>by simp at h;obtain⟨y,e,r⟩:=mf t h;exact⟨y,by simpa using e,r⟩
def Itk(d:KP)(o:Obj)(Gp:KW (KW Key×V)):It:=
 ⟨λi H=>H d=some (.frz o (.dT Gp))/\i<Gp.length,λi H x H'=>H'=H/\∃b k v,x=.ref b/\Gp[i]? =some (k,v)/\H b=some (.tup (k.map kV)),λi H=>H d=some (.frz o (.dT Gp))/\Gp.length<=i⟩
inductive iDict_(R:(It->Hp->Prop))(x:V)(H1:Hp):Prop
 |mk (d:Addr) (Gp:List (List Key×V)):x=.ref d->Rd H1 d (.dT Gp)->(∀(o:Obj) (H2:Hp),H2 d=some (.frz o (.dT Gp))->(∀b,b≠d->H2 b=H1 b)->R (Itk d o Gp) H2)->iDict_ R x H1
def yp(td:TE):TI:=λσ H R=>td σ H λx H1=>iDict_ R x H1
theorem yq{K:W.Frag}{tg:KY}(d it:KP)(o:Obj)(Gp:KW (KW Key×V))(ep:Nat)(hep:∀GS IK,o.data=.dict GS IK->IK=ep):Turn P w K tg (Itk d o Gp) [it] it (λi h=>h.IsKeyIter it d i Gp.length ep) where
 mem:=by simp
 obj:=λi h st b hb=>by
  have e:b=it:=by simpa using hb
  subst e;obtain⟨o,e,c,d⟩:=st;exact⟨o,e,λv z=>by rw[d] at z;cases z⟩
 keep:=λi h h' st k=>st.at λo e=>k it (by simp) o e
 item:=by
  intro X hP hw hK hc i Gn s σ H E I hf st hg;subst hP hw hK;obtain⟨hq,hi⟩:=hg;obtain⟨ho,z,y,xs,GM,o',es,IK,h1,h2,h3,h4,h5⟩:=(show aC X.prog X.w H s.heap d (.frz o (.dT Gp)) from I.hok d _ hq);obtain rfl:o=o':=AL (ho.symm.trans h1);obtain rfl:IK=ep:=hep _ _ h3;have hx:Gp[i]? =some Gp[i]:=A1 hi;obtain⟨q,hq1,e1,e2,e3⟩:=mf GM hx;have hsz:es.size=Gp.length:=by rw[<-AV,h4,A3,<-CM GM]
  have he:es[i]? =some (entryOfKey (tupleKind (cb X.prog X.w)) q):=by rw[<-B9,h4,AF,hq1];rfl
  obtain⟨f0,f1,f2,f3,f4,f5⟩:=hf it (by simp);rw[<-hsz] at st;refine yi st ho h3 he λh' GP sb=>?_;have I1:Inv X Gn σ H {s with heap:=h'}:=I.turned (t':=s.toks) (λb o hb e=>(sb.2 b hb).trans e) f0 f1 f3 f4 f5;obtain⟨oo,e,c,d'⟩:=id GP;rw[hsz] at GP;exact⟨_,rfl,go_of (s:={s with heap:=h'}) e c d' (by decide) ⟨.ref q.2.1,H,I1,rfl,⟨rfl,q.2.1,Gp[i].1,Gp[i].2,rfl,hx,e2⟩,GP,λb hb=>(hf b hb).1⟩⟩
 done:=by
  intro X hP hw hK hc i Gn s σ H E I hf st hg;subst hP hw hK;obtain⟨hq,hi⟩:=hg;obtain⟨ho,z,y,xs,GM,o',es,IK,h1,h2,h3,h4,h5⟩:=(show aC X.prog X.w H s.heap d (.frz o (.dT Gp)) from I.hok d _ hq);obtain rfl:o=o':=AL (ho.symm.trans h1);obtain rfl:IK=ep:=hep _ _ h3;have hsz:es.size=Gp.length:=by rw[<-AV,h4,A3,<-CM GM]
  obtain⟨f0,f1,f2,f3,f4,f5⟩:=hf it (by simp);rw[<-hsz] at st;exact yj (I.ok.hd hc) st ho h3 (by lia) λh' eb=>⟨rfl,I.turned (t':=s.toks) (λb o hb e=>eb b o hb e) f0 f1 f3 f4 f5⟩
 self:=λ_ _ _ _ _ st h=>wpAny_pyIter_keyiter st h
section
variable{X:Cx}{tg:KY}
theorem yr{h:KZ}(q:aC P w H h d (.dT Gp))(k:∀b ys,H b=some (.tup ys)->H' b=some (.tup ys)):aC P w H' h d (.dT Gp):=by
 obtain⟨z,y,xs,GM,r⟩:=q;exact⟨z,y,xs,KT.keeps GM λc ys ec=>k c ys ec,r⟩
theorem yt{l:KY}{tl:TE}(hl:PE X l tl):PI X tg l (yp tl):=by
 intro Gn s σ H R I h;refine thn (hl Gn s σ H _ I h) λv s1 zu68=>?_;obtain⟨x,H1,I1,r1,q1⟩:=zu68;obtain⟨d,Gp,rfl,hq,q⟩:=q1;cases r1;have hob:aC X.prog X.w H1 s1.heap d (.dT Gp):=iO I1.hok hq;obtain⟨z,y,xs,GM,o,es,ep,h1,h2,h3,h4,h5⟩:=id hob;have hsz:es.size=Gp.length:=by rw[<-AV,h4,A3,<-CM GM]
 obtain⟨H2,I2,e2,k2⟩:∃H2,Inv X Gn σ H2 s1/\H2 d=some (.frz o (.dT Gp))/\∀b,b≠d->H2 b=H1 b:=by
  rcases hq with hq|⟨o',hq⟩
  .exact⟨_,iP (t':=s1.toks) I1 (by rw[hq];exact True.intro) (Heap.SameBut.refl _ _) ⟨o,h1⟩ (show aC X.prog X.w (upd H1 d (.frz o (.dT Gp))) s1.heap d (.frz o (.dT Gp)) from⟨h1,yr hob λb ys e=>by rw[au (kY e hq (λz=>nomatch z))];exact e⟩),am,λb hb=>au hb⟩
  .obtain⟨Hk,_⟩:=(show aC X.prog X.w H1 s1.heap d (.frz o' (.dT Gp)) from I1.hok d _ hq);obtain rfl:o'=o:=AL (Hk.symm.trans h1);exact⟨H1,I1,hq,λ_ _=>rfl⟩
 refine yh y h1 h2 h3 ?_;rw[hsz];refine⟨s1.heap.objs.size,[s1.heap.objs.size],_,_,_,rfl,I2.kept (t':=s1.toks) λb o e=>A4 _ e,yq d _ o Gp ep (λGS IK e=>by rw[h3] at e;cases e;rfl),⟨_,AC _ rfl,rfl,rfl⟩,λb hb=>?_,q o H2 e2 k2⟩;have e:b=s1.heap.objs.size:=by simpa using hb
 subst e;exact I2.fpOk (A8 _) (I2.hok.fresh (A8 _))
theorem yu{g:TG}{tb:TS}{D:Ends}{σ:St}(Pv:Nat->St->Hp->Prop)(h0:Pv 0 σ H)(hl:∀i σ H,i<=Gp.length->Pv i σ H->H d=some (.frz o (.dT Gp)))
  (hs:∀i k v b σ H,Gp[i]? =some (k,v)->Pv i σ H->H b=some (.tup (k.map kV))->g (.ref b) σ H λσ2 H2=>tb (eLp D (Pv (i+1))) σ2 H2) (hd:∀σ H,Pv Gp.length σ H->D.nx σ H):
  ∃Wq:Nat->Nat->St->Hp->Prop,(∃m,Wq 0 m σ H)/\∀i m σ H,Wq i m σ H->
   ((Itk d o Gp).stop i H/\D.nx σ H)\/((Itk d o Gp).go i H/\∃N:St->Hp->Prop,(∀σ' H',N σ' H'->∃m',m'<m/\Wq (i+1) m' σ' H')/\∀x H',(Itk d o Gp).yld i H x H'->g x σ H' λσ2 H2=>tb (eLp D (N)) σ2 H2):=by
 refine⟨λi m σ H=>m=Gp.length-i/\i<=Gp.length/\Pv i σ H,⟨Gp.length,by simp,AR _,h0⟩,?_⟩;rintro i m σ H ⟨rfl,hi,p⟩;have q:=hl i σ H hi p;by_cases Gx:i<Gp.length
 .refine .inr ⟨⟨q,Gx⟩,Pv (i+1),λσ' H' p'=>⟨Gp.length-(i+1),by lia,rfl,Gx,p'⟩,?_⟩;rintro x H' ⟨rfl,b,k,v,rfl,e,hb⟩;exact hs i k v b σ _ e p hb
 .obtain rfl:i=Gp.length:=by lia
  exact .inl ⟨⟨q,A8 _⟩,hd σ H p⟩
def yw(tk tv:TE):TE:=λσ H Q=>∀p,H p=none->tk σ (upd H p (.dT [])) λx H1=>tv σ H1 λy H2=>H2 p=some (.dT [])/\∃k b,x=.ref b/\H2 b=some (.tup (k.map kV))/\Q (.ref p) (upd H2 p (.dT (cg [] k y)))
theorem yx{ek ev:KY}{tk tv:TE}{pos:Pos}(hu:X.A.units+1<cLine)(hk:PE X ek tk)(hv:PE X ev tv):PE X (.Dict [some ek] [ev] pos) (yw tk tv):=by
 intro Gn s σ H Q I q;have hn:=I.hok.fresh (A8 s.heap.objs.size);have I1:=I.laid (a:=s.heap.objs.size) (o:= .dT []) (h':=s.heap.push {cls:= .type "dict",data:= .dict #[]}) (t':=s.toks) (λ_ _ q=>A4 _ q) (A8 _) (o0 s.heap I.big);rw[arm_eval_Dict,zip_pairTrees [some ek] [ev] X.env pos rfl rfl,dictDisplay_pairs (pairTrees [some ek] [ev] X.env pos) (by intro z;cases z) (show 1<17 by decide)];refine A0 (wpAny_standAt (A0 ?_));unfold subDict;refine A0 (wpAny_alloc ?_);refine A0 (Ap ?_);rw[A9 (show(pairTrees [some ek] [ev] X.env pos).length<=15 from(by decide:1<=15))];refine A0 (pairTrees_cons_walk (thn (hk Gn _ σ _ _ I1 (q _ hn)) λu s1 zu69=>?_));obtain⟨x,H1,I2,rx,q1⟩:=zu69;refine thn (hv Gn s1 σ H1 _ I2 q1) λw2 s2 zu70=>?_;obtain⟨y,H2,I3,ry,e,k,b,ex,eb,q2⟩:=zu70;refine pairTrees_nil_walk ?_;subst ex;cases (show u=Value.ref b from rx);obtain⟨z,hd,xs,GM,dd⟩:=oZ I3.hok e;cases GM;refine wpAny_holding (wpAny_bind ?_);rw[List.forIn_cons];dsimp only;refine A0 (A0 (wpAny_dictSet_heap (knd:=tupleKind (cb X.prog X.w)) (show X.A.units<cLine by lia) (gT I3.hok eb) dd (λh' JO hs=>A2 ?_) (AR _)));dsimp only;rw[List.forIn_nil];refine wpAny_pure (wpAny_pure (wpAny_pure (wpAny_pure ?_)));obtain⟨o,es,ep,hq,h2,h3,h4,_,h5⟩:=JO;refine⟨.ref s.heap.objs.size,_,iP I3 (by rw[e];exact True.intro) hs ⟨o,hq⟩ (show aC X.prog X.w (upd H2 s.heap.objs.size (.dT (cg [] k y))) h' s.heap.objs.size (.dT (cg [] k y)) from⟨(by show 1<=sizeLine;decide),hd,_,KT.keeps (KT.put .nil k eb ry) λc ys ec=>?_,o,es,ep,hq,h2,h3,h4,h5⟩),rfl,q2⟩;rw[au (kY ec e (λz=>nomatch z))];exact ec
inductive tSumV_(Q:VK)(x:V)(H1:Hp):Prop
 |mk (d:Addr) (Gp:List (List Key×V)) (ns:List Int):x=.ref d->Rd H1 d (.dT Gp)->Gp.map (·.2)=ns.map V.int->Q (.int ns.sum) H1->tSumV_ Q x H1
def yy(td:TE):TE:=λσ H Q=>td σ H λx H1=>tSumV_ Q x H1
theorem yz{e:KY}{td:TE}{p GC Gy pos:Pos}(hc:X.calm=true)(hg:Gl X "sum")(hm:X.mg "sum"=none)(he:PE X e td)
  (Iy:starEach [Expr.Call (.Attribute e "values" GC) [] [] Gy] X.env=(false,eval (Expr.Call (.Attribute e "values" GC) [] [] Gy) X.env)::starEach [] X.env:=by rfl)
  (G':attributeBase e "values" X.env (eval e X.env)=eval e X.env:=by rfl) (Ha:(GC.endLine==Gy.line)=true:=by rfl):
  PE X (.Call (.Name "sum" p) [.Call (.Attribute e "values" GC) [] [] Gy] [] pos) (yy td):=by
 intro Gn s σ H Q I h;refine BH (dw I hg hm (by first|exact boot_sum|rfl|ac_nf) ?_ (by decide) (by decide));refine Cu ?_ Iy (by rfl);rw[Iy];show wpAny _ _ (spliced ((false,eval (Expr.Call (.Attribute e "values" GC) [] [] Gy) X.env)::backTo pos (starEach [] X.env))) _ _ s;refine BI ?_;refine wpAny_Call_method0_late G' Ha (thn (he Gn s σ H _ I h) λv s1 zu71=>?_);obtain⟨x,H1,I1,r1,q1⟩:=zu71;obtain⟨d,Gp,ns,rfl,hrd,HF,q⟩:=q1;cases r1;obtain⟨hT,HR,hsys⟩:=o6 I1 (.inr ⟨Gp,hrd⟩);obtain⟨z,y,xs,GM,o,es,ep,h1,h2,h3,h4,h5⟩:=(show aC X.prog X.w H1 s1.heap d (.dT Gp) from iO I1.hok hrd);refine⟨"dict","dict.values",PySem.F.plainAttrs_dict,PySem.F.slot_dict_values,PySem.F.type_dict_values,hT,HR,CF rfl (PySem.evalArgs_none (yk hsys h1 h2 (A2 ?_)))⟩;show wpAny _ _ (call (.builtin "sum") [.ref s1.heap.objs.size]) _ _ _;have h1':(s1.heap.push {cls:= .type "dict_values",data:= .fields #[.ref d]}).get? d=some o:=A4 _ h1;have hdl:d<s1.heap.objs.size:=AD h1;have hsz:es.size=Gp.length:=by rw[<-AV,h4,A3,<-CM GM]
 have hnl:ns.length=Gp.length:=by have:=Ah List.length HF;simpa using this.symm
 refine call_sum_walkAnyS (yl (s:={s1 with heap:=s1.heap.push {cls:= .type "dict_values",data:= .fields #[.ref d]}}) ⟨_,AC _ rfl,rfl,rfl⟩ h1' h3 ?_);refine⟨_,_,_,_,_,_,_,λi=>ns.getD i 0,rfl,(yo (A:=X.A.in1) (I.ok.hd hc) (s1.heap.push {cls:= .type "dict_values",data:= .fields #[.ref d]}).objs.size d (by rw[Aw];exact AE (Ab hdl)) h3).toS,⟨⟨_,AC _ rfl,rfl,rfl⟩,A4 _ h1'⟩,?_,?_,?_⟩
 .intro b hb;simp only[AH,Av,Bl] at hb;rcases hb with rfl|rfl
  .show _<(Heap.push (s1.heap.push _) _).objs.size;rw[Aw (s1.heap.push _)];exact B8 _
  .show _<(Heap.push (s1.heap.push _) _).objs.size;rw[Aw,Aw];exact Ab (Ab hdl)
 .rintro i v ⟨e,hei,rfl⟩;rw[<-B9,h4,AF] at hei;obtain⟨q',Jk,rfl⟩:=AY.mp hei;have hi:i<Gp.length:=by rw[CM GM];exact(AJ.mp Jk).1
  obtain⟨q2,hq2,e1,e2,e3⟩:=mf GM (A1 hi);rw[Jk] at hq2;cases hq2;have:Gp[i].2=V.int (ns.getD i 0):=by
   have z1:(Gp.map (·.2))[i]? =some Gp[i].2:=by rw[AF,A1 hi];rfl
   rw[HF,AF,A1 (by lia)] at z1;simp only[Option.map_some,Option.some.injEq] at z1;rw[<-z1,A7,A1 (by lia)];rfl
  rw[this] at e3;exact e3
 .intro s' t' hm';obtain⟨h',g',d',tk',Kd⟩:=s';have eg:g'=s1.gens:=hm'.gens;have ed:d'=s1.drawn:=hm'.drawn;have eo:Kd=s1.os:=hm'.os;subst eg;subst ed;subst eo;have es:preSum (λi=>ns.getD i 0) es.size=ns.sum:=by rw[hsz,<-hnl,qO ns ns.length (A8 _),Az]
  rw[es];refine⟨.int ns.sum,H1,I1.kept λb o e=>hm'.heap b o (λhb=>?_) (A4 _ (A4 _ e)),⟨t',rfl⟩,q⟩;simp only[AH,Av,Bl] at hb;have:=AD e;rw[hb,Aw] at this;exact absurd this (Nat.not_lt.mpr (Bj _))
end
section
variable{X:Cx}
theorem qP:OpR X (binaryOp .Add) (λx y H Q=>∃xs ys,Is H (.t xs) x/\Is H (.t ys) y/\xs.length+ys.length<=sizeLine/\∀v H2,af H H2->Is H2 (.t (xs++ys)) v->Q v H2):=by
 intro Gn s σ H x y v u Q I rx ry h;obtain⟨xs,ys,hx,hy,hz,q⟩:=h;obtain⟨a,vs,rfl,ha,ra⟩:=dk hx;obtain⟨b,ws,rfl,hb,rb⟩:=dk hy;have l1:=ra.length;have l2:=rb.length;by_cases h1:vs=[]
 .subst h1;have hx0:xs=[]:=Bz.mp (by rw[<-l1];rfl);subst hx0;cases rx;cases ry;obtain⟨Gq,r1,p1,_⟩:=I.tuple (SqT.of (K:=X.K) ha);obtain⟨Hy,r2,p2,_⟩:=I.tuple (SqT.of (K:=X.K) hb);cases r1;obtain⟨⟨cls,dd,data,sl⟩,ho,hc,n,hd⟩:=p1;obtain⟨⟨Js,HL,data2,Hx⟩,G9,HM,n2,G4⟩:=p2;simp only at hc hd HM G4;subst hc hd HM G4;exact concat_meets ⟨_,ho,rfl⟩ ⟨_,G9,rfl⟩ noFill_tuple_add seq_tuple_add PySem.F.slot_tuple_add PySem.F.entry_tuple_add (PySem.F.args_tuple_add_2 _ _) (tuple_addW0 a b _ _ n n2 dd HL sl Hx (by simp)) ⟨ho,G9,⟨.ref b,H,I,rfl,q _ H (af.refl H) hy⟩⟩
 .refine vM Gn s σ H (.ref a) (.ref b) v u Q I rx ry ⟨a,b,vs,ws,rfl,rfl,SqT.of ha,SqT.of hb,h1,by lia,λe=>?_,λ_ p np=>?_⟩
  .have:ys=[]:=Bz.mp (by rw[<-l2,e];rfl);subst this;exact q _ H (af.refl H) (by rw[BW];exact hx)
  .exact q _ _ (af.new np) (dB am ((ra.append rb).mono (af.new np)))
theorem qQ:SlR X (λx lo hi H Q=>∃xs xs',Is H (.t xs) x/\(∀(H':Hp) (vs:KW V),Iss H' xs vs->Iss H' xs' (bh vs lo hi))/\(∀vs:KW V,vs.length=xs.length->(HT.sIx vs.length 0 lo=0/\HT.sIx vs.length vs.length hi=vs.length)->xs'=xs)/\∀v H2,af H H2->Is H2 (.t xs') v->Q v H2):=by
 intro Gn s σ H x v vl vu lo hi sl Q I rx hs pl pu h;obtain⟨xs,xs',hx,hc,hw,q⟩:=h;obtain⟨a,vs,rfl,ha,ra⟩:=dk hx;refine xF Gn s σ H (.ref a) v vl vu lo hi sl Q I rx hs pl pu ⟨a,vs,rfl,SqT.of ha,λe=>?_,λe p np=>?_⟩
 .have:=hw vs ra.length e;subst this;exact q _ H (af.refl H) hx
 .exact q _ _ (af.new np) (dB am ((hc _ _ ra).mono (af.new np)))
end
def LTS(H H':Hp):Prop:=(∀b xs,H b=some (.lst xs)->H' b=some (.lst xs))/\∀b xs,H b=some (.tup xs)->H' b=some (.tup xs)
theorem LTS.dict{o:HO}(h:H d=some (.dT Gp)):LTS H (upd H d o):=
 ⟨λb xs e=>by rw[au (by rintro rfl;rw[h] at e;cases e)];exact e,λb xs e=>by rw[au (by rintro rfl;rw[h] at e;cases e)];exact e⟩
theorem LTS.rd(h:Rd H d (.dT Gp))(k:∀b,b≠d->H' b=H b):LTS H H':=by
 have nd:∀b o,H b=some o->(∀Gp,o≠ .dT Gp)->(∀ob u,o≠ .frz ob u)->b≠d:=by
  rintro b o e n1 n2 rfl;rcases h with h|⟨ob,h⟩
  .rw[h] at e;cases e;exact n1 _ rfl
  .rw[h] at e;cases e;exact n2 _ _ rfl
 exact⟨λb xs e=>by rw[k b (nd b _ e (λ_ z=>nomatch z) λ_ _ z=>nomatch z)];exact e,λb xs e=>by rw[k b (nd b _ e (λ_ z=>nomatch z) λ_ _ z=>nomatch z)];exact e⟩
mutual
theorem Is.lts{H H':Hp}(s:LTS H H'):∀{d:D}{v:V},Is H d v->Is H' d v
 |.i _,_,h=>by rw[aS h];exact dj
 |.l xs,_,h=>by
  obtain⟨a,vs,e,q,r⟩:=aP h;rw[e];exact ba (s.1 _ _ q) (Iss.lts s r)
 |.t xs,_,h=>by
  obtain⟨a,vs,e,q,r⟩:=dk h;rw[e];exact dB (s.2 _ _ q) (Iss.lts s r)
theorem Iss.lts{H H':Hp}(s:LTS H H'):∀{xs:KW D}{vs:KW V},Iss H xs vs->Iss H' xs vs
 |[],_,h=>by rw[bP h];exact aM
 |x::xs,_,h=>by
  obtain⟨u,us,e,q,r⟩:=aU h;rw[e];exact aT (Is.lts s q) (Iss.lts s r)
end
theorem yA{K:W.Frag}{a:KP}{xs:KW V}{own:Nat}{js:KW Nat}{g:TG}{ti:TT}{te:TE}{σ:St}{H1:Hp}{acc:KP}{Q:VK}(Pv:Nat->Hp->Prop)(h0:Pv 0 (upd H1 acc (.lst [])))(hl:∀i H2,i<=xs.length->Pv i H2->SqL K H2 a xs)
  (hs:∀i x H2 p,xs[i]? =some x->Pv i H2->H2 p=none->g (.ref p) (cG own js σ) (upd H2 p (.tup [.int i,x])) λσ4 H4=>ti σ4 H4 λb H5=>if b=true then te σ4 H5 λy H6=>rAppend (.ref acc) [y] H6 λ_ H7=>Pv (i+1) H7 else Pv (i+1) H5) (hd:∀H2,Pv xs.length H2->Q (.ref acc) H2)
  (mono:∀σ H (R R':St->Hp->Prop) x,(∀σ' H',R σ' H'->R' σ' H')->g x σ H R->g x σ H R') (Hb:∀σ H (R R':Bool->Hp->Prop),(∀b H',R b H'->R' b H')->ti σ H R->ti σ H R') (Hc:∀σ H (R R':VK),(∀v H',R v H'->R' v H')->te σ H R->te σ H R'):
  gZ (Ite K a) own js g ti te σ H1 acc Q:=by
 refine⟨λi m H2=>m=xs.length-i/\i<=xs.length/\Pv i H2,⟨xs.length,by simp,AR _,h0⟩,?_⟩;rintro i m H2 ⟨rfl,hi,p⟩;have qa:=hl i H2 hi p;by_cases Gx:i<xs.length
 .refine .inr ⟨⟨xs,xs[i],qa,by simp[Gx]⟩,λv H3 z=>?_⟩;obtain⟨x,pp,e1,e3,e4,e5⟩:=z;subst e3 e5;refine mono _ _ _ _ _ (λσ4 H4 q=>Hb _ _ _ _ (λb H5 q=>?_) q) (hs i x _ pp (e1 xs qa) p e4);cases b with
  |true=>
   refine Hc _ _ _ _ (λv H6 q=>?_) q;obtain⟨l,zs,y,a1,a2,a3,a4,a5⟩:=q;exact⟨l,zs,y,a1,a2,a3,a4,_,by lia,rfl,Gx,a5⟩
  |false=>exact⟨_,by lia,rfl,Gx,q⟩
 .obtain rfl:i=xs.length:=by lia
  exact .inl ⟨⟨xs,qa,A8 _⟩,hd H2 p⟩
inductive tNotL_(K:W.Frag)(Q:VK)(x:V)(H1:Hp):Prop
 |mk p xs:x=.ref p->SqL K H1 p xs->Q (.bl xs.isEmpty) H1->tNotL_ K Q x H1
def yB(K:W.Frag)(ta:TE):TE:=λσ H Q=>ta σ H λx H1=>tNotL_ K Q x H1
theorem yC{X:Cx}{a:KY}{ta:TE}{pos:Pos}(ha:PE X a ta):PE X (.UnaryOp .Not a pos) (yB X.K ta):=by
 intro Gn s σ H Q I h;refine UnaryOp_ (thn (ha Gn s σ H _ I h) λv s1 zu72=>?_);obtain⟨x,H1,I1,r1,q1⟩:=zu72;obtain⟨p,xs,rfl,hx,q⟩:=q1;cases r1;obtain⟨Gq,r,pl,hz⟩:=I1.list hx;have Gv:=r.length;have hn:=fm;exact not_of (wpAny_truthy_list pl.isList (by simp only[AA];lia) ⟨.bl xs.isEmpty,H1,I1.tok _,by rw[vc r,Bool.not_not];rfl,q⟩)
section
variable{X:Cx}{Gn:KW (KP×Obj)}{σ:St}{H:Hp}{s:KO}
theorem Inv.goesK{i:Nat}{n:Str}{h':KZ}{m:Str->K0 KN}{t':Nat}{w:K0 KN}(I:Inv X Gn σ H s)(hN:X.N.Nodup)(hi:X.N[i]? =some n)(hn0:s.heap.Ns X.env.locals m)(hl:∀(i:Nat) (x:Str) (v:V),X.N[i]? =some x->σ[i]? =some (some v)->Vis X.env.scope x->∃u,ar v u/\nB X.env s.heap m x u)
  (hn:h'.Ns X.env.locals (λx=>if x=n then w else m x)) (hs:Heap.SameBut X.env.locals s.heap h'):Inv X Gn (σ.set i none) H {s with heap:=h',toks:=t'}:=by
 have lt:∀{b:KP}{o:Obj},X.s₀.heap.get? b=some o->b≠X.env.locals:=λe=>AE (AS (AD e) I.ok.above);refine⟨I.ok,I.os,I.bare,⟨λb o e n hb hx=>?_,λb o e n hb hx=>?_,I.base.free,λb o e hx=>?_,I.base.tups,I.base.frzs,I.base.tbls⟩,⟨_,hn,λj y v' e1 e2 e3=>?_⟩,λy c e=>?_,I.free,I.freeC,λp hp=>?_,λb ob e=>?_,?_⟩
 .exact(hs.2 b (lt e)).trans (I.base.keep b o e n hb hx)
 .obtain⟨sl,e1⟩:=I.base.slot b o e n hb hx;exact⟨sl,(hs.2 b (lt e)).trans e1⟩
 .obtain⟨o',e1⟩:=I.base.there b o e hx;exact⟨o',(hs.2 b (lt e)).trans e1⟩
 .by_cases hj:j=i
  .subst hj;rw[List.getElem?_set_self'] at e2;cases e:σ[j]? with
   |none=>rw[e] at e2;cases e2
   |some a=>rw[e] at e2;cases e2
  .rw[Bv (CB hj)] at e2;obtain⟨u',r',q⟩:=hl j y v' e1 e2 e3;refine⟨u',r',?_⟩;rcases q with⟨k,e⟩|⟨k,c,e,z⟩
   .refine .inl ⟨k,?_⟩;have:y≠n:=λe=>hj (kZ hN e1 (e▸hi));simp[this,e]
   .exact .inr ⟨k,c,e,z.sameBut hs (I.cne y c e)⟩
 .obtain⟨w',q⟩:=I.cell y c e;exact⟨w',q.sameBut hs (I.cne y c e)⟩
 .obtain⟨e,n,ne,nf,d⟩:=I.pin p hp;exact⟨(hs.2 p.1 ne).trans e,n,ne,nf,d⟩
 .refine(I.hok b ob e).stay (λc v hc q=>(hs.2 c λec=>?_).trans q) (λ_ q=>q) λ_ _ q=>q;have fr:=I.free;rw[<-ec] at fr;rcases hc with rfl|hc
  .rw[fr] at e;cases e
  .rw[fr] at hc;cases hc
 .rw[BU];exact I.len
end
def PSx(X:Cx)(st:KW K1)(t:XK->TS):Prop:=
 ∀(E:XK) (Gn:KW (KP×Obj)) (s:KO) (σ:St) (H:Hp) (D:Ends),Inv X Gn σ H s->t E D σ H->wpAny (model X.prog X.w) X.A (execs st X.env) (SP X Gn D) (λe s'=>∃H1 s1,Inv X Gn σ H1 s1/\CX1 X.prog X.w X.stack H1 s1 E e s') s
def Ends.del(D:Ends)(i:Nat):Ends:={nx:=λσ H=>D.nx (σ.set i none) H,rt:=D.rt,bk:=λσ H=>D.bk (σ.set i none) H,ct:=λσ H=>D.ct (σ.set i none) H}
inductive tTry2(K:Frag)(hc:Addr)(i:Nat)(tb:XK->TS)(ts:TS)(D:Ends)(σ:St)(H:Hp):Prop
 |mk (E:XK):tb E D σ H->(∀(C e:Addr) (H':Hp),E (.ref C) none H'->H' e=none->exmOne K (.ref C) (.ref hc)=some true/\ts (D.del i) (σ.set i (some (.ref e))) (upd H' e (dm C e)))->tTry2 K hc i tb ts D σ H
theorem yD{X:Cx}{x n:Str}{hc:KP}{i:Nat}{body JU:KW K1}{b₀:K1}{tb:XK->TS}{ts:TS}{np hpos pos:Pos}(F:Fnc X)(hN:X.N.Nodup)(hi:X.N[i]? =some n)(hx:Loc X.env.scope n)(hloc:X.env.kindOf n=some .local)(hg:Gl X x)(hm:X.mg x=some (.ref hc))
  (hb:PSx X body tb) (hs:∀e,PSs (X.inSuite e) (b₀::JU) ts) (hf:X.fn n=true\/X.env.scope.names.lookup n=some .local:=by first|exact .inl rfl|exact .inr rfl) (Ie:(x==("__debug__":Str))=false:=by decide):
  PS X (.Try body [.ExceptHandler (some (.Name x np)) (some n) (b₀::JU) hpos] [] [] pos) (tTry2 X.K hc i tb ts):=by
 intro Gn s σ H D I ⟨E,hw,hE⟩;refine wpAny_Try_except (BD (hb E Gn s σ H D I hw) (λf s1 q=>?_) λev s1 q=>?_)
 .cases f with
  |next=>exact DB q
  |ret u=>exact q
  |brk=>exact q
  |cont=>exact q
 obtain⟨H1,s0,I0,a,C,H',B,a0,rfl,hEE,os,bare,u,hB,hn,fl,kB,tB⟩:=q;obtain⟨hmt,Jy⟩:=hE C a H' hEE hn;have nfr:a∉frs X.stack:=λz=>by
  obtain⟨_,o,e1,d⟩:=fl.2.2.1.mem z;obtain⟨oe,vs,e2,_,dd,_⟩:=fl.first;rw[e1] at e2;cases e2;exact d _ dd
 have bo:∀{h5:KZ},B.StaysIn h5->s1.heap.UpToSlots h5->Inv X Gn σ H' {s1 with heap:=h5}:=fun{h5} st up=>
  I0.call' (s':={s1 with heap:=h5}) (ch:=[]) os (iZ u fl.2.2.1 kB tB st up) (hB.kept st) bare λ_ z=>absurd z (by simp)
 have bn:=fl.2.1;have Kt:s0.heap.get? a=none:=by
  cases q:s0.heap.get? a with
  |none=>rfl
  |some o=>
   obtain⟨o',z⟩:=tB a o q nfr;rw[bn] at z;cases z
 have hnL:a≠X.env.locals:=λz=>nfr (by rw[F.stk,z];exact i6 (Ai ..) F.fr);have new:X.s₀.heap.get? a=none/\(∀x c,X.env.cells.lookup x=some c->c≠a)/\(∀p∈X.pn++Gn,p.1≠a):=by
  refine⟨?_,λy c q z=>?_,λp hp z=>?_⟩
  .cases q:X.s₀.heap.get? a with
   |none=>rfl
   |some o=>
    obtain⟨o',z⟩:=I0.base.there a o q (by rw[F.ex];simp);rw[Kt] at z;cases z
  .obtain⟨v,o,q1,_⟩:=I0.cell y c q;rw[z,Kt] at q1;cases q1
  .have q1:=(I0.pin p hp).1;rw[z,Kt] at q1;cases q1
 refine wpAny_looks_onW (by rw[I.ok.frames,F.stk]) F.fr (by rw[<-F.stk];exact fl) λh4 held4 up4=>?_;refine wpAny_landsW held4 λh5 fl5 up5=>?_;have I5:Inv (X.inSuite a) Gn σ H' {s1 with heap:=h5}:=(bo fl5.1 (up4.trans up5)).toSuite;refine wpAny_handleBy_cons (codeAny_handlers_test (fV I5 hg hm ?_ Ie)) (by intro q;cases q);obtain⟨ob,ho,IF⟩:=fl5.there;refine(exm_one (K:=X.K) I5.kIn (lJ ho IF) hmt).here ?_;refine codeAny_handlers_suite_as ?_;refine lands_againW fl5 λh6 fl6 up6=>?_;obtain⟨ob6,HY,hcl6⟩:=fl6.there;have I6:Inv X Gn σ (upd H' a (dm C a)) {s1 with heap:=h6}:=(bo fl6.1 ((up4.trans up5).trans up6)).hold hn hnL new ⟨ob6,HY,hcl6⟩;refine gJ (X:=X.inSuite a) (v:= .ref a) I6.toSuite hN hi hx rfl (λs7 I7=>?_) hf;refine BD (hs a Gn s7 _ _ _ I7 Jy) (λf s8 q=>?_) λ_ _ z=>z.elim;have go:∀{σ8:St}{H8:Hp},Inv (X.inSuite a) Gn σ8 H8 s8->(∀s9,Inv X Gn (σ8.set i none) H8 s9->SP X Gn D f s9)->
   wpAny (model X.prog X.w) X.A (do bindName X.env n .none;unbindBehindTheSuite X.env n hpos) (λ_ s9=>SP X Gn D f s9) X.xe s8:=fun{σ8 H8} I8 k=>by
  obtain⟨m,HF,hlk⟩:=I8.loc;refine wpAny_nameGoes_keeps hloc HF (by rw[I.ok.kind];rfl) λh9 v9 hn9 hs9=>?_;exact k _ ((Inv.unSuite I.ok.hd I8).goesK (t':=s8.toks+1) hN hi HF hlk hn9 hs9)
 cases f with
 |next=>obtain⟨σ8,H8,I8,q⟩:=q;exact go I8 λs9 J=>⟨_,_,J,q⟩
 |brk=>obtain⟨σ8,H8,I8,q⟩:=q;exact go I8 λs9 J=>⟨_,_,J,q⟩
 |cont=>obtain⟨σ8,H8,I8,q⟩:=q;exact go I8 λs9 J=>⟨_,_,J,q⟩
 |ret u=>obtain⟨v,σ8,H8,I8,r,q⟩:=q;exact go I8 λs9 J=>⟨v,_,_,J,r,q⟩
end L2
namespace L2
open PySem PySem.Spec PyProof.Rows PyProof PySem.Builtin PySem.Builtin.Str
variable{E:XK}{IZ py:Pos}{N:KW Str}{RQ:KN->KO->Prop}{X:Cx}{g:TG}{i own:Nat}{scope:Scope}{te:TE}{use:K0 (KN->Sem Unit)}{y:Str}
section
variable{X:Cx}
inductive rSlS(x:V)(lo:Option Int)(hi:Option Int)(H:Hp)(Q:VK):Prop
 |mk (z:Str):x=.str z->z.length<=sizeLine->Q (.str (Txt.slice z lo hi)) H->rSlS x lo hi H Q
theorem yE:SlR X rSlS:=by
 intro Gn s σ H x v vl vu lo hi sl Q I rx hs pl pu h;obtain⟨z,rfl,hz,q⟩:=h;obtain⟨t,rfl⟩:=rx;refine⟨"str",_,F.slot_str_getitem.lookup,typeIs_str _ _ _,?_⟩;cases pl with
 |none=>
  cases pu with
  |none=>exact Cr (l:=none) (u:=none) (st:=none) hs rfl (post_val_or_str ⟨Am (Txt.slice_le z _ _) hz,λt' k=>⟨.str _,H,I.tok _,⟨_,rfl⟩,q⟩⟩)
  |int j uj=>exact Cr (l:=none) (u:=some (j,uj)) (st:=none) hs rfl (post_val_or_str ⟨Am (Txt.slice_le z _ _) hz,λt' k=>⟨.str _,H,I.tok _,⟨_,rfl⟩,q⟩⟩)
 |int i ui=>
  cases pu with
  |none=>exact Cr (l:=some (i,ui)) (u:=none) (st:=none) hs rfl (post_val_or_str ⟨Am (Txt.slice_le z _ _) hz,λt' k=>⟨.str _,H,I.tok _,⟨_,rfl⟩,q⟩⟩)
  |int j uj=>exact Cr (l:=some (i,ui)) (u:=some (j,uj)) (st:=none) hs rfl (post_val_or_str ⟨Am (Txt.slice_le z _ _) hz,λt' k=>⟨.str _,H,I.tok _,⟨_,rfl⟩,q⟩⟩)
end
def TrM(B:KZ)(l:KW Env)(e:KP)(cls a0 mk:KN)(h:KZ):Prop:=B.StaysIn h/\B.get? e=none/\h.FunFrames B l/\h.TracedAtW B e cls a0 mk
section
variable{M:Model}{A:KU}{E:KN->KO->Prop}{s:KO}{base:KZ}{env:Env}{outer l:KW Env}{L e:KP}{cls a0 mk:KN}
theorem yF{Q:Unit->KO->Prop}(hfr:A.frames=some (env::outer))(hf:env.frame=some L)(hh:TrM base (env::outer) e cls a0 mk s.heap)
  (hQ:∀h',Heap.FlyingW base outer e cls a0 h'->s.heap.UpToSlots h'->Q () {s with heap:=h'}):wpAny M A (leaving env (.ref e)) Q E s:=by
 obtain⟨f1,f2,f3,f4⟩:=hh;have f4':=f4;obtain⟨oe,vs,T,oT,ts,he,⟨Ic,h0⟩,hd,h1,Ku,hTe,hT,IY,h3⟩:=f4;by_cases hm:(mk==rawInt L)=true
 .unfold leaving;refine A0 ?_;unfold noteFrame;simp only[hf];refine A0 (BB he hd h1 ?_);rw[A9 (show(Value.ref T !=Value.none)=true from by simp)];refine A0 (BB hT IY h3 ?_);rw[A9 hm];refine A2 (wpAny_setFlight_noneW f1 f3 f4' λh' k1 k2 k3 k4=>hQ h' ⟨k1,f2,k2.2.2,k3⟩ λb o hb hn=>⟨o.slots,k4 b o hb hn⟩)
 .subst Ic;unfold leaving noteFrame;simp only[hf];refine A0 (A0 (BB he hd h1 ?_));rw[A9 (show(Value.ref T !=Value.none)=true from by simp)];refine A0 (BB hT IY h3 ?_);rw[A6 hm];refine A0 (Bt hT IY (BQ.mp h3).1 ?_);have GV:∀b,b≠T->(s.heap.update T (Obj.mapFields (·.setIfInBounds 3 Value.none))).get? b=s.heap.get? b:=λb hb=>Cz _ _ (CB hb);have nr:∀b o,s.heap.get? b=some o->(∀vs,o.data≠ .fields vs)->b≠T:=λb o hb hn q=>by
   rw[q,hT] at hb;cases hb;exact hn ts IY
  refine wpAny_newEntryW hfr (f3.of_keeps λb o hb hn=>⟨o,(GV b (nr b o hb hn)).trans hb,rfl⟩) hf ((GV e (CB hTe)).trans he)
   (λb o hb=>(GV b λq=>by rw[q,Ku] at hb;cases hb).trans (f1 b o hb)) f2 hd (BQ.mp h1).1 h0 λh' ⟨x1,x2,x3,x4⟩=>?_
  exact hQ h' ⟨x1,f2,x2.2.2,x3⟩ λb o hb hn=>x4 b o ((GV b (nr b o hb hn)).trans hb) hn
theorem yG{what:String}{env':Env}(hh:TrM base l e cls a0 mk s.heap)(hQ:∀h' mk',TrM base l e cls a0 mk' h'->(∀b o,s.heap.get? b=some o->(∀vs,o.data≠ .fields vs)->h'.get? b=some o)->E (.ref e) {s with heap:=h'}):
  wpAny M A (PySem.passOn what (.ref e) env':Sem KN) (λ_ _=>False) E s:=by
 obtain⟨f1,f2,f3,f4⟩:=hh;obtain⟨oe,vs,T,oT,ts,he,Ic,hd,h1,Ku,hTe,hT,IY,h3⟩:=f4;have hsz:3<ts.size:=(BQ.mp h3).1;have GV:∀b v,b≠T->(s.heap.update T (Obj.mapFields (·.setIfInBounds 3 v))).get? b=s.heap.get? b:=λb v hb=>Cz _ _ (CB hb);have nr:∀b o,s.heap.get? b=some o->(∀vs,o.data≠ .fields vs)->b≠T:=λb o hb hn q=>by
  rw[q,hT] at hb;cases hb;exact hn ts IY
 unfold PySem.passOn;refine A0 (BB he hd h1 ?_);rw[A6 (show¬(Value.ref T==Value.none)=true from by simp)];unfold setFlight;refine A0 (A0 (BB he hd h1 ?_));rw[A9 (show(Value.ref T !=Value.none)=true from by simp)];refine Bt hT IY hsz (wpAny_throw (hQ _ (env'.frame.elim .none λf=>rawInt f) ⟨λb o hb=>(GV b _ λq=>by rw[q,Ku] at hb;cases hb).trans (f1 b o hb),f2,f3.of_keeps λb o hb hn=>⟨o,(GV b _ (nr b o hb hn)).trans hb,rfl⟩,
  ⟨oe,vs,T,_,_,(GV e _ (CB hTe)).trans he,Ic,hd,h1,Ku,hTe,Bw _ hT (D3 (Bc IY _)),Bc IY _,by simp[hsz]⟩⟩ λb o hb hn=>(GV b _ (nr b o hb hn)).trans hb))
end
theorem qR{h h' B B':KZ}:∀{l:KW Env},h.FunFrames B l->(∀b∈frs l,∀o,h.get? b=some o->h'.get? b=some o)->(∀b,B.get? b=none->B'.get? b=none)->h'.FunFrames B' l
 |[],_,_,_=>trivial
 |env::r,⟨a1,⟨L,o,a2,a3,a4,a5⟩,a6⟩,k,kb=>⟨a1,⟨L,o,a2,kb L a3,k L (i6 Ai a2) o a4,a5⟩,qR a6 (λb hb=>k b (by
   obtain⟨e,he,hf⟩:=Ca.mp hb;exact i6 (AU _ he) hf)) kb⟩
def fI(X:Cx)(E:XK):Prop:=∀(a C:KP) (H':Hp) (B:KZ) (a0 mk:KN) (s':KO),X.Ok->E (.ref C) none H'->s'.os=X.s₀.os->AllBare s'.gens->Un X.fs [] X.H₀ H' X.s₀.heap s'.heap->HOk X.prog X.w H' B->H' a=none->TrM B X.stack a (.ref C) a0 mk s'.heap->
 (∀b o,X.s₀.heap.get? b=some o->X.H₀ b=none->b∉X.fs->B.get? b=some o)->(∀b o,X.s₀.heap.get? b=some o->b∉X.fs->∃o',B.get? b=some o')->X.xe (.ref a) s'
section
variable{X:Cx}{Gn:KW (KP×Obj)}{σ:St}{H2:Hp}{s2:KO}
theorem yH{CX:CXT}(F:Fnc X)(hcx:CX=CX1 X.prog X.w)(hxe:X.xe=λe s'=>wpAny (model X.prog X.w) X.A (leaving X.env e) (λ_ HJ=>CX X.outer X.H₀ X.s₀ E e HJ) (λe' HJ=>CX X.outer X.H₀ X.s₀ E e' HJ) s'):fI X E:=by
 intro a C H' B a0 mk s' ok hE os bare u hB hn tr kB tB;subst hcx;rw[hxe];rw[F.stk] at tr;refine yF (by rw[ok.frames,F.stk]) F.fr tr λJu fl up=>?_;exact⟨a,C,H',B,a0,rfl,hE,os,bare,iZ u tr.2.2.1.2.2 kB tB fl.1 up,hB,hn,fl,kB,tB⟩
theorem yI{M:Model}{A:KU}{E:KN->KO->Prop}{use:K0 (KN->Sem Unit)}{Q:KN->KO->Prop}{acc x:KN}{C:KP}{s':KO}
  (h:∃m,s'.heap.Ns C m/\∀h',Heap.SameBut C s'.heap h'->∀cenv:Env,cenv.locals=C->wpAny M A (PySem.passOn "comprehension.variables-let-go" x cenv:Sem KN) (λ_ _=>False) E {s' with heap:=h'}):compPost M A E use Q acc C (.error x) s':=by
 cases use<;>exact h
theorem yJ(F:Fnc X)(hM:fI X E)(I2:Inv X Gn σ H2 s2){C0:KP}(hC:s2.heap.objs.size<=C0){fp:KW KP}(f2:∀b∈fp,ce X Gn H2 b){acc:KN}{EE:KN->KO->Prop}
  (hEE:EE=notedBy (model X.prog X.w) X.A (compEnvC scope (bK X.env scope.names []) C0 X.env) (λe s'=>compPost (model X.prog X.w) X.A X.xe use RQ acc C0 (.error e) s')):cr (CX1 X.prog X.w) (X.comp scope C0 N s2 H2 fp EE) E:=by
 intro HI σ' H s e s' J hc;obtain⟨a,C,H',B,a0,rfl,hE,os,bare,u,hB,hn,fl,kB,tB⟩:=hc;have ub:Un (frs X.stack) fp H2 H s2.heap s.heap:=J.base;have uc:Un (frs X.stack) [] H H' s.heap s'.heap:=u;have kB':∀b o,s.heap.get? b=some o->H b=none->b∉frs X.stack->B.get? b=some o:=kB;have Kb:∀b o,s.heap.get? b=some o->b∉frs X.stack->∃o',B.get? b=some o':=tB;have fl':Heap.FlyingW B X.stack a (.ref C) a0 s'.heap:=fl;have hp:=I2.fpOk (H':=λ_=>none) (b:=C0) hC rfl;have cs:C0∉frs X.stack:=λz=>by
  rcases AH.mp (I2.stkSub C0 z) with q|q
  .exact hp.2.1 q
  .exact hp.2.2.1 q
 have hCn:H C0=none:=J.free;obtain⟨m,⟨o,es,ep,ho,hd,r⟩,_⟩:=J.loc;have hBC:B.get? C0=some o:=kB' C0 o ho hCn cs;have hC':H' C0=none:=uc.free C0 o ho hCn (by simp);show EE (.ref a) s';rw[hEE];show wpAny _ X.A (noteFrame (.ref a) X.env) _ _ s';refine wpAny_looks_onW (by rw[I2.ok.frames,F.stk]) F.fr (by rw[<-F.stk];exact fl') λJu hh up=>yI ?_;rw[<-F.stk] at hh;refine⟨m,⟨o,es,ep,hh.1 C0 o hBC,hd,r⟩,λh3 sb cenv' _=>?_⟩;have nC:∀b o',(W.hideAll B [C0]).get? b=some o'->b≠C0:=λb o' q z=>by
  rw[z,W.hideAll_none [C0] Ai] at q;cases q
 have hid:∀b o',B.get? b=some o'->b≠C0->(W.hideAll B [C0]).get? b=some o':=λb o' q z=>D2 _ q (by simpa using z);have kb:∀b,B.get? b=none->(W.hideAll B [C0]).get? b=none:=λb q=>by
  cases z:(W.hideAll B [C0]).get? b with
  |none=>rfl
  |some o'=>rw[D8 _ z] at q;cases q
 have k3:∀b o',Ju.get? b=some o'->b≠C0->h3.get? b=some o':=λb o' q z=>(sb.2 b z).trans q;have t3:TrM (W.hideAll B [C0]) X.stack a (.ref C) a0 (rawInt X.env.locals) h3:=by
  refine⟨λb o' q=>k3 b o' (hh.1 b o' (D8 _ q)) (nC b o' q),kb a hh.2.1,qR hh.2.2.1 (λb hb o' q=>k3 b o' q λz=>cs (z▸hb)) kb,?_⟩;obtain⟨oe,vs,T,oT,ts,he,Ic,Ib,h1,Ku,hTe,hT,IY,h3'⟩:=hh.2.2.2;exact⟨oe,vs,T,oT,ts,k3 a oe he (λz=>by rw[<-z,hh.2.1] at hBC;cases hBC),Ic,Ib,h1,kb T Ku,hTe,k3 T oT hT (λz=>by rw[<-z,Ku] at hBC;cases hBC),IY,h3'⟩
 have hB':HOk X.prog X.w H' (W.hideAll B [C0]):=λb o' q=>by
  refine(hB b o' q).stay (λc v hc q'=>hid c v q' λz=>?_) (λ_ q'=>q') λ_ _ q'=>q';subst z;rcases hc with rfl|hc
  .rw[hC'] at q;cases q
  .rw[hC'] at hc;cases hc
 refine yG (s:={s' with heap:=h3}) t3 λh4 mk' t4 k4=>?_;have lt2:∀b o',s2.heap.get? b=some o'->b≠C0:=λb o' q=>AE (AS (AD q) hC);have un:Un (frs X.stack) fp H2 H' s2.heap h4:={
  keep:=λb o' q n hb hx=>t4.1 b o' (hid b o' (kB' b o' (ub.keep b o' q n hb hx) (ub.free b o' q n hx) hb) (lt2 b o' q))
  slot:=λb o' q n hb hx=>by
   obtain⟨sl,e1⟩:=ub.slot b o' q n hb hx;obtain⟨sl',e2⟩:=uc.slot b _ e1 (ub.free b o' q n hx) hb (by simp);obtain⟨_,o2,e3,hnf⟩:=fl'.2.2.1.mem hb;rw[e2] at e3;cases e3;obtain⟨Hx,e4⟩:=up b _ e2 hnf;exact⟨Hx,k4 b _ (k3 b _ e4 λz=>cs (z▸hb)) hnf⟩
  free:=λb o' q n hx=>by
   obtain⟨o1,e1⟩:=ub.there b o' q hx;exact uc.free b o1 e1 (ub.free b o' q n hx) (by simp)
  there:=λb o' q hx=>by
   obtain⟨o1,e1⟩:=ub.there b o' q hx;by_cases hb:b∈frs X.stack
   .obtain⟨_,o2,e2,_⟩:=t4.2.2.1.mem hb;exact⟨o2,e2⟩
   .obtain⟨o2,e2⟩:=Kb b o1 e1 hb;exact⟨o2,t4.1 b o2 (hid b o2 e2 (lt2 b o' q))⟩
  tups:=λb xs q=>uc.tups b xs (ub.tups b xs q)
  frzs:=λb o' v q=>uc.frzs b o' v (ub.frzs b o' v q)
  tbls:=λb ps q=>by
   obtain⟨m1,e1⟩:=ub.tbls b ps q;obtain⟨m2,e2⟩:=uc.tbls b _ e1;exact⟨m1++m2,by rw[e2];simp⟩}
 have osJ:s.os=s2.os:=J.os;have I4:Inv X Gn σ H' {s' with heap:=h4}:=I2.call' (ch:=fp) (s':={s' with heap:=h4}) (os.trans osJ) un (hB'.kept t4.1) bare λb hb=>by
  obtain⟨a1,a2,a3,a4,a5,a6⟩:=f2 b hb;exact⟨a4,a2,a5,a6⟩
 have u0:Un X.fs X.ex X.H₀ H' X.s₀.heap h4:=I4.base;have nx:∀b:KP,b∉X.ex:=λb=>by rw[F.ex];simp
 have nf:∀b o',X.s₀.heap.get? b=some o'->b∉fp:=λb o' q z=>by
  rcases(f2 b z).2.2.2.1 with w|w
  .exact nx b w
  .exact absurd (AD q) (Nat.not_lt.mpr w)
 rw[F.ex] at u0;refine hM a C H' _ a0 mk' _ I2.ok hE I4.os bare u0 hB' hn t4 (λb o' q n hb=>?_) λb o' q hb=>?_
 .have q2:=I2.base.keep b o' q n hb (nx b);have n2:=I2.base.free b o' q n (nx b);exact hid b o' (kB' b o' (ub.keep b o' q2 n2 (I2.nstk q hb) (nf b o' q)) (ub.free b o' q2 n2 (nf b o' q)) (I2.nstk q hb)) (lt2 b o' q2)
 .obtain⟨o1,q1⟩:=I2.base.there b o' q (nx b);obtain⟨o2,q2⟩:=ub.there b o1 q1 (nf b o' q);obtain⟨o3,q3⟩:=Kb b o2 q2 (I2.nstk q hb);exact⟨o3,hid b o3 q3 (lt2 b o1 q1)⟩
end
theorem Fun.okz{P:KQ}{w:KS}{K:W.Frag}{mg:Str->K0 KN}{base:KZ}{x Gs:Str}{st:K1}{f:KP}{fd:KR}{ps:KW Str}{k:Nat}{sp:Sp}(F:Fun K x Gs st f fd)(S:FnScope N ps (ak st))(len:∀vs H Q E,sp vs H Q E->vs.length=ps.length)
  (GI:∀(Gu:KN) (A:KU) (outer:KW Env) (s:KO) (H:Hp) (vs:KW V) (Q:VK) (E:XK),Room k (A.deeper (envOfC Gs (ak st) s.heap.objs.size f Gu))->sp vs H Q E->
   iX (bC (CX1 P w) P w K mg base N Gs (ak st) f Gu A outer s H E) E->cr (CX1 P w) (bC (CX1 P w) P w K mg base N Gs (ak st) f Gu A outer s H E) E->
   Fnc (bC (CX1 P w) P w K mg base N Gs (ak st) f Gu A outer s H E)->fI (bC (CX1 P w) P w K mg base N Gs (ak st) f Gu A outer s H E) E->
   ∃t,PSs (bC (CX1 P w) P w K mg base N Gs (ak st) f Gu A outer s H E) (av st) t/\t {nx:=λ_ H'=>Q .non H',rt:=Q} (start N vs) H):FnOk P w K mg base (CX1 P w) (k+1) f fd ps sp:=by
 obtain⟨oc,od,kV,Hl,pm,an,Gu,ct,IL,rfl,lk,G6⟩:=F.ex;refine lp lk G6 S len λA outer s H vs Q E hr HK=>?_;have Fn:Fnc (bC (CX1 P w) P w K mg base N Gs (ak st) f Gu A outer s H E):=⟨rfl,rfl,rfl⟩;exact GI Gu A outer s H vs Q E hr HK (px Fn rfl rfl) (pz Fn rfl rfl) Fn (yH Fn rfl rfl)
theorem qS{GT tg aB:KY}{GQ:KW KY}{pos ps:Pos}{js:KW Nat}{wi:TI}{ti:TT}(F:Fnc X)(hM:fI X E)(hc:X.calm=true)
  (Gz:∀y∈scope.names,y.2≠ .cell) (GE:scope.kind=.function) (GR:∀y∈scope.names,y.2=.local->scope.names.lookup y.1=some .local)
  (GO:∀y∈scope.names,y.2=.free->X.env.kindOf y.1=some .cell\/X.env.kindOf y.1=some .free) (Gv:N.length=own+js.length)
  (Hz:∀(i j:Nat) (x:Str),js[i]? =some j->N[own+i]? =some x->X.N[j]? =some x/\(x,NameKind.free)∈scope.names/\(X.env.kindOf x=some .cell\/X.env.kindOf x=some .free)/\((relabel scope X.env).names.lookup x=some .cell\/(relabel scope X.env).names.lookup x=some .free))
  (hi:PI X tg aB wi) (hg:∀C s₀ H₀ ex E',PG (X.comp scope C N s₀ H₀ ex E') tg g) (ho:dU own g) (ht:∀C s₀ H₀ ex E',dR (X.comp scope C N s₀ H₀ ex E') GQ ti) (he:∀C s₀ H₀ ex E',cr (CX1 X.prog X.w) (X.comp scope C N s₀ H₀ ex E') E->PE (X.comp scope C N s₀ H₀ ex E') GT te)
  {Gn:KW (KP×Obj)}{s:KO}{σ:St}{H:Hp}{Q:VK}(I:Inv X Gn σ H s) (h:fy own js wi g ti te σ H Q)
  (fin:∀(acc C:KP) (H3:Hp) (s4:KO) (m:Str->K0 KN),Inv X Gn σ H3 s4->s4.heap.Ns C m->H3 C=none->C≠X.env.locals->C∉X.fs->X.s₀.heap.objs.size<=C->(∀x c,X.env.cells.lookup x=some c->c≠C)->(∀p∈X.pn++Gn,p.1≠C)->
   Q (.ref acc) H3->compPost (model X.prog X.w) X.A X.xe use RQ (.ref acc) C (.ok .next) s4)
  (hs:∀x,foldedSetIterable aB X.env x=pure x:=by intro _;rfl):
  wpAny (model X.prog X.w) X.A (comprehension (.ListComp GT [⟨tg,aB,GQ,0⟩] scope pos) scope X.env ps (newList []) false (eval aB X.env) use) RQ X.xe s:=by
 have IF:∀y∈scope.names,y.2=.free->∃c,X.env.cells.lookup y.1=some c:=λy hy hf=>I.ok.has y.1 (GO y hy hf);refine wpAny_comprehension_free (use:=use) rfl hs (o9 IF) GE GR (thn (hi Gn s σ H _ I h) λv s1 h1=>thn h1 λitv s2 h2=>?_);obtain⟨it,fp,tn,J,H2,e,I2,T,Kc,f2,q⟩:=h2;subst e;have nf:H2 s2.heap.objs.size=none:=I2.hok.fresh (A8 _);obtain⟨Wq,⟨m0,w0⟩,turn⟩:=q s2.heap.objs.size nf;refine Aq (wpAny_newFunctionEnv Gz (by intro y hy;simp at hy) (λh₁ Ig HA=>?_) GE);dsimp only at Ig HA⊢;generalize Kk:s2.heap.push {cls:= .type "list",dict:=none,data:= .seq ([]:KW KN).toArray}=P2 at Ig HA⊢;have hC:P2.objs.size=s2.heap.objs.size+1:=by rw[<-Kk,Aw]
 have HG:s2.heap.objs.size<P2.objs.size:=by rw[hC];exact B8 _
 have kp:∀b o,s2.heap.get? b=some o->h₁.get? b=some o:=λb o e=>HA.extBut b o (AE (Ci (AD e) HG)) (A4 _ (Kk▸A4 _ e));have Gr:h₁.get? s2.heap.objs.size=some {cls:= .type "list",dict:=none,data:= .seq ([]:KW KN).toArray}:=HA.extBut _ _ (AE HG) (A4 _ (Kk▸AC _ rfl));have Ih:∀x c,(bK X.env scope.names []).lookup x=some c->X.env.cells.lookup x=some c:=λx c e=>lC scope.names [] IF (λ_ _ z=>by simp at z) e;have cne:∀x c,(bK X.env scope.names []).lookup x=some c->c<s2.heap.objs.size/\H2 c=none:=λx c e=>by
  obtain⟨v,o,ho,hd⟩:=I2.cell x c (Ih x c e);exact⟨AD ho,I2.freeC x c (Ih x c e)⟩
 have fpl:∀b∈fp,b<s2.heap.objs.size:=λb hb=>by
  obtain⟨o,e,_⟩:=T.obj 0 _ Kc b hb;exact AD e
 generalize hEE:notedBy (model X.prog X.w) X.A (compEnvC scope (bK X.env scope.names []) P2.objs.size X.env) (λe s'=>compPost (model X.prog X.w) X.A X.xe use RQ (.ref s2.heap.objs.size) P2.objs.size (.error e) s')=EE;have hX:(X.comp scope P2.objs.size N s2 H2 fp EE).Ok:={
  mod:=I.ok.mod
  kind:=GE
  glob:=I.ok.glob
  blt:=I.ok.blt
  above:=Ar HG
  inj:=λx y c a b=>I.ok.inj x y c (Ih x c a) (Ih y c b)
  has:=λx hx=>gY scope.names [] (iS (scope:=scope) (env:=X.env) hx Gz)
  cab:=λx c a _=>by cases (show false=true from a)
  hd:=I.ok.hd
  frames:=I.ok.frames
  stk:= .inl rfl
  exf:=λb hb=>⟨AE (Ci (fpl b hb) HG),λx c a=>(f2 b hb).2.2.2.2.1 x c (Ih x c a)⟩
  bs:=I2.bs
  bsz:=Am I.ok.bsz I2.sz
  noex:=λb o e hb=>by
   rcases(f2 b hb).2.2.2.1 with z|z
   .exact I.ok.noex b o e z
   .exact absurd (AS (AS (AD e) I.ok.bsz) z) (Bi _)
  exfs:=λb hb z=>by
   rcases AH.mp (I2.stkSub b z) with z|z
   .exact(f2 b hb).2.1 z
   .exact(f2 b hb).2.2.1 z
  funs:=I2.stack
  frf:=I2.stkFree}
 have I3:∀tk,Inv (X.comp scope P2.objs.size N s2 H2 fp EE) [] (cG own js σ) (upd H2 s2.heap.objs.size (.lst [])) {s2 with heap:=h₁,toks:=tk}:=λtk=>{
  ok:=hX
  os:=rfl
  bare:=I2.bare
  base:=Un.laid kp (A8 _) nf
  loc:=⟨_,Ig,λi x v a b c=>by
   obtain⟨hio,j,hj,hv⟩:=iT b;obtain⟨h3,h4,h5,h6⟩:=Hz (i-own) j x hj (by rw[show own+(i-own)=i by lia];exact a);obtain⟨m,hn,hl⟩:=I2.loc;obtain⟨u,ru,lk⟩:=hl j x v h3 hv (.inr h5);refine⟨u,ru,.inr ⟨h6,?_⟩⟩;rcases lk with⟨z,_⟩|⟨_,c0,z1,z2⟩
   .rcases h5 with h5|h5<;>(rw[h5] at z;cases z)
   .obtain⟨c1,JP⟩:=gY (env:=X.env) scope.names [] h4;have:=Ih x c1 JP;rw[z1] at this;cases this;obtain⟨o,ho,hd⟩:=z2;exact⟨c0,JP,o,kp _ _ ho,hd⟩⟩
  cell:=λx c a=>by
   obtain⟨v,o,ho,hd⟩:=I2.cell x c (Ih x c a);exact⟨v,o,kp _ _ ho,hd⟩
  free:=by
   show upd H2 _ _ P2.objs.size=none;rw[au (BZ HG)];exact I2.hok.fresh (Ar HG)
  freeC:=λx c a=>by
   rw[au (AE (cne x c a).1)];exact(cne x c a).2
  pin:=λp hp=>absurd (show p∈([]:KW (KP×Obj)) from hp) (by simp)
  hok:=I2.hok.laid kp (A8 _) ⟨AR _,[],0,.nil,Gr⟩
  len:=by rw[pe];exact Gv.symm}
 have hP:cr (CX1 X.prog X.w) (X.comp scope P2.objs.size N s2 H2 fp EE) E:=by
  subst hEE;exact yJ F hM I2 (Ar HG) f2 rfl
 have fr0:∀b∈fp,upd H2 s2.heap.objs.size (.lst []) b=none:=λb hb=>by
  rw[au (AE (fpl b hb))];exact(f2 b hb).1
 have JM:tn 0 h₁:=T.keep 0 _ _ Kc λb _ o e=>kp b o e;have G8:∀{H':Hp},(∀b∈fp,H' b=none)->∀b∈fp,ce (X.comp scope P2.objs.size N s2 H2 fp EE) [] H' b:=λhn b hb=>
  ⟨hn b hb,(hX.exf b hb).1,hX.exfs b hb,.inl hb,λx c a=>(hX.exf b hb).2 x c a,λp hp=>absurd (show p∈([]:KW (KP×Obj)) from hp) (by simp)⟩
 have loop:∀s₃:KO,s₃={s2 with heap:=h₁,toks:=s2.toks+([]:KW (Str×KN)).length}->
   codeAny (model X.prog X.w) X.A (.compLoop (.ListComp GT [⟨tg,aB,GQ,0⟩] scope pos) 0 (.ref it) (.ref s2.heap.objs.size) (compEnvC scope (bK X.env scope.names []) P2.objs.size X.env))
    (compPost (model X.prog X.w) X.A X.xe use RQ (.ref s2.heap.objs.size) P2.objs.size) s₃:=by
  rintro s₃ rfl;refine o8 (λn s'=>∃i H',Inv (X.comp scope P2.objs.size N s2 H2 fp EE) [] (cG own js σ) H' s'/\tn i s'.heap/\(∀b∈fp,H' b=none)/\Wq i n H') ?_ m0 ⟨0,_,I3 _,JM,fr0,w0⟩;rintro n s3 ⟨i,H3,J3,t3,JN,w3⟩;rw[hEE];rcases turn i n H3 w3 with⟨stop,qd⟩|⟨go,step⟩
  .refine thn (T.done (X.comp scope P2.objs.size N s2 H2 fp EE) rfl rfl rfl hc i [] s3 _ H3 _ J3 (G8 JN) t3 stop) λr s4 zu73=>?_;obtain⟨hr,J4⟩:=zu73;subst hr;obtain⟨m,hn,_⟩:=J4.loc;have B:Un (frs X.stack) fp H2 H3 s2.heap s4.heap:=J4.base;have I5:Inv X Gn σ H3 s4:=I2.call' J4.os B J4.hok J4.bare λb hb=>by
    obtain⟨a1,a2,a3,a4,a5,a6⟩:=f2 b hb;exact⟨a4,a2,a5,a6⟩
   have hp:=I2.fpOk (H':=H3) (b:=P2.objs.size) (Ar HG) J4.free;obtain⟨a1,a2,a3,a4,a5,a6⟩:=hp;exact fin s2.heap.objs.size P2.objs.size H3 s4 m I5 hn a1 a2 a3 (Am I2.sz (Ar HG)) a5 a6 qd
  .refine thn (T.item (X.comp scope P2.objs.size N s2 H2 fp EE) rfl rfl rfl hc i [] s3 _ H3 _ J3 (G8 JN) t3 go) λr s4 zu74=>?_;obtain⟨u,hr,h4⟩:=zu74;subst hr;refine thn h4 λ_ s5 zu75=>?_;obtain⟨x,H5,J5,r5,y5,t5,fr5⟩:=zu75;have J5':=J5.pinned (G8 fr5) (T.obj _ _ t5);refine thn (hg _ _ _ _ _ _ s5 _ H5 x u _ J5' r5 (ho _ _ _ _ (step x H5 y5))) λ_ s6 zu76=>?_;obtain⟨σ6,H6,J6,q6,hl6,HY⟩:=zu76;have again:∀{s7:KO}{H7:Hp},Inv (X.comp scope P2.objs.size N s2 H2 fp EE) ([]++fX fp s5.heap) σ6 H7 s7->(∃m',m'<n/\Wq (i+1) m' H7)->
     ∃m,m<n/\∃i H',Inv (X.comp scope P2.objs.size N s2 H2 fp EE) [] (cG own js σ) H' s7/\tn i s7.heap/\(∀b∈fp,H' b=none)/\Wq i m H':=fun{s7 H7} J7 z=>by
    obtain⟨m',hm,w7⟩:=z;refine⟨m',hm,i+1,H7,J7.unpinned.weak (by rw[hl6]) (λk v z=>?_),T.keep _ _ _ t5 λb hb o e=>(J7.pin (b,o) (AQ _ (AQ _ (fY hb e)))).1,λb hb=>?_,w7⟩
    .rw[HY k (iT z).1];exact z
    .obtain⟨o,e,d⟩:=T.obj _ _ t5 b hb;exact(J7.pin (b,o) (AQ _ (AQ _ (fY hb e)))).2.1
   refine thn (ht _ _ _ _ _ _ s6 σ6 H6 _ J6 q6) λok s7 zu77=>?_;obtain⟨H7,J7,q7⟩:=zu77;cases ok with
   |false=>exact again J7 q7
   |true=>
    refine thn (he _ _ _ _ _ hP _ s7 σ6 H7 _ J7 q7) λy s8 zu78=>?_;obtain⟨yv,H8,J8,r8,q8⟩:=zu78;exact thn (fx _ s8 σ6 H8 (.ref s2.heap.objs.size) [yv] (.ref s2.heap.objs.size) [y] _ J8 rfl (.cons r8 .nil) q8) λ_ s9 GB=>by obtain⟨_,H9,J9,_,q9⟩:=GB;exact again J9 q9
 exact codeAny_compStart_list (loop _ rfl) (T.self X.A 0 _ _ _ JM (loop _ rfl))
theorem yK{GT tg aB:Expr}{GQ:List Expr}{pos:Pos}{N:List Str}{js:List Nat}{wi:TI}{ti:TT}(F:Fnc X)(hM:fI X E)(hN:X.N.Nodup)(HB:X.N[i]? =some y)(hy:Loc X.env.scope y)(hf:X.fn y=true\/X.env.scope.names.lookup y=some .local)
  (hc:X.calm=true)
  (Gz:∀y∈scope.names,y.2≠ .cell) (GE:scope.kind=.function) (GR:∀y∈scope.names,y.2=.local->scope.names.lookup y.1=some .local)
  (GO:∀y∈scope.names,y.2=.free->X.env.kindOf y.1=some .cell\/X.env.kindOf y.1=some .free) (Gv:N.length=own+js.length)
  (Hz:∀(i j:Nat) (x:Str),js[i]? =some j->N[own+i]? =some x->X.N[j]? =some x/\(x,NameKind.free)∈scope.names/\(X.env.kindOf x=some .cell\/X.env.kindOf x=some .free)/\((relabel scope X.env).names.lookup x=some .cell\/(relabel scope X.env).names.lookup x=some .free))
  (hi:PI X tg aB wi) (hg:∀C s₀ H₀ ex E',PG (X.comp scope C N s₀ H₀ ex E') tg g) (ho:dU own g) (ht:∀C s₀ H₀ ex E',dR (X.comp scope C N s₀ H₀ ex E') GQ ti) (he:∀C s₀ H₀ ex E',cr (CX1 X.prog X.w) (X.comp scope C N s₀ H₀ ex E') E->PE (X.comp scope C N s₀ H₀ ex E') GT te)
  (hsw:swapsWith (.ListComp GT [⟨tg,aB,GQ,0⟩] scope pos) (some (.Name y py)) IZ.line X.env=pure true:=by rfl)
  (hs:∀x,foldedSetIterable aB X.env x=pure x:=by intro _;rfl):PS X (.Assign [.Name y py] (.ListComp GT [⟨tg,aB,GQ,0⟩] scope pos) IZ) (gO (fy own js wi g ti te) (cn i)):=by
 intro Gn s σ H D I h;rw[exec_Assign_Name_used _ _ _ _ hsw];refine A0 (wpAny_standAt (A0 ?_));show wpAny _ X.A (do let _<-comprehension (.ListComp GT [⟨tg,aB,GQ,0⟩] scope pos) scope X.env _ (newList []) false (eval aB X.env) (some (assign (.Name y py) X.env))) _ _ s;refine A0 (BD (qS F hM hc Gz GE GR GO Gv Hz hi hg ho ht he I h (use:=some (assign (.Name y py) X.env)) (RQ:=λ_ s'=>SP X Gn D .next s') (λacc C H3 s4 m I5 hn c1 c2 c3 c4 c5 c6 q=>?_) hs) (λ_ s' hq=>A2 (A2 hq)) λ_ _ e=>e);show wpAny _ X.A (assign (.Name y py) X.env (.ref acc)) _ _ _;obtain⟨o,es,ep,Hk,hd,hr⟩:=hn;have I6:Inv X (Gn++[(C,o)]) σ H3 s4:=I5.pins_of λp hp=>by
  rcases Br.mp hp with z|z
  .exact I5.pin p (AQ _ z)
  .rw[An.mp z];exact⟨Hk,c1,c2,c3,λv z=>by rw[hd] at z;cases z⟩
 refine wpAny_assign_Name (gJ I6 hN HB hy (v:= .ref acc) rfl (λs' I7=>?_) hf);have hp:=I7.pin (C,o) (AQ _ (AQ _ (by simp)));refine⟨m,⟨o,es,ep,hp.1,hd,hr⟩,λh' sb=>⟨_,H3,?_,q⟩⟩;exact I7.unpinned.turned (t':=s'.toks) (it:=C) (λb o hb e=>(sb.2 b hb).trans e) c1 c2 (.inr c4) c5 c6
section
variable{X:Cx}{XN:KW Str}{sc scope:Scope}{GT tg aB:KY}{GQ:KW KY}{pos:Pos}{N:KW Str}{own:Nat}{js:KW Nat}{wi:TI}{g:TG}{ti:TT}{te:TE}
theorem yL(F:Fnc X)(hM:fI X E)(hN:X.N.Nodup)(HB:X.N[i]? =some y)(hy:Loc X.env.scope y)(hf:X.fn y=true\/X.env.scope.names.lookup y=some .local)(hc:X.calm=true)(ok:g6 XN sc scope own js N=true)(Kl:X.env.scope=sc)(hXN:X.N=XN)(hi:PI X tg aB wi)
  (hg:∀C s₀ H₀ ex E',PG (X.comp scope C N s₀ H₀ ex E') tg g) (ho:dU own g)
  (ht:∀C s₀ H₀ ex E',dR (X.comp scope C N s₀ H₀ ex E') GQ ti) (he:∀C s₀ H₀ ex E',cr (CX1 X.prog X.w) (X.comp scope C N s₀ H₀ ex E') E->PE (X.comp scope C N s₀ H₀ ex E') GT te)
  (hsw:swapsWith (.ListComp GT [⟨tg,aB,GQ,0⟩] scope pos) (some (.Name y py)) IZ.line X.env=pure true:=by rfl)
  (hs:∀x,foldedSetIterable aB X.env x=pure x:=by intro _;rfl):PS X (.Assign [.Name y py] (.ListComp GT [⟨tg,aB,GQ,0⟩] scope pos) IZ) (gO (fy own js wi g ti te) (cn i)):=by
 obtain⟨h1,h2,h3,h4,h5,h6⟩:=lD ok;subst Kl hXN;refine yK F hM hN HB hy hf hc h1 h4 h2 h3 h5 (λi j x a b=>?_) hi hg ho ht he hsw hs;obtain⟨z1,z2,z3⟩:=h6 i j x a b;exact⟨z1,BS z2,z3,iU z2⟩
end
end L2
namespace L2
open PySem PySem.Spec PyProof.Rows PySem.W
variable{K:W.Frag}{Q:K0 KN->KO->Prop}{X:Cx}{a b i1 i2 l2 z:KP}{es:Array DictEntry}{g:TG}{i k k1 own:Nat}{js:KW Nat}{o:KY}{pos:Pos}{td te ty:TE}{tx:Tok}{w:KS}{x zx:Str}{ys:Array KN}
theorem mh{h h':KZ}{ty:String}{t:Tok}(q:h.IsStrIter a ty x t i)(k:∀o,h.get? a=some o->h'.get? a=some o):h'.IsStrIter a ty x t i:=by obtain⟨o,e,r⟩:=q;exact⟨o,k o e,r⟩
section
variable{prog:KQ}{w:KS}{A:KU}{E:KN->KO->Prop}{s:KO}
theorem yM{TI TO:KP}{k2 sg:Nat}{y a b:KN}(D:ZipApart z TI TO i1 i2 l2 l2)(hz:IsZip s.heap z TI TO .none)(I9:IsPair s.heap TI (.ref i1) (.ref i2))(Jz:IsPair s.heap TO a b)
  (h1:s.heap.IsStrIter i1 "str_ascii_iterator" zx tx k1) (h2:s.heap.IsListIter i2 l2 k2) (HP:s.heap.IsList l2 ys) (hx:zx.cps[k1]? =some sg) (hy:ys[k2]? =some y)
  (hQ:∀h',IsZip h' z TI TO (rawInt s.heap.objs.size)->IsPair h' TO (.str ⟨#[sg]⟩ s.toks) y->h'.IsStrIter i1 "str_ascii_iterator" zx tx (k1+1)->h'.IsListIter i2 l2 (k2+1)->IsPair h' s.heap.objs.size (.str ⟨#[sg]⟩ s.toks) y->h'.objs.size=s.heap.objs.size+1->(∀c o,c≠z->c≠TO->c≠i1->c≠i2->s.heap.get? c=some o->h'.get? c=some o)->Q (some (.ref s.heap.objs.size)) {s with heap:=h',toks:=s.toks+1}):
  wpAny (model prog w) A (pyNext (.ref z)) Q E s:=by
 have hT:s.TypeIs (.ref z) "zip":=⟨_,hz,rfl⟩;unfold pyNext;refine A0 (C1 (B2 (name:=Str.ofString "__next__") hT F.slot_zip_next (Ag F.slot_zip_next hT F.entry_zip_next ?_ (F.args_zip_next_1 _))));show wpAny _ _ (field (.ref z) 2>>=_) _ _ _;refine A0 (BB hz rfl (x:= .bool false) rfl ?_);show wpAny _ _ (field (.ref z) 3>>=_) _ _ _;refine A0 (BB hz rfl (x:= .ref TI) rfl (A0 (CU I9 rfl ?_)));show wpAny _ _ (Builtin.SmallTypes.ownedTupleIsFree (.ref z)>>=_) _ _ _;refine A0 ?_;unfold Builtin.SmallTypes.ownedTupleIsFree;refine A0 (BB hz rfl (x:= .none) rfl (A2 ?_));simp only[Bh];refine A0 (wpAny_rule (A0 (BB hz rfl (x:= .ref TO) rfl (A0 (Co hz (by simp) λa1 Kv s1=>?_)))));have Kv:IsZip a1 z TI TO .ellipsis:=Kv;refine A0 ?_;simp only[List.zipIdx_cons,List.zipIdx_nil,List.forIn_cons,List.forIn_nil];refine A0 (A0 (wpAny_onRaise ?_));show wpAny _ _ (Builtin.SmallTypes.nextOf (.ref i1)>>=_) _ _ _;refine A0 (wpAny_nextOf_ascii_item (h1.extBut s1.extBut D.i1z) hx λa2 g1 s2=>A2 ?_);have o2:IsPair a2 TO a b:=s2.extBut _ _ D.TOi1 (s1.extBut _ _ D.TOz Jz);refine A0 (CU o2 rfl (A0 (wpAny_updateSeq_pair o2 λa3 o3 s3=>?_)));have o3:IsPair a3 TO (.str ⟨#[sg]⟩ s.toks) b:=o3;refine A0 (wpAny_letGo (A2 ?_));refine A0 (A0 (wpAny_onRaise ?_));show wpAny _ _ (Builtin.SmallTypes.nextOf (.ref i2)>>=_) _ _ _;refine A0 (wpAny_nextOf_list_item (((h2.extBut s1.extBut D.i2z).extBut s2.extBut D.i12.symm).extBut s3.extBut D.TOi2.symm) (((HP.extBut s1.extBut D.l2z).extBut s2.extBut D.l2i1).extBut s3.extBut D.l2TO) hy λa4 g2 s4=>A2 ?_);have o4:IsPair a4 TO (.str ⟨#[sg]⟩ s.toks) b:=s4.extBut _ _ D.TOi2 o3;refine A0 (CU o4 rfl (A0 (wpAny_updateSeq_pair o4 λa5 o5 s5=>?_)));have o5:IsPair a5 TO (.str ⟨#[sg]⟩ s.toks) y:=o5;refine A0 (wpAny_letGo (A2 (A2 ?_)));refine A0 (CU o5 rfl (A0 (wpAny_newTuple ?_)));have sz:a5.objs.size=s.heap.objs.size:=by rw[s5.1,s4.1,s3.1,s2.1,s1.1]
 have z5:IsZip a5 z TI TO .ellipsis:=s5.extBut _ _ D.TOz.symm (s4.extBut _ _ D.i2z.symm (s3.extBut _ _ D.TOz.symm (s2.extBut _ _ D.i1z.symm Kv)));have k5:∀c o,c≠z->c≠TO->c≠i1->c≠i2->s.heap.get? c=some o->a5.get? c=some o:=λc o c1 c2 c3 c4 e=>s5.extBut _ _ c2 (s4.extBut _ _ c4 (s3.extBut _ _ c2 (s2.extBut _ _ c3 (s1.extBut _ _ c1 e))));have m1:a5.IsStrIter i1 "str_ascii_iterator" zx tx (k1+1):=((g1.extBut s3.extBut D.TOi1.symm).extBut s4.extBut D.i12).extBut s5.extBut D.TOi1.symm;have m2:a5.IsListIter i2 l2 (k2+1):=g2.extBut s5.extBut D.TOi2.symm;have zl:z<a5.objs.size:=AD z5;show wpAny _ _ (Builtin.SmallTypes.ownedTupleHandOut (.ref z) (.ref a5.objs.size)>>=_) _ _ _;refine A0 ?_;unfold Builtin.SmallTypes.ownedTupleHandOut;have z6:IsZip (a5.push {cls:= .type "tuple",data:= .seq #[.str ⟨#[sg]⟩ s.toks,y]}) z TI TO .ellipsis:=A4 _ z5;refine A0 (Co z6 (by simp) λa7 z7 s7=>?_);have z7:IsZip a7 z TI TO (rawInt a5.objs.size):=z7;refine Co z7 (by simp) λa8 z8 s8=>?_;have z8:IsZip a8 z TI TO (rawInt a5.objs.size):=z8;have up:∀c o,c≠z->a5.get? c=some o->a8.get? c=some o:=λc o c1 e=>s8.extBut _ _ c1 (s7.extBut _ _ c1 (A4 _ e));have t8:IsPair a8 a5.objs.size (.str ⟨#[sg]⟩ s.toks) y:=s8.extBut _ _ (BZ zl) (s7.extBut _ _ (BZ zl) (AC _ rfl));have e8:a8.objs.size=a5.objs.size+1:=by rw[s8.1,s7.1,Aw]
 rw[sz] at z8 t8 e8;refine A2 ⟨_,rfl,A2 ?_⟩;show Q (some (.ref a5.objs.size)) _;rw[sz];exact hQ a8 z8 (up _ _ D.TOz o5) (mh m1 λo e=>up _ o D.i1z e) (m2.at λo e=>up _ o D.i2z e) t8 e8 λc o c1 c2 c3 c4 e=>up c o c1 (k5 c o c1 c2 c3 c4 e)
theorem yN{TI TO:KP}{a b:KN}(hh:A.handled=none)(D:ZipApart z TI TO i1 i2 l2 l2)(hz:IsZip s.heap z TI TO .none)(I9:IsPair s.heap TI (.ref i1) (.ref i2))(Jz:IsPair s.heap TO a b)
  (h1:s.heap.IsStrIter i1 "str_ascii_iterator" zx tx k1) (hx:zx.cps[k1]? =none) (hQ:∀h',(∀c o,c≠z->c≠TO->c≠i1->c≠i2->s.heap.get? c=some o->h'.get? c=some o)->Q none {s with heap:=h'}):wpAny (model prog w) A (pyNext (.ref z)) Q E s:=by
 have hT:s.TypeIs (.ref z) "zip":=⟨_,hz,rfl⟩;unfold pyNext;refine A0 (C1 (B2 (name:=Str.ofString "__next__") hT F.slot_zip_next (Ag F.slot_zip_next hT F.entry_zip_next ?_ (F.args_zip_next_1 _))));show wpAny _ _ (field (.ref z) 2>>=_) _ _ _;refine A0 (BB hz rfl (x:= .bool false) rfl ?_);show wpAny _ _ (field (.ref z) 3>>=_) _ _ _;refine A0 (BB hz rfl (x:= .ref TI) rfl (A0 (CU I9 rfl ?_)));show wpAny _ _ (Builtin.SmallTypes.ownedTupleIsFree (.ref z)>>=_) _ _ _;refine A0 ?_;unfold Builtin.SmallTypes.ownedTupleIsFree;refine A0 (BB hz rfl (x:= .none) rfl (A2 ?_));simp only[Bh];refine A0 (wpAny_rule (A0 (BB hz rfl (x:= .ref TO) rfl (A0 (Co hz (by simp) λa1 Kv s1=>?_)))));have Kv:IsZip a1 z TI TO .ellipsis:=Kv;refine A0 ?_;simp only[List.zipIdx_cons,List.zipIdx_nil,List.forIn_cons,List.forIn_nil];refine A0 (A0 (wpAny_onRaise ?_));show wpAny _ _ (Builtin.SmallTypes.nextOf (.ref i1)>>=_) _ _ _;refine A0 (wpAny_nextOf_ascii_end hh (h1.extBut s1.extBut D.i1z) hx λa2 e s2 he=>?_);obtain⟨oe,hoe,hce⟩:=he;have z2:IsZip a2 z TI TO .ellipsis:=s2 _ _ D.i1z.symm Kv;have ez:e≠z:=λx=>by subst x;rw[z2] at hoe;cases hoe;simp at hce
 refine Co z2 (by simp) λa3 _ s3=>?_;refine A0 (D5 (T:="StopIteration") (b:=true) ⟨oe,s3.extBut _ _ ez hoe,hce⟩ isSubtype_stop (A2 (hQ _ λc o c1 _ c3 _ x=>s3.extBut _ _ c1 (s2 _ _ c3 (s1.extBut _ _ c1 x)))))
end
section
variable{prog:KQ}{w:KS}{A:KU}{E:KN->KO->Prop}{s:KO}
abbrev ts1(h:KZ)(x:Str)(t:Tok):KZ:=h.push {cls:= .type "str_ascii_iterator",data:= .fields #[.str x t,.int 0 0]}
abbrev ts2(h:KZ)(x:Str)(t:Tok)(b:KP):KZ:=(ts1 h x t).push {cls:= .type "list_iterator",data:= .fields #[.ref b,.int 0 0]}
abbrev ts3(h:KZ)(x:Str)(t:Tok)(b:KP):KZ:=(ts2 h x t b).push {cls:= .type "tuple",data:= .seq #[.ref h.objs.size,.ref (ts1 h x t).objs.size]}
abbrev ts4(h:KZ)(x:Str)(t:Tok)(b:KP):KZ:=(ts3 h x t b).push {cls:= .type "tuple",data:= .seq #[.none,.none]}
abbrev ts5(h:KZ)(x:Str)(t:Tok)(b:KP):KZ:=(ts4 h x t b).push {cls:= .type "zip",data:= .fields #[.none,.bool false,.bool false,.ref (ts2 h x t b).objs.size,.ref (ts3 h x t b).objs.size]}
theorem yO{t:Tok}{Q:KN->KO->Prop}(ha:x.cps.all (· <128)=true)(hb:s.heap.IsList b ys)
  (h:∀h',IsZip h' (s.heap.objs.size+4) (s.heap.objs.size+2) (s.heap.objs.size+3) .none->IsPair h' (s.heap.objs.size+2) (.ref s.heap.objs.size) (.ref (s.heap.objs.size+1))->IsPair h' (s.heap.objs.size+3) .none .none->h'.IsStrIter s.heap.objs.size "str_ascii_iterator" x t 0->h'.IsListIter (s.heap.objs.size+1) b 0->(∀c o,s.heap.get? c=some o->h'.get? c=some o)->Q (.ref (s.heap.objs.size+4)) {s with heap:=h'}):
  wpAny (model prog w) A (call (.type "zip") [.str x t,.ref b]) Q E s:=by
 have mt:Meets (Builtin.«zip.__new__» ⟨[.type "zip",.str x t,.ref b],[]⟩) (λ_ R s=>s.heap.IsList b ys/\R (.ok (.ret (.ref (ts4 s.heap x t b).objs.size))) {s with heap:=ts5 s.heap x t b}):=
  .of_wp λprog w A R s h=>by
   obtain⟨hp,g,d,tk,os⟩:=s;obtain⟨h2,h⟩:=h;have IU:=sub_zip;have hL2:Heap.IsList (Shared.heap ⟨hp.push {cls:= .type "str_ascii_iterator",data:= .fields #[.str x t,.int 0 0]},g,d,tk,os⟩) b ys:=Heap.IsList.push h2 _
   wp_walk using wpAny_pyIter_ascii ha,Cw hL2
   exact⟨_,rfl,h⟩
 refine callType_new F.called_zip (by decide) (F.typeCall_zip_2 _ _) (F.newCall_zip_2 _ _) (λobj=>F.args_object_init_3 obj _ _) F.entry_zip_new mt ⟨hb,?_⟩;have z1:(ts1 s.heap x t).objs.size=s.heap.objs.size+1:=Aw ..
 have z2:(ts2 s.heap x t b).objs.size=s.heap.objs.size+2:=by rw[Aw,z1]
 have z3:(ts3 s.heap x t b).objs.size=s.heap.objs.size+3:=by rw[Aw,z2]
 have z4:(ts4 s.heap x t b).objs.size=s.heap.objs.size+4:=by rw[Aw,z3]
 have g5:(ts5 s.heap x t b).get? (ts4 s.heap x t b).objs.size=some _:=AC _ rfl;have g4:(ts5 s.heap x t b).get? (ts3 s.heap x t b).objs.size=some _:=A4 _ (AC _ rfl);have g3:(ts5 s.heap x t b).get? (ts2 s.heap x t b).objs.size=some _:=A4 _ (A4 _ (AC _ rfl));have g2:(ts5 s.heap x t b).get? (ts1 s.heap x t).objs.size=some _:=A4 _ (A4 _ (A4 _ (AC _ rfl)));have g1:(ts5 s.heap x t b).get? s.heap.objs.size=some _:=A4 _ (A4 _ (A4 _ (A4 _ (AC _ rfl))));show _/\_;rw[z2,z3,z4] at g5;rw[z1,z2] at g3;rw[z3] at g4;rw[z1] at g2;rw[z4];exact⟨⟨_,g5,rfl⟩,h _ g5 g3 g4 ⟨_,g1,rfl,rfl⟩ ⟨_,g2,rfl,rfl⟩ λc o y=>A4 _ (A4 _ (A4 _ (A4 _ (A4 _ y))))⟩
end
def ItzS(K : W.Frag)(x : Str)(b : KP) : It :=
  ⟨λi H => ∃ ys y, SqL K H b ys /\ i < x.cps.size /\ ys[i]? = some y,
   λi H v H' => ∃ c y p, x.cps[i]? = some c /\ (∀ ys, SqL K H b ys -> ys[i]? = some y) /\ v = .ref p /\ H p = none /\ H' = upd H p (.tup [.str ⟨#[c]⟩, y]),
   λi _ => i = x.cps.size⟩
theorem yP{P:KQ}{Ho:KW KY}{TI TO:KP}(D:ZipApart z TI TO i1 i2 b b):
  Turn P w K (.Tuple Ho k pos) (ItzS K x b) [z,TI,TO,i1,i2] z (λi h=>IsZip h z TI TO .none/\IsPair h TI (.ref i1) (.ref i2)/\(∃x y,IsPair h TO x y)/\h.IsStrIter i1 "str_ascii_iterator" x tx i/\h.IsListIter i2 b i) where
 mem:=by simp
 obj:=λi h st c hc=>by
  obtain⟨h1,h2,⟨x,y,h3⟩,⟨o4,h4,_,d4⟩,⟨o5,h5,_,d5⟩⟩:=st;simp only[AH,Av,Bl] at hc;rcases hc with rfl|rfl|rfl|rfl|rfl
  .exact⟨_,h1,λv q=>by cases q⟩
  .exact⟨_,h2,λv q=>by cases q⟩
  .exact⟨_,h3,λv q=>by cases q⟩
  .exact⟨_,h4,λv q=>by rw[d4] at q;cases q⟩
  .exact⟨_,h5,λv q=>by rw[d5] at q;cases q⟩
 keep:=λi h h' st kk=>⟨kk z (by simp) _ st.1,kk TI (by simp) _ st.2.1,st.2.2.1.imp λx q=>q.imp λy q=>kk TO (by simp) _ q,mh st.2.2.2.1 λo q=>kk i1 (by simp) o q,st.2.2.2.2.at λo q=>kk i2 (by simp) o q⟩
 item:=by
  intro X hP hw hK hc i Gn s σ H E I hf st hg;subst hP hw hK;obtain⟨ys,y,hqb,hx,hy⟩:=hg;obtain⟨bs,rb,pb,zb⟩:=I.list hqb;have hu:x.cps[i]? =some x.cps[i]:=by simp[hx]
  obtain⟨v,hv,rv⟩:=rb.get hy;obtain⟨hz,I9,⟨_,_,Jz⟩,h1,h2⟩:=st;have ltz:z<s.heap.objs.size:=AD hz;refine yM D hz I9 Jz h1 h2 pb.isList (y:=v) hu (by simpa using hv) λh' hz' hTO' h1' h2' hT hsz hk=>⟨.ref s.heap.objs.size,rfl,?_⟩;refine wpAny_letOwnedTupleGo_zip hz' λh3 hz3 sb=>?_;have kk:∀c o,c∉[z,TI,TO,i1,i2]->s.heap.get? c=some o->h3.get? c=some o:=λc o n e=>by
   simp only[AH,Av,Bl,not_or] at n;exact(sb.2 c n.1).trans (hk c o n.1 n.2.2.1 n.2.2.2.1 n.2.2.2.2 e)
  have hT3:h3.get? s.heap.objs.size=some {cls:= .type "tuple",data:= .seq #[.str ⟨#[x.cps[i]]⟩ s.toks,v]}:=(sb.2 _ (BZ ltz)).trans hT;have hTI3:IsPair h3 TI (.ref i1) (.ref i2):=(sb.2 _ D.TIz).trans (hk _ _ D.TIz D.TITO D.TIi1 D.TIi2 I9);refine⟨.ref s.heap.objs.size,upd H s.heap.objs.size (.tup [.str ⟨#[x.cps[i]]⟩,y]),I.turnNew (t':=s.toks+1) hf kk ⟨by show 2<=sizeLine;decide,[.str ⟨#[x.cps[i]]⟩ s.toks,v],.cons ⟨_,rfl⟩ (.cons rv .nil),⟨_,hT3,rfl,_,rfl⟩⟩,rfl,
   ⟨x.cps[i],y,_,hu,λzs hy'=>by rw[I.list_inj hy' hqb];exact hy,rfl,I.hok.fresh (A8 _),rfl⟩,
   ⟨hz3,hTI3,⟨_,_,(sb.2 _ D.TOz).trans hTO'⟩,mh h1' λo q=>(sb.2 _ D.i1z).trans q,h2'.at λo q=>(sb.2 _ D.i2z).trans q⟩,λc hc=>?_⟩
  have there:∃o,s.heap.get? c=some o:=by
   simp only[AH,Av,Bl] at hc;rcases hc with rfl|rfl|rfl|rfl|rfl
   .exact⟨_,hz⟩
   .exact⟨_,I9⟩
   .exact⟨_,Jz⟩
   .exact h1.imp λo q=>q.1
   .exact h2.imp λo q=>q.1
  obtain⟨o,q⟩:=there;rw[au (AE (AD q))];exact(hf c hc).1
 done:=by
  intro X hP hw hK hc i Gn s σ H E I hf st hg;subst hP hw hK;have hg:i=x.cps.size:=hg;obtain⟨hz,I9,⟨_,_,Jz⟩,h1,h2⟩:=st;refine yN (I.ok.hd hc) D hz I9 Jz h1 (by simp;lia) λh' hk=>⟨rfl,I.turnAll (t':=s.toks) hf λc o n e=>?_⟩;simp only[AH,Av,Bl,not_or] at n;exact hk c o n.1 n.2.2.1 n.2.2.2.1 n.2.2.2.2 e
 self:=λ_ _ _ _ _ st h=>wpAny_pyIter_zip st.1 h
section
variable{X:Cx}{Ho:KW KY}{k:Nat}{G7 p pos:Pos}{e f:KY}{te tf:TE}
inductive iZipS_(K:W.Frag)(R:(It->Hp->Prop))(vs:List V)(H1:Hp):Prop
 |mk x b:vs=[.str x,.ref b]->x.cps.all (· <128)=true->((∃ys,SqL K H1 b ys))->R (ItzS K x b) H1->iZipS_ K R vs H1
def yQ(K:W.Frag)(ta:TA):TI:=λσ H R=>ta σ H λvs H1=>iZipS_ K R vs H1
theorem yR{ta:TA}(hg:Gl X "zip")(hm:X.mg "zip"=none)(hl:PA X [e,f] ta)(he:starEach [e,f] X.env=(false,eval e X.env)::starEach [f] X.env:=by rfl)(hp:(backTo pos (starEach [f] X.env)).any (·.1)=false:=by rfl):
  PI X (.Tuple Ho k G7) (.Call (.Name "zip" p) [e,f] [] pos) (yQ X.K ta):=by
 intro Gn s σ H R I h;refine BH (dw I hg hm PyProof.Rows.Boot.«zip» ?_);refine BP (thn (hl _ Gn s σ H _ I h) λus s1 zu79=>?_) he hp;obtain⟨vs,H1,I1,r1,x,b,ev,hqa,⟨ys,hqb⟩,q⟩:=zu79;subst ev;obtain⟨u,v,rfl,ru,rv⟩:=gS r1;obtain⟨tx,rfl⟩:=ru;obtain rfl:v=Value.ref b:=rv;obtain⟨bs,rb,pb,zb⟩:=I1.list hqb;have lb:b<s1.heap.objs.size:=let ⟨_,q,_⟩:=pb.isList;AD q;refine yO hqa pb.isList λh' hz I9 Jz h1 h2 hk=>?_;refine wpAny_pyIter_zip hz ?_;refine⟨_,[_,_,_,_,_],_,_,H1,rfl,I1.kept (t':=s1.toks) hk,yP (zipApart_new lb lb),⟨hz,I9,⟨_,_,Jz⟩,h1,h2⟩,λc hc=>?_,q⟩;have fr:∀c,s1.heap.objs.size<=c->ce X Gn H1 c:=λc z=>I1.fpOk z (I1.hok.fresh z);simp only[AH,Av,Bl] at hc;rcases hc with rfl|rfl|rfl|rfl|rfl<;>exact fr _ (by lia)
end
theorem yS{ys:KW V}{ti:TT}{σ:St}{H1:Hp}{acc:KP}{Q:VK}(hn:x.cps.size<=ys.length)(Pv:Nat->Hp->Prop)(h0:Pv 0 (upd H1 acc (.lst [])))(hl:∀i H2,i<=x.cps.size->Pv i H2->SqL K H2 b ys)
  (hs:∀i c y H2 p,x.cps[i]? =some c->ys[i]? =some y->Pv i H2->H2 p=none->g (.ref p) (cG own js σ) (upd H2 p (.tup [.str ⟨#[c]⟩,y])) λσ4 H4=>ti σ4 H4 λb H5=>if b=true then te σ4 H5 λy H6=>rAppend (.ref acc) [y] H6 λ_ H7=>Pv (i+1) H7 else Pv (i+1) H5) (hd:∀H2,Pv x.cps.size H2->Q (.ref acc) H2)
  (mono:∀σ H (R R':St->Hp->Prop) x,(∀σ' H',R σ' H'->R' σ' H')->g x σ H R->g x σ H R') (Hb:∀σ H (R R':Bool->Hp->Prop),(∀b H',R b H'->R' b H')->ti σ H R->ti σ H R') (Hc:∀σ H (R R':VK),(∀v H',R v H'->R' v H')->te σ H R->te σ H R'):
  gZ (ItzS K x b) own js g ti te σ H1 acc Q:=by
 refine⟨λi m H2=>m=x.cps.size-i/\i<=x.cps.size/\Pv i H2,⟨x.cps.size,by simp,AR _,h0⟩,?_⟩;rintro i m H2 ⟨rfl,hi,p⟩;have qb:=hl i H2 hi p;by_cases Gx:i<x.cps.size
 .have ly:i<ys.length:=by lia
  refine .inr ⟨⟨ys,ys[i],qb,Gx,by simp[ly]⟩,λv H3 z=>?_⟩;obtain⟨c,y,pp,e1,e2,e3,e4,e5⟩:=z;subst e3 e5;refine mono _ _ _ _ _ (λσ4 H4 q=>Hb _ _ _ _ (λb H5 q=>?_) q) (hs i c y _ pp e1 (e2 ys qb) p e4);cases b with
  |true=>
   refine Hc _ _ _ _ (λv H6 q=>?_) q;obtain⟨l,zs,y,a1,a2,a3,a4,a5⟩:=q;exact⟨l,zs,y,a1,a2,a3,a4,_,by lia,rfl,Gx,a5⟩
  |false=>exact⟨_,by lia,rfl,Gx,q⟩
 .obtain rfl:i=x.cps.size:=by lia
  exact .inl ⟨rfl,hd H2 p⟩
theorem qT{XN:KW Str}{sc scope:Scope}{GT tg aB:KY}{GQ:KW KY}{pos:Pos}{N:KW Str}{wi:TI}{ti:TT}{E:XK}(F:Fnc X)(hM:fI X E)(hc:X.calm=true)(ok:g6 XN sc scope own js N=true)(Kl:X.env.scope=sc)(hXN:X.N=XN)(hi:PI X tg aB wi)
  (hg:∀C s₀ H₀ ex E',PG (X.comp scope C N s₀ H₀ ex E') tg g) (ho:dU own g)
  (ht:∀C s₀ H₀ ex E',dR (X.comp scope C N s₀ H₀ ex E') GQ ti) (he:∀C s₀ H₀ ex E',cr (CX1 X.prog X.w) (X.comp scope C N s₀ H₀ ex E') E->PE (X.comp scope C N s₀ H₀ ex E') GT te)
  (hs:∀x,foldedSetIterable aB X.env x=pure x:=by intro _;rfl):PE X (.ListComp GT [⟨tg,aB,GQ,0⟩] scope pos) (fy own js wi g ti te):=by
 obtain⟨h1,h2,h3,h4,h5,h6⟩:=lD ok;subst Kl hXN;intro Gn s σ H Q I h;rw[eval_ListComp];refine qS F hM hc h1 h4 h2 h3 h5 (λi j x a b=>?_) hi hg ho ht he I h (use:=none) (λacc C H3 s4 m I5 hn c1 c2 c3 c4 c5 c6 q=>?_) hs
 .obtain⟨z1,z2,z3⟩:=h6 i j x a b;exact⟨z1,BS z2,z3,iU z2⟩
 .refine⟨m,hn,λh' sb=>⟨.ref acc,H3,?_,rfl,q⟩⟩;exact I5.turned (t':=s4.toks) (it:=C) (λb o hb e=>(sb.2 b hb).trans e) c1 c2 (.inr c4) c5 c6
def fJ(w:KS):KW DictEntry->KW (Str×Str)->Prop
 |[],[]=>True
 |e::es,p::Gp=>(∃t,e.key=.str p.1 t)/\e.hash=hashStr w p.1/\(∃t,e.val=.str p.2 t)/\fJ w es Gp
 |_,_=>False
structure DtS(K:W.Frag)(w:KS)(a:KP)(Gp:KW (Str×Str)):Prop where
 ex:∃es ep,K.lookup a=some ⟨.type "dict",none,.dict es ep, #[]⟩/\fJ w es.toList Gp
 ne:(a==sysModules)=false
def yT{Gp:KW (Str×Str)}{ep:Nat}(l:K.lookup a=some ⟨.type "dict",none,.dict es ep, #[]⟩)(h:fJ w es.toList Gp)(n:(a==sysModules)=false):DtS K w a Gp:=⟨⟨es,ep,l,h⟩,n⟩
theorem qU{w:KS}:∀{es:KW DictEntry}{Gp:KW (Str×Str)},fJ w es Gp->∀e∈es,∃k,Value.isStrOf k e.key=true/\e.hash=hashStr w k
 |[],_,_,e,he=>nomatch he
 |e::es,[],h,_,_=>h.elim
 |e::es,p::Gp,h,e',he=>by
  obtain⟨⟨t,h1⟩,h2,_,h4⟩:=h;rcases AH.mp he with rfl|he
  .exact⟨p.1,by rw[h1];simp[Value.isStrOf],h2⟩
  .exact qU h4 e' he
theorem jm{w:KS}{k:Str}:∀{es:KW DictEntry}{Gp:KW (Str×Str)},fJ w es Gp->(Gp.lookup k=none->(es.find? λe=>Value.isStrOf k e.key).map (·.val)=none)/\∀v,Gp.lookup k=some v->∃t,(es.find? λe=>Value.isStrOf k e.key).map (·.val)=some (.str v t)
 |[],[],_=>⟨λ_=>rfl,λ_ h=>nomatch h⟩
 |[],p::Gp,h=>h.elim
 |e::es,[],h=>h.elim
 |e::es,p::Gp,h=>by
  obtain⟨⟨t,h1⟩,h2,⟨u,h3⟩,h4⟩:=h;rw[BY,BV];by_cases q:k=p.1
  .have b:(k==p.1)=true:=by simp[q]
   have i:Value.isStrOf k e.key=true:=by rw[h1,q];simp[Value.isStrOf]
   rw[b,i];exact⟨λz=>(by cases z),λv z=>⟨u,by rw[<-AL z,<-h3];rfl⟩⟩
  .have b:(k==p.1)=false:=by simp[q]
   have i:Value.isStrOf k e.key=false:=by rw[h1];simp[Value.isStrOf];exact λz=>q z.symm
   rw[b,i];exact jm h4
section
variable{X:Cx}{Gn:KW (KP×Obj)}{σ:St}{H:Hp}{s:KO}{a:KP}{Gp:KW (Str×Str)}
theorem qV(I:Inv X Gn σ H s)(h:DtS X.K X.w a Gp):∃es:Array DictEntry,fJ X.w es.toList Gp/\(∃ob,s.heap.get? a=some ob/\ob.cls=.type "dict")/\s.heap.MapOf (PySem.strKind X.prog X.w) a (findBy Value.isStrOf es):=by
 obtain⟨es,ep,l,h⟩:=h.ex;have hg:=I.kIn a _ l;refine⟨es,h,⟨_,hg,rfl⟩,_,es,ep,hg,⟨rfl,rfl,rfl⟩,rfl,λe he=>qU h e (by simpa using he),λ_=>rfl⟩
inductive tTGet_(K:W.Frag)(w:World)(Q:VK)(x:V)(y:V)(H2:Hp):Prop
 |mk a Gp k v:x=.ref a->DtS K w a Gp->y=.str k->Gp.lookup k=some v->Q (.str v) H2->tTGet_ K w Q x y H2
def yU(K:W.Frag)(w:KS)(td ty:TE):TE:=λσ H Q=>td σ H λx H1=>ty σ H1 λy H2=>tTGet_ K w Q x y H2
theorem qW{i:KY}(ho:PE X o td)(hi:PE X i ty)(hs:iQ i):PE X (.Subscript o i pos) (yU X.K X.w td ty):=by
 intro Gn s σ H Q I h;refine lz PySem.F.slot_dict_getitem.lookup hs (thn (ho Gn s σ H _ I h) λu s1 zu80=>?_);obtain⟨x,H1,I1,rx,q1⟩:=zu80;refine thn (hi Gn s1 σ H1 _ I1 q1) λiv s2 zu81=>?_;obtain⟨y,H2,I2,ry,q⟩:=zu81;obtain⟨a,Gp,k,v,ex,hd,ey,hv,q2⟩:=q;subst ex ey;obtain rfl:u=Value.ref a:=rx;obtain⟨t,rfl⟩:=ry;obtain⟨es,he,hg,mp⟩:=qV I2 hd;obtain⟨t',ht⟩:=(jm he).2 v hv;refine⟨hg,wpAny_getItem_of (knd:=PySem.strKind X.prog X.w) (k:=k) (by simp[PySem.strKind,Value.isStrOf]) mp (v:= .str v t') ?_ ⟨.str v,H2,I2.tok _,⟨_,rfl⟩,q2⟩⟩;show findBy Value.isStrOf es k=_;unfold findBy;obtain⟨l⟩:=es;simpa using ht
inductive tTIn_(K:W.Frag)(w:World)(n:Bool)(Q:VK)(y:V)(x:V)(H2:Hp):Prop
 |mk a Gp k:x=.ref a->DtS K w a Gp->y=.str k->Q (.bl (n !=(Gp.lookup k).isSome)) H2->tTIn_ K w n Q y x H2
def yV(K:W.Frag)(w:KS)(n:Bool)(ty td:TE):TE:=λσ H Q=>ty σ H λy H1=>td σ H1 λx H2=>tTIn_ K w n Q y x H2
theorem yW{k:Str}(he:fJ w es.toList Gp):(findBy Value.isStrOf es k).isSome=(Gp.lookup k).isSome:=by
 have e:findBy Value.isStrOf es k=(es.toList.find? λe=>Value.isStrOf k e.key).map (·.val):=by
  unfold findBy;obtain⟨l⟩:=es;simp
 rw[e];cases h:Gp.lookup k with
 |none=>rw[(jm he).1 h];rfl
 |some v=>
  obtain⟨t,ht⟩:=(jm he).2 v h;rw[ht];rfl
theorem yX{i:KY}(hi:PE X i ty)(ho:PE X o td):PC X .NotIn i o (yV X.K X.w true ty td):=by
 intro Gn s σ H Q I h;refine thn (hi Gn s σ H _ I h) λiv s1 zu82=>?_;obtain⟨y,H1,I1,ry,q1⟩:=zu82;refine thn (ho Gn s1 σ H1 _ I1 q1) λu s2 zu83=>?_;obtain⟨x,H2,I2,rx,q⟩:=zu83;obtain⟨a,Gp,k,ex,hd,ey,q2⟩:=q;subst ex ey;obtain rfl:u=Value.ref a:=rx;obtain⟨t,rfl⟩:=ry;obtain⟨es,he,hg,mp⟩:=qV I2 hd;refine wpAny_notIn_of (knd:=PySem.strKind X.prog X.w) (k:=k) (by simp[PySem.strKind,Value.isStrOf]) hd.ne mp ?_;refine⟨.bl (true !=(Gp.lookup k).isSome),H2,I2.tok _,?_,q2⟩;show _=_;rw[yW he];cases (Gp.lookup k).isSome<;>rfl
theorem yY:MtR X "str.upper" (λo vs H Q=>∃x:Str,o=.str x/\vs=[]/\Builtin.Str.tooLong (Txt.upper x).length=false/\Q (.str (Txt.upper x)) H):=by
 intro Gn s σ H x vs v us Q I rx rv h;obtain⟨x,rfl,rfl,hl,q⟩:=h;obtain⟨t,rfl⟩:=rx;cases rv;exact SC.upper hl ⟨.str _,H,I.tok _,⟨_,rfl⟩,q⟩
end
section
variable{X:Cx}{k:Nat}{f C:KP}{fd:KR}{ps:KW Str}{sp:Sp}{GG:KW V}{ds:KW KN}{m:Str}{pos GJ GC:Pos}{e o:KY}{es:KW KY}{ta:TE}{t:TA}
theorem yZ{pl:Sem Bool}(ho:∀pn z,PE (X.inTry pn z) o ta)(c:Cls X.K C)(hm:Meth X.K C m f)(F:FnOk X.prog X.w X.K X.mg X.base (CX1 X.prog X.w) k f fd ps sp)(hr:Room k X.A)(hb:cL X.K fd ps ds)(hd:ao GG ds)
  (ha:∀pn z,PA (X.inTry pn z) (e::es) t) (he:starEach (e::es) X.env=(false,eval e X.env)::starEach es X.env:=by rfl) (G5:(backTo pos (starEach es X.env)).any (·.1)=false:=by rfl)
  (hs:swapsWith (.Call (.Attribute o m GC) (e::es) [] pos) none GJ.line X.env=pure false:=by rfl)
  (ht:eval (.Call (.Attribute o m GC) (e::es) [] pos) X.env=(do
   let ov<-eval o X.env
   standAt GC.atName
   let (f,first)<-holding [ov] (getMethod ov m pl)
   callWith pos f first (backTo pos (starEach (e::es) X.env)) (backToKw pos (keywordEach [] X.env))):=by rfl):
  PSx X [.Expr (.Call (.Attribute o m GC) (e::es) [] pos) GJ] λE=>nK (ou C m sp GG E ta t):=by
 intro E Gn s σ H D I h;refine wpAny_execs_cons (thn (Q:=SP X Gn D) ?_ λf s1 q=>?_)
 rotate_left 1
 .cases f with
  |next=>exact DB q
  |ret v=>exact q
  |brk=>exact q
  |cont=>exact q
 refine wpAny_Expr_any (thn (Q:=EP X Gn σ λ_ H1=>D.nx σ H1) ?_ λv s1 GB=>by obtain⟨y,H1,I1,r1,q1⟩:=GB;exact⟨σ,H1,I1,q1⟩) I.quiet hs;have J:Inv (X.inTry (X.pn++Gn) λe s'=>∃H1 s1,Inv X Gn σ H1 s1/\CX1 X.prog X.w X.stack H1 s1 E e s') [] σ H s:=I.toTry;refine W.methodCall_KW (pl:=pl) (thn (ho _ _ [] s σ H _ J h) λu s1 zu84=>?_) ht;obtain⟨x,H1,I1,rx,q⟩:=zu84;obtain⟨a,dx,fs,ex,ea,l,q⟩:=q;subst ex;obtain rfl:u=Value.ref a:=rx;refine om I1.unTry ea c hm l ?_;refine D9 (first:=[.ref a]) (h₀:=X.base) I.ok.mod.kin hm.kp (thn (ha _ _ pos [] s1 σ H1 _ I1 q) λus s2 zu85=>?_) he G5;obtain⟨vs,H2,I2',r,q2⟩:=zu85;refine⟨I2'.kIn,?_⟩;have I2:Inv X Gn σ H2 s2:=I2'.unTry;have r2:ao (V.ref a::(vs++GG)) (Value.ref a::(us++ds)):= .cons rfl (r.append hd);have hl:(Value.ref a::us++ds).length=ps.length:=by
  have e:=r2.length;rw[F.len _ _ _ _ q2] at e;exact e.symm
 refine wpAny_call (CD (F.run X.A X.stack s2 H2 ⟨Value.ref a::us,[]⟩ (Value.ref a::(us++ds)) _ _ E hr I2.env0 (hb s2 (Value.ref a::us) I2.kIn hl) r2 q2) λr s' hq=>?_);cases r with
 |error e=>exact⟨H2,s2,I2,hq⟩
 |ok fl=>
  cases fl with
  |ret u=>exact I2.after hq
  |next=>exact False.elim hq
  |brk=>exact False.elim hq
  |cont=>exact False.elim hq
end
section
variable{X:Cx}{Gn:KW (KP×Obj)}{σ:St}{H:Hp}{s:KO}{Q:KN->KO->Prop}
theorem mi{pos:Pos}{v:V}(I:Inv X Gn σ H s)(hN:X.N[i]? =some x)(hv:Vis X.env.scope x)(e:σ[i]? =some (some v))(h:∀u,ar v u->Q u s)(hd:(x==("__debug__":Str))=false:=by decide)(G6:(x==("__classdict__":Str))=false:=by decide):
  wpAny (model X.prog X.w) X.A (eval (.Name x pos) X.env) Q X.xe s:=by
 obtain⟨m,hn,hl⟩:=I.loc;obtain⟨u,r,l⟩:=hl i x v hN e hv;rcases l with⟨hk,hm⟩|⟨hk,c,hc,Gz⟩
 .exact wpAny_Name (wpAny_loadName_local I.ok.kind hk hn hm (h u r)) hd
 .rcases hk with hk|hk
  .exact wpAny_Name (wpAny_loadName_cell I.ok.kind hk hc Gz (h u r)) hd
  .exact wpAny_Name (wpAny_loadName_free I.ok.kind hk hc Gz (h u r) G6) hd
theorem qX{A:KU}{E:KN->KO->Prop}{prog:KQ}{w:KS}{y:Str}{t u:Tok}(hx:(x.length==0)=false)(hy:(y.length==0)=false)(h:Q (.str (x++y) s.toks) {s with toks:=s.toks+1})(hz:x.length+y.length<=sizeLine):
  wpAny (model prog w) A (binaryOp .Add (.str x t) (.str y u)) Q E s:=by
 refine P.add_str ?_;rw[A6 (by rw[hx];decide),A6 (by rw[hy];decide)];exact⟨by rw[A5];exact hz,h⟩
inductive tRep(i:Nat)(a:Str)(c:Str)(y:Str)(z:Str)(d:Str)(t:TA)(σ:St)(H:Hp)(Q:(List V->Hp->Prop)):Prop
 |mk (v:Str):σ[i]? =some (some (.str v))->(a.length==0)=false->(v.length==0)=false->(c.length==0)=false->a.length+v.length<=sizeLine->v.length+c.length<=sizeLine->(y==z)=false->v.length+(v.length+1)*z.length<=16777216->(Txt.replace v y z).length+d.length<=sizeLine->(t σ H λvs H1=>Q (.str (a++v):: .str (v++c):: .str (Txt.replace v y z++d)::vs) H1)->tRep i a c y z d t σ H Q
theorem y6{a c y z d:Str}{k1 k2 k3 k4 k5:Nat}{p1 p2 p3 p4 p5 q1 q2 q3 b1 b2 b3 ap cp:Pos}{es:KW KY}{t:TA}(hr:PA X es t)(hN:X.N[i]? =some x:=by rfl)(hv:Vis X.env.scope x:=by trivial)
  (hd:(x==("__debug__":Str))=false:=by decide) (G6:(x==("__classdict__":Str))=false:=by decide)
  (G':attributeBase (.Name x q3) "replace" X.env (eval (.Name x q3) X.env)=eval (.Name x q3) X.env:=by rfl)
  (Kf:((backTo cp (starEach [.Constant (.str y) k3 p3,.Constant (.str z) k4 p4] X.env)).all (λx=> !x.1)&&(backToKw cp (keywordEach [] X.env)).all (λx=>x.1.isSome)
   &&decide (([.Constant (.str y) k3 p3,.Constant (.str z) k4 p4]:KW KY).length+([]:KW Keyword).length+(if([]:KW Keyword).isEmpty then 0 else 1)<30))=true:=by rfl)
  (Ha:(ap.endLine==cp.line)=true:=by rfl)
  (hs:starEach (.BinOp (.Constant (.str a) k1 p1) .Add (.Name x q1) b1:: .BinOp (.Name x q2) .Add (.Constant (.str c) k2 p2) b2:: .BinOp (.Call (.Attribute (.Name x q3) "replace" ap) [.Constant (.str y) k3 p3,.Constant (.str z) k4 p4] [] cp) .Add (.Constant (.str d) k5 p5) b3::es) X.env
   =(false,eval (.BinOp (.Constant (.str a) k1 p1) .Add (.Name x q1) b1) X.env)::(false,eval (.BinOp (.Name x q2) .Add (.Constant (.str c) k2 p2) b2) X.env)::(false,eval (.BinOp (.Call (.Attribute (.Name x q3) "replace" ap) [.Constant (.str y) k3 p3,.Constant (.str z) k4 p4] [] cp) .Add (.Constant (.str d) k5 p5) b3) X.env)::starEach es X.env:=by rfl):
  PA X (.BinOp (.Constant (.str a) k1 p1) .Add (.Name x q1) b1:: .BinOp (.Name x q2) .Add (.Constant (.str c) k2 p2) b2:: .BinOp (.Call (.Attribute (.Name x q3) "replace" ap) [.Constant (.str y) k3 p3,.Constant (.str z) k4 p4] [] cp) .Add (.Constant (.str d) k5 p5) b3::es) (tRep i a c y z d t):=by
 intro pos Gn s σ H Q I ⟨v,e,ha,hv0,hc,l1,l2,hyz,l3,l4,q⟩;rw[hs];show wpAny _ _ (spliced ((false,eval (.BinOp (.Constant (.str a) k1 p1) .Add (.Name x q1) b1) X.env)::(backTo pos ((false,eval (.BinOp (.Name x q2) .Add (.Constant (.str c) k2 p2) b2) X.env)::(false,eval (.BinOp (.Call (.Attribute (.Name x q3) "replace" ap) [.Constant (.str y) k3 p3,.Constant (.str z) k4 p4] [] cp) .Add (.Constant (.str d) k5 p5) b3) X.env)::starEach es X.env)))) _ _ s;refine BI (wpAny_BinOp (CG (mi (I.tok (s.toks+1)) hN hv e (λu ru=>?_) hd G6)));obtain⟨tu,rfl⟩:=ru;refine qX ha hv0 ?_ l1;refine BI (wpAny_BinOp (mi (I.tok (s.toks+1+1)) hN hv e (λu ru=>?_) hd G6));obtain⟨tv,rfl⟩:=ru;refine CG (qX hv0 hc ?_ l2);refine BI (wpAny_BinOp ?_);refine wpAny_Call_method_late G' Kf Ha rfl (mi (I.tok (s.toks+1+1+1+1)) hN hv e (λu ru=>?_) hd G6);obtain⟨tw,rfl⟩:=ru;refine⟨"str","str.replace",B4,PySem.F.slot_str_replace,PySem.F.type_str_replace,typeIs_str _ _ _,λ_ z=>(by cases z),?_⟩;refine CF (by rfl) (D' ?_);show wpAny _ _ (spliced ((false,eval (.Constant (.str y) k3 p3) X.env)::backTo cp [(false,eval (.Constant (.str z) k4 p4) X.env)])) _ _ _;refine BI (CG ?_);show wpAny _ _ (spliced [(false,eval (.Constant (.str z) k4 p4) X.env)]) _ _ _;refine BI (CG ?_);refine Calls.spliced_nil ?_;refine SC.replace (by simp) (by simp) (by simp) hyz l3 λt' k=>?_;refine CG (PyProof.Rows.add_str (λt2 k2=>?_) l4);exact thn (hr pos Gn _ σ H _ (I.tok k2) q) λus s2 GB=>by obtain⟨xs,H2,I2,r2,q2⟩:=GB;exact⟨.str (a++v):: .str (v++c):: .str (Txt.replace v y z++d)::xs,H2,I2,.cons ⟨_,rfl⟩ (.cons ⟨_,rfl⟩ (.cons ⟨_,rfl⟩ r2)),q2⟩
end
inductive rNeT(K:W.Frag)(x:V)(y:V)(H:Hp)(Q:VK):Prop
 |mk (a b:Addr) (xs ys:List Str):x=.ref a->y=.ref b->SqL K H a (xs.map V.str)->SqL K H b (ys.map V.str)->Q (.bl (!decide (xs=ys))) H->rNeT K x y H Q
theorem y7(hr:Room k X.A):OpR X (compareOp .NotEq) (rNeT X.K):=by
 intro Gn s σ H x y v u Q I rx ry h;obtain⟨a,b,xs,ys,rfl,rfl,h1,h2,q⟩:=h;obtain rfl:v=Value.ref a:=rx;obtain rfl:u=Value.ref b:=ry;obtain⟨is,r1,p1,z1⟩:=I.list h1;obtain⟨js,r2,p2,z2⟩:=I.list h2;have hu:=hr.un;have l1:=r1.length;have l2:=r2.length;rw[A3] at l1 l2;have R:SeqAt.RcNeAt X.A s (.ref a) (.ref b) (!decide (xs=ys)):=by
  by_cases sz:xs.length=ys.length
  .have it:∀j (q1:j<is.toArray.size) (q2:j<js.toArray.size),SeqAt.EqAt X.A.in1 s is.toArray[j] js.toArray[j] (decide (xs.getD j Str.empty=ys.getD j Str.empty)):=λj q1 q2=>by
    simp only[AA] at q1 q2;have hx:(xs.map V.str)[j]? =some (.str xs[j]):=by rw[AF,A1 (by lia)];rfl
    have hy:(ys.map V.str)[j]? =some (.str ys[j]):=by rw[AF,A1 (by lia)];rfl
    obtain⟨u1,e1,t1,rfl⟩:=r1.get hx;obtain⟨u2,e2,t2,rfl⟩:=r2.get hy;have g1:is.toArray[j]=.str xs[j] t1:=by
     rw[A1 q1] at e1;simpa using Option.some.inj e1
    have g2:js.toArray[j]=.str ys[j] t2:=by
     rw[A1 q2] at e2;simpa using Option.some.inj e2
    have gx:xs.getD j Str.empty=xs[j]:=by rw[A7,A1 (by lia)];rfl
    have gy:ys.getD j Str.empty=ys[j]:=by rw[A7,A1 (by lia)];rfl
    rw[g1,g2,gx,gy,show decide (xs[j]=ys[j])=(xs[j]==ys[j]) by rw[Bool.beq_eq_decide_eq]];exact SeqAt.EqAt.str_str _ _ _ _
   have R:=SeqAt.RcNeAt.lists p1.isList p2.isList (by simp only[AA];lia) (by lia) it;have e:(List.range is.toArray.size).all (λj=>decide (xs.getD j Str.empty=ys.getD j Str.empty))=decide (xs=ys):=by
    rw[D1,decide_eq_true_iff,AG];constructor
    .intro h;refine Cv sz λj p q=>?_;have:=h j (by rw[Ak,AA];lia);simpa[List.getD,p,q] using this
    .rintro rfl j _;simp
   rw[<-e];exact R
  .rw[Al λz=>sz (Ah List.length z)];exact SeqAt.RcNeAt.lists_lengths p1.isList p2.isList (by simp only[AA,bne_iff_ne,ne_eq];lia) (by lia)
 exact R X.prog X.w X.xe _ ⟨.bl _,H,I,rfl,q⟩
def bu:KW KY->K0 (KW Str)
 |[]=>some []
 |.Constant (.str x) _ _::r=>(bu r).map (x:: ·)
 |_::_=>none
def qY(L:KW Str):TE:=λ_ H Q=>∀l,H l=none->Q (.ref l) (upd H l (.lst (L.map V.str)))
theorem qZ{X:Cx}:∀{es:KW KY}{L:KW Str},bu es=some L->PA X es λ_ H Q=>Q (L.map V.str) H
 |[],L,h=>by
  obtain rfl:=AL h;exact ae
 |.Constant (.str x) _ _::r,L,h=>by
  unfold bu at h;obtain⟨M,hM,rfl⟩:=AY.mp h;exact aa aq (qZ hM)
theorem y8{es:KW KY}{x1}(L:KW Str)(h:bu es=some L)(hl:L.length<=100):PE X (.List es x1) (qY L):=by
 intro Gn s σ H Q I q;exact iH (qZ h) Gn s σ H Q I ⟨by rw[A3];exact Am hl (by decide),q⟩
def noE:KY:= .Constant .none 0 ⟨0,0,0,0⟩
def gk:KW Nat->KY->KY
 |[],e=>e
 |i::p,.Call _ args _ _=>gk p (args.getD i noE)
 |0::p,.BinOp a _ _ _=>gk p a
 |_::p,.BinOp _ _ b _=>gk p b
 |i::p,.Tuple es _ _=>gk p (es.getD i noE)
 |_::_,e=>e
def gl:KW Nat->KY->KY->KY
 |[],_,x=>x
 |i::p,.Call f args k pos,x=>.Call f (args.set i (gl p (args.getD i noE) x)) k pos
 |0::p,.BinOp a o b pos,x=>.BinOp (gl p a x) o b pos
 |_::p,.BinOp a o b pos,x=>.BinOp a o (gl p b x) pos
 |i::p,.Tuple es n pos,x=>.Tuple (es.set i (gl p (es.getD i noE) x)) n pos
 |_::_,e,_=>e
def aJ:KW Nat->KW K1->KY
 |[],_=>noE
 |j::p,b=>match b.getD j (.Pass ⟨0,0,0,0⟩),p with
  |.Return (some e) _,p=>gk p e
  |.Assign _ e _,p=>gk p e
  |.If _ a _ _,1::p=>aJ p a
  |_,_=>noE
def bL:KW Nat->KW K1->KY->KW K1
 |[],b,_=>b
 |j::p,b,x=>b.set j (match b.getD j (.Pass ⟨0,0,0,0⟩),p with
  |.Return (some e) pos,p=>.Return (some (gl p e x)) pos
  |.Assign ts e pos,p=>.Assign ts (gl p e x) pos
  |.If c a d pos,1::p=>.If c (bL p a x) d pos
  |s,_=>s)
def bR:KY->KW KY
 |.List es _=>es
 |_=>[]
def bS:KY->Pos
 |.List _ p=>p
 |_=>⟨0,0,0,0⟩
def bT{l0:KW KY}{p0:Pos}(L:KW Str)(h:bu l0=some L)(hl:L.length<=100):∀X,PE X (.List l0 p0) (qY L):=λ_=>y8 L h hl
end L2
local macro_rules | `(tactic| ac_rfl) => `(tactic| (intro _ _ _ _ h; cases h; subst_vars; rfl))
namespace Mine
open PySem L2 PyProof.Rows
variable{K:W.Frag}{X:Cx}{an od:K0 KP}{cd ct dc oc pm:KN}{d fd:KR}{e:KY}{f:KP}{i k:Nat}{n q x:Str}{ps:KW Str}{sl:Array (K0 KN)}{sp:Sp}{st:K1}
def top(i:Nat):K1:=PySem.Challenge.pw_floorcurves_k84_desk_refused.main.body.getD i (.Pass ⟨0,0,0,0⟩)
abbrev jn:K1:=top 10
theorem y9:FnScope ["thing"] ["thing"] (ak jn):=by and_intros
abbrev jo:K1:=top 11
theorem za:FnScope ["thing","least","greatest"] ["thing","least","greatest"] (ak jo):=by and_intros
abbrev jp:K1:=top 12
theorem zc:FnScope ["d","k"] ["d","k"] (ak jp):=by and_intros
abbrev jq:K1:=top 13
theorem zd:FnScope ["d","k"] ["d","k"] (ak jq):=by and_intros
abbrev jr:K1:=top 14
theorem ze:FnScope ["d"] ["d"] (ak jr):=by and_intros
abbrev jt:K1:=top 19
theorem zf:FnScope ["numbers","place","more"] ["numbers","place","more"] (ak jt):=by and_intros
abbrev ju:K1:=top 33
theorem g9:FnScope ["d","drawing","ends","i","j","w"] ["d","drawing"] (ak ju):=by and_intros
abbrev jv:K1:=top 34
theorem zg:FnScope ["d","drawing"] ["d","drawing"] (ak jv):=by and_intros
abbrev jw:K1:=top 35
theorem zh:FnScope ["lift"] ["lift"] (ak jw):=by and_intros
abbrev jx:K1:=top 36
theorem jy:FnScope ["d","floor","weight","spare","found","j","w"] ["d","floor","weight","spare"] (ak jx):=by and_intros
abbrev jz:K1:=top 37
theorem hG:FnScope ["lifts","weight","spare","found","place","lift","rest"] ["lifts","weight","spare"] (ak jz):=by and_intros
abbrev gm:K1:=top 38
theorem gp:FnScope ["d","floor","drawing","spare","there","found","lifts","ends","left"] ["d","floor","drawing","spare"] (ak gm):=by and_intros
abbrev hJ:K1:=top 39
theorem fK:FnScope ["d","k","begun","floor","longer","drawing","spare"] ["d","k"] (ak hJ):=by and_intros
abbrev jA:K1:=top 41
theorem jB:FnScope ["drawing","product","lift"] ["drawing"] (ak jA):=by and_intros
abbrev jC:K1:=top 44
theorem eP:FnScope ["number","chosen","found","place"] ["number","chosen"] (ak jC):=by and_intros
abbrev jD:K1:=top 46
theorem rc:FnScope ["d","drawing"] ["d","drawing"] (ak jD):=by and_intros
abbrev jE:K1:=top 47
theorem jF:FnScope ["d","drawing","found","place","number"] ["d","drawing"] (ak jE):=by and_intros
abbrev jG:K1:=top 48
theorem gq:FnScope ["numbers","first","last","alike","found","here","choices","fuller","others"] ["numbers","first","last","alike"] (ak jG):=by and_intros
abbrev jH:K1:=top 49
theorem eQ:FnScope ["d","marks","known","mark","fuller","numbers","further","choices"] ["d","marks"] (ak jH):=by and_intros
abbrev jI:K1:=top 50
theorem rf:FnScope ["d","drawing"] ["d","drawing"] (ak jI):=by and_intros
abbrev hU:K1:=top 51
theorem zi:FnScope ["d","k"] ["d","k"] (ak hU):=by and_intros
abbrev jJ:K1:=top 52
theorem zj:FnScope ["d","k","whole"] ["d","k"] (ak jJ):=by and_intros
abbrev jK:K1:=top 70
theorem zm:FnScope ["k","start"] ["k"] (ak jK):=by and_intros
abbrev jL:K1:=top 73
theorem rg:FnScope ["thing","number"] ["thing"] (ak jL):=by and_intros
abbrev ia:K1:=top 74
theorem zn:FnScope ["row"] ["row"] (ak ia):=by and_intros
abbrev jM:K1:=top 75
theorem zo:FnScope ["d","held","free"] ["d","held","free"] (ak jM):=by and_intros
abbrev mj:K1:=top 85
abbrev jN:K1:=top 87
theorem zp:FnScope ["d","k","held","free"] ["d","k","held","free"] (ak jN):=by and_intros
abbrev jO:K1:=top 88
theorem zq:FnScope ["d","k","held","free"] ["d","k","held","free"] (ak jO):=by and_intros
abbrev jP:K1:=top 113
theorem zr:FnScope ["d","k","over","under","total","way"] ["d","k"] (ak jP):=by and_intros
abbrev jQ:K1:=top 117
theorem zt:FnScope ["d","k","total","drawing","weights"] ["d","k"] (ak jQ):=by and_intros
abbrev jR:K1:=top 119
theorem gr:FnScope ["d","lesser","total","e","f","choices"] ["d","lesser"] (ak jR):=by and_intros
abbrev jS:K1:=top 120
theorem ml:FnScope ["d","counts","degree"] ["d"] (ak jS):=by and_intros
abbrev jT:K1:=top 123
theorem jU:FnScope ["lift","i","j","w"] ["lift"] (ak jT):=by and_intros
abbrev mm:K1:=top 126
abbrev mn:K1:=top 127
abbrev ib:K1:=top 128
theorem rh:FnScope ["word","most","in_figures"] ["word","most"] (ak ib):=by and_intros
abbrev jV:K1:=top 129
theorem rj:FnScope ["word","most","number"] ["word","most"] (ak jV):=by and_intros
abbrev jW:K1:=top 130
theorem gs:FnScope ["word","floors","upper","i","j","w"] ["word"] (ak jW):=by and_intros
abbrev ic:K1:=top 131
theorem rk:FnScope ["text","lifts"] ["text"] (ak ic):=by and_intros
abbrev jX:K1:=top 135
theorem zu:FnScope ["word"] ["word"] (ak jX):=by and_intros
abbrev ie:K1:=top 136
theorem zw:FnScope ["word"] ["word"] (ak ie):=by and_intros
abbrev jY:K1:=top 137
theorem zy:FnScope ["sort","word"] ["sort","word"] (ak jY):=by and_intros
abbrev jZ:K1:=top 138
theorem zA:FnScope ["words"] ["words"] (ak jZ):=by and_intros
abbrev ig:K1:=top 139
theorem mo:FnScope ["row","words","name"] ["row"] (ak ig):=by and_intros
abbrev j0:K1:=top 140
theorem rm:FnScope ["k","polynomial","degree"] ["k"] (ak j0):=by and_intros
abbrev j4:K1:=top 141
theorem rn:FnScope ["d","k","found","number","written"] ["d","k"] (ak j4):=by and_intros
abbrev ii:K1:=top 142
theorem zC:FnScope ["d","drawing"] ["d","drawing"] (ak ii):=by and_intros
abbrev j5:K1:=top 143
theorem zD:FnScope ["name","d","k"] ["name","d","k"] (ak j5):=by and_intros
abbrev j6:K1:=top 144
theorem zE:FnScope ["name","things"] ["name","things"] (ak j6):=by and_intros
abbrev j7:K1:=top 147
theorem zF:FnScope ["_law_script","_law_k"] ["_law_script","_law_k"] (ak j7):=by and_intros
abbrev j8:K1:=top 148
theorem gu:FnScope ["_law_cell","_law_x","_law_found","_law_k"] ["_law_cell"] (ak j8):=by and_intros
abbrev j':K1:=top 149
theorem rp:FnScope ["_law_rest","_law_m","_law_digit_here"] ["_law_rest","_law_m"] (ak j'):=by and_intros
abbrev ka:K1:=top 150
theorem zG:FnScope ["_law_rest","_law_some"] ["_law_rest","_law_some"] (ak ka):=by and_intros
abbrev eR:K1:=top 151
theorem zH:FnScope ["_law_rest"] ["_law_rest"] (ak eR):=by and_intros
abbrev eS:K1:=top 152
theorem zI:FnScope ["_law_rest"] ["_law_rest"] (ak eS):=by and_intros
abbrev dG:K1:=top 153
theorem rq:FnScope ["_law_rest","_law_way"] ["_law_rest"] (ak dG):=by and_intros
abbrev bM:K1:=top 154
theorem eU:FnScope ["_law_rest","_law_way","_law_some","_law_good","_law_bad_here"] ["_law_rest"] (ak bM):=by and_intros
abbrev cy:K1:=top 155
theorem mq:FnScope ["_law_rest","_law_way","_law_d"] ["_law_rest"] (ak cy):=by and_intros
abbrev eV:K1:=top 156
theorem rA:FnScope ["_law_rest","_law_rows"] ["_law_rest"] (ak eV):=by and_intros
abbrev dH:K1:=top 157
theorem zJ:FnScope ["_law_rest"] ["_law_rest"] (ak dH):=by and_intros
abbrev kc:K1:=top 158
theorem fL:FnScope ["_law_e","_law_kinds_here"] ["_law_e"] (ak kc):=by and_intros
abbrev kf:K1:=top 159
theorem rB:FnScope ["_law_desk","_law_row","_law_kind","_law_e"] ["_law_desk","_law_row","_law_kind"] (ak kf):=by and_intros
abbrev kg:K1:=top 160
theorem rC:FnScope ["_law_rest","_law_way"] ["_law_rest"] (ak kg):=by and_intros
abbrev kh:K1:=top 161
theorem fM:FnScope ["_law_script","_law_desk","_law_many","_law_k","_law_row","_law_kind"] ["_law_script"] (ak kh):=by and_intros
abbrev ki:K1:=oU (top 145) 0
theorem zK:FnScope ["self"] ["self"] (ak ki):=by and_intros
abbrev kj:K1:=oU (top 145) 1
theorem mr:FnScope ["self","row","asked","answer"] ["self","row"] (ak kj):=by and_intros
set_option genInjectivity false
set_option genSizeOfSpec false
set_option genSizeOf false
structure Fm(K:W.Frag)(n q:Str)(st:K1)(ps:KW Str)(f:KP)(d:KR):Prop where
 F:Fun K n q st f d
 B:cL K d ps []
structure Fg(K:W.Frag)(mg:Str->K0 KN)(n q:Str)(st:K1)(ps:KW Str)(f:KP)(d:KR):Prop where
 F:Fun K q q st f d
 B:cL K d ps []
 m:mg n=some (.ref f)
abbrev Fb(K:PySem.W.Frag)(mg:Str->K0 KN)(n:Str)(st:K1)(ps:KW Str)(f:KP)(d:KR)(q:Str:=n):Prop:=Fg K mg n q st ps f d
structure Fns(K:W.Frag)(mg:Str->K0 KN)(w:KS) where
 f0:Addr
 d0:FuncData
 f1:Addr
 d1:FuncData
 f2:Addr
 d2:FuncData
 f3:Addr
 d3:FuncData
 f4:Addr
 d4:FuncData
 f5:Addr
 d5:FuncData
 f6:Addr
 d6:FuncData
 f7:Addr
 d7:FuncData
 f8:Addr
 d8:FuncData
 f9:Addr
 d9:FuncData
 f10:Addr
 d10:FuncData
 f11:Addr
 d11:FuncData
 f12:Addr
 d12:FuncData
 f13:Addr
 d13:FuncData
 f14:Addr
 d14:FuncData
 f15:Addr
 d15:FuncData
 f16:Addr
 d16:FuncData
 f17:Addr
 d17:FuncData
 f18:Addr
 d18:FuncData
 f19:Addr
 d19:FuncData
 f20:Addr
 d20:FuncData
 f21:Addr
 d21:FuncData
 f22:Addr
 d22:FuncData
 f23:Addr
 d23:FuncData
 f24:Addr
 d24:FuncData
 f25:Addr
 d25:FuncData
 f26:Addr
 d26:FuncData
 f27:Addr
 d27:FuncData
 f28:Addr
 d28:FuncData
 f29:Addr
 d29:FuncData
 f30:Addr
 d30:FuncData
 f31:Addr
 d31:FuncData
 f32:Addr
 d32:FuncData
 f33:Addr
 d33:FuncData
 f34:Addr
 d34:FuncData
 f35:Addr
 d35:FuncData
 f36:Addr
 d36:FuncData
 f37:Addr
 d37:FuncData
 f38:Addr
 d38:FuncData
 f39:Addr
 d39:FuncData
 f40:Addr
 d40:FuncData
 f41:Addr
 d41:FuncData
 f42:Addr
 d42:FuncData
 f43:Addr
 d43:FuncData
 f44:Addr
 d44:FuncData
 f45:Addr
 d45:FuncData
 f46:Addr
 d46:FuncData
 f47:Addr
 d47:FuncData
 f48:Addr
 d48:FuncData
 f49:Addr
 d49:FuncData
 f50:Addr
 d50:FuncData
 f51:Addr
 d51:FuncData
 f52:Addr
 d52:FuncData
 f53:Addr
 d53:FuncData
 f54:Addr
 d54:FuncData
 f55:Addr
 d55:FuncData
 f56:Addr
 d56:FuncData
 f57:Addr
 d57:FuncData
 f58:Addr
 d58:FuncData
 f59:Addr
 d59:FuncData
 f60:Addr
 d60:FuncData
 f61:Addr
 d61:FuncData
 f62:Addr
 d62:FuncData
 f63:Addr
 d63:FuncData
 f64:Addr
 d64:FuncData
 f65:Addr
 d65:FuncData
 f66:Addr
 d66:FuncData
 X0:Fb K mg "is_whole" jn ["thing"] f0 d0
 X1:Fb K mg "need_between" jo ["thing","least","greatest"] f1 d1
 X2:Fb K mg "need_narrow" jp ["d","k"] f2 d2
 X3:Fb K mg "need_wide" jq ["d","k"] f3 d3
 X4:Fb K mg "need_degree" jr ["d"] f4 d4
 X5:Fb K mg "with_more" jt ["numbers","place","more"] f5 d5
 X6:Fb K mg "ends_at" ju ["d","drawing"] f6 d6
 X7:Fb K mg "sound" jv ["d","drawing"] f7 d7
 X8:Fb K mg "lost" jw ["lift"] f8 d8
 X9:Fb K mg "lifts_from" jx ["d","floor","weight","spare"] f9 d9
 X10:Fb K mg "leaving" jz ["lifts","weight","spare"] f10 d10
 X11:Fb K mg "with_floor" gm ["d","floor","drawing","spare"] f11 d11
 X12:Fb K mg "drawings" hJ ["d","k"] f12 d12
 X13:Fb K mg "worth_floors" jA ["drawing"] f13 d13 "worth"
 X14:Fb K mg "choose" jC ["number","chosen"] f14 d14
 X15:Fb K mg "need_sound" jD ["d","drawing"] f15 d15
 X16:Fb K mg "end_marks" jE ["d","drawing"] f16 d16
 X17:Fb K mg "put_between" jG ["numbers","first","last","alike"] f17 d17
 X18:Fb K mg "how_many_orders" jH ["d","marks"] f18 d18
 X19:Fb K mg "how_many" jI ["d","drawing"] f19 d19
 X20:Fb K mg "count_by_floors" hU ["d","k"] f20 d20
 X21:Fb K mg "whole_by_floors" jJ ["d","k"] f21 d21
 X22:Fb K mg "polynomial_of" jK ["k"] f22 d22
 X23:Fb K mg "is_row" jL ["thing"] f23 d23
 X24:Fb K mg "row_weight" ia ["row"] f24 d24
 X25:Fb K mg "need_rows" jM ["d","held","free"] f25 d25
 X26:Fb K mg "counted_ends" mj ["asked","known"] f26 d26 "counted"
 X27:Fb K mg "asked_of" jN ["d","k","held","free"] f27 d27
 X28:Fb K mg "by_ends" jO ["d","k","held","free"] f28 d28
 X29:Fb K mg "count_by_ways" jP ["d","k"] f29 d29
 X30:Fb K mg "shade_by_floors" jQ ["d","k"] f30 d30
 X31:Fb K mg "split_in_two" jR ["d","lesser"] f31 d31
 X32:Fb K mg "without_holes" jS ["d"] f32 d32
 X33:Fb K mg "show_lift" jT ["lift"] f33 d33
 X34:Fb K mg "show_poly" mm ["one"] f34 d34
 X35:Fb K mg "show_shade" mn ["one"] f35 d35
 X36:Fb K mg "read_from_nought" ib ["word","most"] f36 d36
 X37:Fb K mg "read_whole" jV ["word","most"] f37 d37
 X38:Fb K mg "read_lift" jW ["word"] f38 d38
 X39:Fb K mg "read_drawing" ic ["text"] f39 d39
 X40:Fb K mg "read_number" jX ["word"] f40 d40
 X41:Fb K mg "read_ends" ie ["word"] f41 d41
 X42:Fb K mg "read_thing" jY ["sort","word"] f42 d42
 X43:Fb K mg "read_markings" jZ ["words"] f43 d43
 X44:Fb K mg "read_row" ig ["row"] f44 d44
 X45:Fb K mg "polynomial_told" j0 ["k"] f45 d45
 X46:Fb K mg "drawings_told" j4 ["d","k"] f46 d46
 X47:Fb K mg "markings_told" ii ["d","drawing"] f47 d47
 X48:Fb K mg "told_of_pair" j5 ["name","d","k"] f48 d48
 X49:Fb K mg "told" j6 ["name","things"] f49 d49
 X50:Fb K mg "_law_cell_at" j7 ["_law_script","_law_k"] f50 d50
 X51:Fb K mg "_law_great" j8 ["_law_cell"] f51 d51
 X52:Fb K mg "_law_digit" j' ["_law_rest","_law_m"] f52 d52
 X53:Fb K mg "_law_pick" ka ["_law_rest","_law_some"] f53 d53
 X54:Fb K mg "_law_no_number" eR ["_law_rest"] f54 d54
 X55:Fb K mg "_law_two" eS ["_law_rest"] f55 d55
 X56:Fb K mg "_law_beyond" dG ["_law_rest"] f56 d56
 X57:Fb K mg "_law_no_form" bM ["_law_rest"] f57 d57
 X58:Fb K mg "_law_bad_bound" cy ["_law_rest"] f58 d58
 X59:Fb K mg "_law_bad_ends" eV ["_law_rest"] f59 d59
 X60:Fb K mg "_law_bad_drawing" dH ["_law_rest"] f60 d60
 X61:Fb K mg "_law_kinds" kc ["_law_e"] f61 d61
 X62:Fb K mg "_law_refuses" kf ["_law_desk","_law_row","_law_kind"] f62 d62
 X63:Fb K mg "_law_bad" kg ["_law_rest"] f63 d63
 X64:Fb K mg "law" kh ["_law_script"] f64 d64
 X65:Fm K "__init__" "Desk.__init__" ki ["self"] f65 d65
 X66:Fm K "say" "Desk.say" kj ["self","row"] f66 d66
 n_isinstance:mg "isinstance"=none
 n_int:mg "int"=none
 n_bool:mg "bool"=none
 n_min:mg "min"=none
 n_range:mg "range"=none
 n_enumerate:mg "enumerate"=none
 n_sum:mg "sum"=none
 n_sorted:mg "sorted"=none
 n_tuple:mg "tuple"=none
 n_set:mg "set"=none
 n_list:mg "list"=none
 n_all:mg "all"=none
 n_len:mg "len"=none
 n_zip:mg "zip"=none
 n_any:mg "any"=none
 n_str:mg "str"=none
 n_ValueError:mg "ValueError"=none
 n_max:mg "max"=none
 k_LEFT:Tok
 m_LEFT:mg "LEFT"=some (.int (1) k_LEFT)
 k_RIGHT:Tok
 m_RIGHT:mg "RIGHT"=some (.int (-1) k_RIGHT)
 k_FIGURES_AT_MOST:Tok
 m_FIGURES_AT_MOST:mg "FIGURES_AT_MOST"=some (.int (3) k_FIGURES_AT_MOST)
 k_FIGURES:Tok
 m_FIGURES:mg "FIGURES"=some (.str (Str.ofString "0123456789") k_FIGURES)
 a_NARROW:Addr
 m_NARROW:mg "NARROW"=some (.ref a_NARROW)
 D_NARROW:eN K a_NARROW [(1,6),(2,6),(3,6),(4,2)]=true
 a_WIDE:Addr
 m_WIDE:mg "WIDE"=some (.ref a_WIDE)
 D_WIDE:eN K a_WIDE [(1,6),(2,6),(3,6),(4,6),(5,3)]=true
 a_FORMS:Addr
 m_FORMS:mg "FORMS"=some (.ref a_FORMS)
 D_FORMS:DtS K w a_FORMS [(Str.ofString "count",Str.ofString "dk"),(Str.ofString "whole",Str.ofString "dk"),(Str.ofString "free",Str.ofString "d"),(Str.ofString "ways",Str.ofString "dk"),(Str.ofString "ends",Str.ofString "dkee"),(Str.ofString "shade",Str.ofString "dk"),(Str.ofString "polynomial",Str.ofString "k"),(Str.ofString "drawings",Str.ofString "dk"),(Str.ofString "rows",Str.ofString "")]
 c_NoBound:Addr
 m_NoBound:mg "NoBound"=some (.ref c_NoBound)
 c_NoDrawing:Addr
 m_NoDrawing:mg "NoDrawing"=some (.ref c_NoDrawing)
 c_NoEnds:Addr
 m_NoEnds:mg "NoEnds"=some (.ref c_NoEnds)
 c_NoText:Addr
 m_NoText:mg "NoText"=some (.ref c_NoText)
 c_NoNumber:Addr
 m_NoNumber:mg "NoNumber"=some (.ref c_NoNumber)
 c_CurveError:Addr
 m_CurveError:mg "CurveError"=some (.ref c_CurveError)
 c_Desk:Addr
 m_Desk:mg "Desk"=some (.ref c_Desk)
 cl_Desk:Cls K c_Desk
 mk_Desk:Mk K c_Desk f65
 na_Desk_answered:dA K c_Desk "answered"
 me_Desk_say:Meth K c_Desk "say" f66
 x_NoBound:W.excIn K c_NoBound bmV "ValueError.__new__"=true
 X_NoBound:XC K c_NoBound
 x_NoDrawing:W.excIn K c_NoDrawing bmV "ValueError.__new__"=true
 X_NoDrawing:XC K c_NoDrawing
 x_NoEnds:W.excIn K c_NoEnds bmV "ValueError.__new__"=true
 X_NoEnds:XC K c_NoEnds
 x_NoText:W.excIn K c_NoText bmV "ValueError.__new__"=true
 X_NoText:XC K c_NoText
 e_NoBound_CurveError:W.exmOne K (.ref c_NoBound) (.ref c_CurveError)=some true
 e_NoDrawing_CurveError:W.exmOne K (.ref c_NoDrawing) (.ref c_CurveError)=some true
 e_NoEnds_CurveError:W.exmOne K (.ref c_NoEnds) (.ref c_CurveError)=some true
 e_NoText_CurveError:W.exmOne K (.ref c_NoText) (.ref c_CurveError)=some true
 k_NoBound_NoText:W.kitOne K (.ref c_NoBound) (.ref c_NoText)=some false
 k_NoBound_NoBound:W.kitOne K (.ref c_NoBound) (.ref c_NoBound)=some true
 k_NoBound_NoEnds:W.kitOne K (.ref c_NoBound) (.ref c_NoEnds)=some false
 k_NoBound_NoDrawing:W.kitOne K (.ref c_NoBound) (.ref c_NoDrawing)=some false
 k_NoBound_NoNumber:W.kitOne K (.ref c_NoBound) (.ref c_NoNumber)=some false
 k_NoBound_ValueError:W.kitOne K (.ref c_NoBound) (.type "ValueError")=some true
 k_NoDrawing_NoText:W.kitOne K (.ref c_NoDrawing) (.ref c_NoText)=some false
 k_NoDrawing_NoBound:W.kitOne K (.ref c_NoDrawing) (.ref c_NoBound)=some false
 k_NoDrawing_NoEnds:W.kitOne K (.ref c_NoDrawing) (.ref c_NoEnds)=some false
 k_NoDrawing_NoDrawing:W.kitOne K (.ref c_NoDrawing) (.ref c_NoDrawing)=some true
 k_NoDrawing_NoNumber:W.kitOne K (.ref c_NoDrawing) (.ref c_NoNumber)=some false
 k_NoDrawing_ValueError:W.kitOne K (.ref c_NoDrawing) (.type "ValueError")=some true
 k_NoEnds_NoText:W.kitOne K (.ref c_NoEnds) (.ref c_NoText)=some false
 k_NoEnds_NoBound:W.kitOne K (.ref c_NoEnds) (.ref c_NoBound)=some false
 k_NoEnds_NoEnds:W.kitOne K (.ref c_NoEnds) (.ref c_NoEnds)=some true
 k_NoEnds_NoDrawing:W.kitOne K (.ref c_NoEnds) (.ref c_NoDrawing)=some false
 k_NoEnds_NoNumber:W.kitOne K (.ref c_NoEnds) (.ref c_NoNumber)=some false
 k_NoEnds_ValueError:W.kitOne K (.ref c_NoEnds) (.type "ValueError")=some true
 k_NoText_NoText:W.kitOne K (.ref c_NoText) (.ref c_NoText)=some true
 k_NoText_NoBound:W.kitOne K (.ref c_NoText) (.ref c_NoBound)=some false
 k_NoText_NoEnds:W.kitOne K (.ref c_NoText) (.ref c_NoEnds)=some false
 k_NoText_NoDrawing:W.kitOne K (.ref c_NoText) (.ref c_NoDrawing)=some false
 k_NoText_NoNumber:W.kitOne K (.ref c_NoText) (.ref c_NoNumber)=some false
 k_NoText_ValueError:W.kitOne K (.ref c_NoText) (.type "ValueError")=some true
theorem pcq{n:Nat}{es:KW KY}{t:TA}{p pos:Pos}(F:FnOk X.prog X.w X.K X.mg X.base CX0 k f fd ps sp)(hr:Room n X.A)(B:Fg X.K X.mg x q st ps f fd)(ha:PA X (e::es) t)(hk:k<=n:=by decide)(hg:Gl X x:=by rfl)(Ie:(x==("__debug__":Str))=false:=by decide)(he:starEach (e::es) X.env=(false,eval e X.env)::starEach es X.env:=by rfl)(G5:(backTo pos (starEach es X.env)).any (·.1)=false:=by rfl):PE X (.Call (.Name x p) (e::es) [] pos) (ll sp [] E0 t):=aA F (hr.mono hk) hg B.m B.F.kp B.B .nil iL ha Ie he G5
theorem pSA{te:TE}{pos GJ:Pos}(hN:X.N.Nodup)(he:PE X e te)(hi:X.N[i]? =some x:=by rfl)(hx:Loc X.env.scope x:=by trivial)(hs:swapsWith e (some (.Name x GJ)) pos.line X.env=pure false:=by rfl)(hf:X.fn x=true\/X.env.scope.names.lookup x=some .local:=by trivial):PS X (.Assign [.Name x GJ] e pos) (gO te (cn i)):=uR hN hi hx he hs hf
theorem pGA{pos:Pos}(hN:X.N.Nodup)(hi:X.N[i]? =some x:=by rfl)(hx:Loc X.env.scope x:=by trivial)(hf:X.fn x=true\/X.env.scope.names.lookup x=some .local:=by trivial):PG X (.Name x pos) (cn i):=cK hN hi hx hf
def zB{n:Nat}(h:Nat.ble n sizeLine=true):n<=sizeLine:=Nat.le_of_ble_eq_true h
theorem FbO{P:KQ}{w:KS}{mg:Str->K0 KN}{base:KZ}{N:KW Str}(B:Fg K mg x q st ps f fd)(S:FnScope N ps (ak st))(GI:∀(Gu:KN) (A:KU) (outer:KW Env) (s:KO) (H:Hp) (vs:KW V) (Q:VK) (E:XK),Room k (A.deeper (envOfC q (ak st) s.heap.objs.size f Gu))->sp vs H Q E->∃t,PSs (bC CX0 P w K mg base N q (ak st) f Gu A outer s H E).nox (av st) t/\t {nx:=λ_ H'=>Q .non H',rt:=Q} (start N vs) H)(len:∀vs H Q E,sp vs H Q E->vs.length=ps.length:=by ac_rfl):FnOk P w K mg base CX0 (k+1) f fd ps sp:=B.F.ok S len GI
abbrev OKQ{K:PySem.W.Frag}{mg:Str->K0 KN}{n q:Str}{st:K1}{ps:KW Str}{f:KP}{d:KR}(_:Fg K mg n q st ps f d)(P:KQ)(w:KS)(base:KZ)(k:Nat)(sp:Sp):Prop:=FnOk P w K mg base CX0 k f d ps sp
theorem cj{H:Hp}{α:Type}{f:α->D}{L:KW α}{vs:KW V}{v:V}(h:Iss H (L.map f) vs)(hi:vs[i]? =some v):∃x,L[i]? =some x/\Is H (f x) v:=by
 have⟨d,hd,h⟩:=h.of_get hi;rw[AF] at hd;obtain⟨x,hx,rfl⟩:=AY.mp hd;exact⟨x,hx,h⟩
inductive sp_law(K:W.Frag)(vs:List V)(H:Hp)(Q:VK)(E':XK):Prop
 |mk (a:Addr) (ns:List Int):vs=[.ref a]->SqL K H a (ns.map V.int)->ns.length<=63->(∀H',Q (.bl true) H')->sp_law K vs H Q E'
def Hf(K:W.Frag)(n:Str)(st:K1)(f:KP)(q:Str:=n):Prop:=W.nsIn K mainGlobals n=some (some (.ref f))/\∃d,Fun K q q st f d
def zL{kV:KN}(a:W.nsIn K mainGlobals n=some (some (.ref f)))(l:K.lookup f=some ⟨oc,od,.func (W.fnOf q q (c7 st) (av st) (ak st) .none kV dc pm an cd ct),sl⟩)(c:W.codeIn K cd q=true)(k:W.keepIn K (.ref f)=true):Hf K n st f q:=⟨a,_,oV l c k⟩
theorem fm1(F:Fun K n q st f d)(hp:ps.length=1)(h:∀(kV dc pm:KN) (an:K0 KP) (cd ct x0:KN),bindArgs (W.fnOf n q (c7 st) (av st) (ak st) .none kV dc pm an cd ct) ⟨[x0],[]⟩=pure (ps.zip [x0])):cL K d ps []:=by
 refine F.binds λkV dc pm an cd ct us hl=>?_;rw[hp] at hl;rcases us with _|⟨x0,us⟩
 .simp at hl
 rcases us with _|⟨y,us⟩
 .exact h kV dc pm an cd ct x0
 .simp at hl
theorem fm2(F:Fun K n q st f d)(hp:ps.length=2)(h:∀(kV dc pm:KN) (an:K0 KP) (cd ct x0 x1:KN),bindArgs (W.fnOf n q (c7 st) (av st) (ak st) .none kV dc pm an cd ct) ⟨[x0,x1],[]⟩=pure (ps.zip [x0,x1])):cL K d ps []:=by
 refine F.binds λkV dc pm an cd ct us hl=>?_;rw[hp] at hl;rcases us with _|⟨x0,us⟩
 .simp at hl
 rcases us with _|⟨x1,us⟩
 .simp at hl
 rcases us with _|⟨y,us⟩
 .exact h kV dc pm an cd ct x0 x1
 .simp at hl
def Hm(K:W.Frag)(n q:Str)(st:K1)(f:KP):Prop:=∃d,Fun K n q st f d
def zM{kV:KN}(l:K.lookup f=some ⟨oc,od,.func (W.fnOf n q (c7 st) (av st) (ak st) .none kV dc pm an cd ct),sl⟩)(c:W.codeIn K cd q=true)(k:W.keepIn K (.ref f)=true):Hm K n q st f:=⟨_,oV l c k⟩
abbrev zN:Prop:=∀{l:PySem.W.OpenLaw}{w:KS}{K:PySem.W.Frag}{h:KZ}{mg:Str->K0 KN}{fa:KP} (X:K.In h) (G:h.Ns mainGlobals mg) (hfa:mg "law"=some (.ref fa))
  {f0 f1 f2 f3 f4 f5 f6 f7 f8 f9 f10 f11 f12 f13 f14 f15 f16 f17 f18 f19 f20 f21 f22 f23 f24 f25 f26 f27 f28 f29 f30 f31 f32 f33 f34 f35 f36 f37 f38 f39 f40 f41 f42 f43 f44 f45 f46 f47 f48 f49 f50 f51 f52 f53 f54 f55 f56 f57 f58 f59 f60 f61 f62 f63 f64:KP}
  (h0:Hf K "is_whole" jn f0)
  (h1:Hf K "need_between" jo f1)
  (h2:Hf K "need_narrow" jp f2)
  (h3:Hf K "need_wide" jq f3)
  (h4:Hf K "need_degree" jr f4)
  (h5:Hf K "with_more" jt f5)
  (h6:Hf K "ends_at" ju f6)
  (h7:Hf K "sound" jv f7)
  (h8:Hf K "lost" jw f8)
  (h9:Hf K "lifts_from" jx f9)
  (h10:Hf K "leaving" jz f10)
  (h11:Hf K "with_floor" gm f11)
  (h12:Hf K "drawings" hJ f12)
  (h13:Hf K "worth_floors" jA f13 "worth")
  (h14:Hf K "choose" jC f14)
  (h15:Hf K "need_sound" jD f15)
  (h16:Hf K "end_marks" jE f16)
  (h17:Hf K "put_between" jG f17)
  (h18:Hf K "how_many_orders" jH f18)
  (h19:Hf K "how_many" jI f19)
  (h20:Hf K "count_by_floors" hU f20)
  (h21:Hf K "whole_by_floors" jJ f21)
  (h22:Hf K "polynomial_of" jK f22)
  (h23:Hf K "is_row" jL f23)
  (h24:Hf K "row_weight" ia f24)
  (h25:Hf K "need_rows" jM f25)
  (h26:Hf K "counted_ends" mj f26 "counted")
  (h27:Hf K "asked_of" jN f27)
  (h28:Hf K "by_ends" jO f28)
  (h29:Hf K "count_by_ways" jP f29)
  (h30:Hf K "shade_by_floors" jQ f30)
  (h31:Hf K "split_in_two" jR f31)
  (h32:Hf K "without_holes" jS f32)
  (h33:Hf K "show_lift" jT f33)
  (h34:Hf K "show_poly" mm f34)
  (h35:Hf K "show_shade" mn f35)
  (h36:Hf K "read_from_nought" ib f36)
  (h37:Hf K "read_whole" jV f37)
  (h38:Hf K "read_lift" jW f38)
  (h39:Hf K "read_drawing" ic f39)
  (h40:Hf K "read_number" jX f40)
  (h41:Hf K "read_ends" ie f41)
  (h42:Hf K "read_thing" jY f42)
  (h43:Hf K "read_markings" jZ f43)
  (h44:Hf K "read_row" ig f44)
  (h45:Hf K "polynomial_told" j0 f45)
  (h46:Hf K "drawings_told" j4 f46)
  (h47:Hf K "markings_told" ii f47)
  (h48:Hf K "told_of_pair" j5 f48)
  (h49:Hf K "told" j6 f49)
  (h50:Hf K "_law_cell_at" j7 f50)
  (h51:Hf K "_law_great" j8 f51)
  (h52:Hf K "_law_digit" j' f52)
  (h53:Hf K "_law_pick" ka f53)
  (h54:Hf K "_law_no_number" eR f54)
  (h55:Hf K "_law_two" eS f55)
  (h56:Hf K "_law_beyond" dG f56)
  (h57:Hf K "_law_no_form" bM f57)
  (h58:Hf K "_law_bad_bound" cy f58)
  (h59:Hf K "_law_bad_ends" eV f59)
  (h60:Hf K "_law_bad_drawing" dH f60)
  (h61:Hf K "_law_kinds" kc f61)
  (h62:Hf K "_law_refuses" kf f62)
  (h63:Hf K "_law_bad" kg f63)
  (h64:Hf K "law" kh f64)
  {g0 g1 C_Desk:KP}
  (hm0:Hm K "__init__" "Desk.__init__" ki g0)
  (hm1:Hm K "say" "Desk.say" kj g1)
  (zz:∀n∈["isinstance","int","bool","min","range","enumerate","sum","sorted","tuple","set","list","all","len","zip","any","str","ValueError","max"],W.nsIn K mainGlobals n=some none)
  {K_LEFT:Tok} (mi_LEFT:W.nsIn K mainGlobals "LEFT"=some (some (.int (1) K_LEFT)))
  {K_RIGHT:Tok} (mi_RIGHT:W.nsIn K mainGlobals "RIGHT"=some (some (.int (-1) K_RIGHT)))
  {K_FIGURES_AT_MOST:Tok} (mi_FIGURES_AT_MOST:W.nsIn K mainGlobals "FIGURES_AT_MOST"=some (some (.int (3) K_FIGURES_AT_MOST)))
  {K_FIGURES:Tok} (ms_FIGURES:W.nsIn K mainGlobals "FIGURES"=some (some (.str (Str.ofString "0123456789") K_FIGURES)))
  {A_NARROW:KP} (da_NARROW:W.nsIn K mainGlobals "NARROW"=some (some (.ref A_NARROW))) (dt_NARROW:eN K A_NARROW [(1,6),(2,6),(3,6),(4,2)]=true)
  {A_WIDE:KP} (da_WIDE:W.nsIn K mainGlobals "WIDE"=some (some (.ref A_WIDE))) (dt_WIDE:eN K A_WIDE [(1,6),(2,6),(3,6),(4,6),(5,3)]=true)
  {A_FORMS:KP} (da_FORMS:W.nsIn K mainGlobals "FORMS"=some (some (.ref A_FORMS))) (dt_FORMS:DtS K w A_FORMS [(Str.ofString "count",Str.ofString "dk"),(Str.ofString "whole",Str.ofString "dk"),(Str.ofString "free",Str.ofString "d"),(Str.ofString "ways",Str.ofString "dk"),(Str.ofString "ends",Str.ofString "dkee"),(Str.ofString "shade",Str.ofString "dk"),(Str.ofString "polynomial",Str.ofString "k"),(Str.ofString "drawings",Str.ofString "dk"),(Str.ofString "rows",Str.ofString "")])
  {C_NoBound:KP} (ca_NoBound:W.nsIn K mainGlobals "NoBound"=some (some (.ref C_NoBound)))
  {C_NoDrawing:KP} (ca_NoDrawing:W.nsIn K mainGlobals "NoDrawing"=some (some (.ref C_NoDrawing)))
  {C_NoEnds:KP} (ca_NoEnds:W.nsIn K mainGlobals "NoEnds"=some (some (.ref C_NoEnds)))
  {C_NoText:KP} (ca_NoText:W.nsIn K mainGlobals "NoText"=some (some (.ref C_NoText)))
  {C_NoNumber:KP} (ca_NoNumber:W.nsIn K mainGlobals "NoNumber"=some (some (.ref C_NoNumber)))
  {C_CurveError:KP} (ca_CurveError:W.nsIn K mainGlobals "CurveError"=some (some (.ref C_CurveError)))
  (ca_Desk:W.nsIn K mainGlobals "Desk"=some (some (.ref C_Desk)))
  (cl_Desk:Cls K C_Desk) (mk_Desk:Mk K C_Desk g0)
  (na_Desk_answered:dA K C_Desk "answered")
  (me_Desk_say:Meth K C_Desk "say" g1)
  (cx_NoBound:W.excIn K C_NoBound bmV "ValueError.__new__"=true) (xc_NoBound:XC K C_NoBound)
  (cx_NoDrawing:W.excIn K C_NoDrawing bmV "ValueError.__new__"=true) (xc_NoDrawing:XC K C_NoDrawing)
  (cx_NoEnds:W.excIn K C_NoEnds bmV "ValueError.__new__"=true) (xc_NoEnds:XC K C_NoEnds)
  (cx_NoText:W.excIn K C_NoText bmV "ValueError.__new__"=true) (xc_NoText:XC K C_NoText)
  (ce_NoBound_CurveError:W.exmOne K (.ref C_NoBound) (.ref C_CurveError)=some true)
  (ce_NoDrawing_CurveError:W.exmOne K (.ref C_NoDrawing) (.ref C_CurveError)=some true)
  (ce_NoEnds_CurveError:W.exmOne K (.ref C_NoEnds) (.ref C_CurveError)=some true)
  (ce_NoText_CurveError:W.exmOne K (.ref C_NoText) (.ref C_CurveError)=some true)
  (ck_NoBound_NoText:W.kitOne K (.ref C_NoBound) (.ref C_NoText)=some false)
  (ck_NoBound_NoBound:W.kitOne K (.ref C_NoBound) (.ref C_NoBound)=some true)
  (ck_NoBound_NoEnds:W.kitOne K (.ref C_NoBound) (.ref C_NoEnds)=some false)
  (ck_NoBound_NoDrawing:W.kitOne K (.ref C_NoBound) (.ref C_NoDrawing)=some false)
  (ck_NoBound_NoNumber:W.kitOne K (.ref C_NoBound) (.ref C_NoNumber)=some false)
  (ck_NoBound_ValueError:W.kitOne K (.ref C_NoBound) (.type "ValueError")=some true)
  (ck_NoDrawing_NoText:W.kitOne K (.ref C_NoDrawing) (.ref C_NoText)=some false)
  (ck_NoDrawing_NoBound:W.kitOne K (.ref C_NoDrawing) (.ref C_NoBound)=some false)
  (ck_NoDrawing_NoEnds:W.kitOne K (.ref C_NoDrawing) (.ref C_NoEnds)=some false)
  (ck_NoDrawing_NoDrawing:W.kitOne K (.ref C_NoDrawing) (.ref C_NoDrawing)=some true)
  (ck_NoDrawing_NoNumber:W.kitOne K (.ref C_NoDrawing) (.ref C_NoNumber)=some false)
  (ck_NoDrawing_ValueError:W.kitOne K (.ref C_NoDrawing) (.type "ValueError")=some true)
  (ck_NoEnds_NoText:W.kitOne K (.ref C_NoEnds) (.ref C_NoText)=some false)
  (ck_NoEnds_NoBound:W.kitOne K (.ref C_NoEnds) (.ref C_NoBound)=some false)
  (ck_NoEnds_NoEnds:W.kitOne K (.ref C_NoEnds) (.ref C_NoEnds)=some true)
  (ck_NoEnds_NoDrawing:W.kitOne K (.ref C_NoEnds) (.ref C_NoDrawing)=some false)
  (ck_NoEnds_NoNumber:W.kitOne K (.ref C_NoEnds) (.ref C_NoNumber)=some false)
  (ck_NoEnds_ValueError:W.kitOne K (.ref C_NoEnds) (.type "ValueError")=some true)
  (ck_NoText_NoText:W.kitOne K (.ref C_NoText) (.ref C_NoText)=some true)
  (ck_NoText_NoBound:W.kitOne K (.ref C_NoText) (.ref C_NoBound)=some false)
  (ck_NoText_NoEnds:W.kitOne K (.ref C_NoText) (.ref C_NoEnds)=some false)
  (ck_NoText_NoDrawing:W.kitOne K (.ref C_NoText) (.ref C_NoDrawing)=some false)
  (ck_NoText_NoNumber:W.kitOne K (.ref C_NoText) (.ref C_NoNumber)=some false)
  (ck_NoText_ValueError:W.kitOne K (.ref C_NoText) (.type "ValueError")=some true),∃fd:KR,(∀(s:KO) (v:KN),BindsTo s fd ⟨[v],[]⟩ [("_law_script",v)])/\∀base:KZ,K.In base->base.Ns mainGlobals mg->FnOk l.prog w K mg base CX0 18 fa fd ["_law_script"] (sp_law K)
theorem walk{l:W.OpenLaw}{q:KQ}{Ht:KW Str}{XP:(Str->K0 KN)->KZ->Prop}{YP:KS->KZ->Prop}{d:DefRec}{K:Params->W.Frag}(hn:l.most=some 63)(hdf:d.params.defaults=[])
  (hY:∀(w:KS) (h:KZ),YP w h->(K w.params).In h)
  (F:∀(w:KS) (mg:Str->K0 KN) (fa:KP) (h:KZ),(K w.params).In h->h.Ns mainGlobals mg->mg d.name=some (.ref fa)->
   ∃fd:KR,(∀(s:KO) (u:KN),BindsTo s fd ⟨[u],[]⟩ [("_law_script",u)])/\∀base:KZ,(K w.params).In base->base.Ns mainGlobals mg->FnOk l.prog w (K w.params) mg base CX0 18 fa fd ["_law_script"] (sp_law (K w.params))):
  W.WalkO q Ht XP YP l.row.toRowW d [] (λf vs=>PySem.call f vs):=
 L2.wc (n:=63) (k:=18) (x:="_law_script") (CX:=λ_=>CX0) (sp:=λw=>sp_law (K w.params)) hn (by decide) hdf ⟨rfl,by decide,by decide⟩ hY F (λ_ _ a ns hl _ hS=>⟨a,ns,rfl,hS,hl,λ_=>rfl⟩) λ_ _ _ _ _ z=>z
end Mine
namespace PySem.W.Fast
theorem tw3233220789115702968:0=0:=rfl
theorem tw9688313677032421985:0=0:=rfl
theorem tw10657758276461614317:0=0:=rfl
theorem tw16101299575711548161:0=0:=rfl
theorem tw6372243909643863234:0=0:=rfl
theorem tw2771729235405900060:0=0:=rfl
theorem tw7070132171644331865:0=0:=rfl
theorem tw15164409259813686008:0=0:=rfl
theorem tw9396819520883440909:0=0:=rfl
theorem tw11601579453488040868:0=0:=rfl
theorem tw12370622722684055144:0=0:=rfl
theorem tw14907984581589774887:0=0:=rfl
theorem tw17947442355695927224:0=0:=rfl
theorem tw12971137061892052205:0=0:=rfl
theorem tw9630534065772253424:0=0:=rfl
theorem tw5635544288740723135:0=0:=rfl
theorem tw5962190185948578183:0=0:=rfl
theorem tw6859559912879412378:0=0:=rfl
theorem tw5057171935779426390:0=0:=rfl
theorem tw12947741208488547038:0=0:=rfl
theorem tw192753478723387772:0=0:=rfl
theorem tw12021481109157907073:0=0:=rfl
theorem tw16858847900047832592:0=0:=rfl
theorem tw13756489953049345147:0=0:=rfl
theorem tw17659056566835797604:0=0:=rfl
theorem tw10841559489147537863:0=0:=rfl
theorem tw2842244109794860246:0=0:=rfl
theorem tw8839268953563251025:0=0:=rfl
theorem tw3830525827508235546:0=0:=rfl
theorem tw14335978830270726914:0=0:=rfl
theorem tw12688440015613024175:0=0:=rfl
theorem tw15645403836139396791:0=0:=rfl
theorem tw12802919142702478756:0=0:=rfl
theorem tw5687953315311738006:0=0:=rfl
theorem tw8395044062799988140:0=0:=rfl
theorem tw8555735412949658274:0=0:=rfl
theorem tw1063579646436744922:0=0:=rfl
theorem tw5550207284763351073:0=0:=rfl
theorem tw16077044384962003690:0=0:=rfl
theorem tw8585144948578722162:0=0:=rfl
theorem tw12445960712369426799:0=0:=rfl
theorem tw16058882645653493248:0=0:=rfl
theorem tw17157373282933271879:0=0:=rfl
theorem tw8578419291998746933:0=0:=rfl
theorem tw11988530292950653395:0=0:=rfl
theorem tw2294999127591082311:0=0:=rfl
theorem tw7747075985668478869:0=0:=rfl
theorem tw3418196461535381222:0=0:=rfl
theorem tw13017593951538487980:0=0:=rfl
theorem tw15703716222152249292:0=0:=rfl
theorem tw588549988141895657:0=0:=rfl
theorem tw13616319212897857407:0=0:=rfl
theorem tw14279996581679898316:0=0:=rfl
theorem tw13912477450054666051:0=0:=rfl
theorem tw11918261180082318176:0=0:=rfl
theorem tw842961409982954220:0=0:=rfl
theorem tw5494882168977608095:0=0:=rfl
theorem tw12154399997450318358:0=0:=rfl
theorem tw14382486879202257594:0=0:=rfl
theorem tw11783344972553986149:0=0:=rfl
theorem tw6359820058164880863:0=0:=rfl
theorem tw12667165443792810924:0=0:=rfl
theorem tw6506304647077255192:0=0:=rfl
theorem tw13210895035717604650:0=0:=rfl
theorem tw7619240443869211420:0=0:=rfl
theorem tw13535511837831476845:0=0:=rfl
theorem tw8455197180537160489:0=0:=rfl
theorem tw7578219027159604885:0=0:=rfl
theorem tw12915735831475695225:0=0:=rfl
theorem tw15018214553634448299:0=0:=rfl
theorem tw5130745382309401815:0=0:=rfl
theorem tw18403791263232431218:0=0:=rfl
theorem tw16632929919443718046:0=0:=rfl
theorem tw6889005057800542862:0=0:=rfl
theorem tw15543097640884681818:0=0:=rfl
theorem tw4866388969766599894:0=0:=rfl
theorem tw14467682192755020147:0=0:=rfl
theorem tw3449045189065325018:0=0:=rfl
theorem tw16668696980106892759:0=0:=rfl
theorem tw3459317368460975420:0=0:=rfl
theorem tw10246701500919127262:0=0:=rfl
theorem tw138282503452119351:0=0:=rfl
theorem tw3237470529186781821:0=0:=rfl
theorem tw6507202272532232179:0=0:=rfl
theorem tw18301694457437482081:0=0:=rfl
theorem tw7709995271335406114:0=0:=rfl
theorem tw10526747058404432899:0=0:=rfl
theorem tw17870910549896838595:0=0:=rfl
theorem tw17082882066707425394:0=0:=rfl
theorem tw1119603337870783926:0=0:=rfl
theorem tw13400014931246408045:0=0:=rfl
theorem tw3868925786530798057:0=0:=rfl
theorem tw12773698900222251242:0=0:=rfl
theorem tw1523203360351013566:0=0:=rfl
theorem tw6291213850657837291:0=0:=rfl
theorem tw10107043619721359259:0=0:=rfl
theorem tw17404041793623836297:0=0:=rfl
theorem tw6154884459359876973:0=0:=rfl
theorem tw10621398792157004301:0=0:=rfl
theorem tw9039967005882987830:0=0:=rfl
theorem tw5666451624019542432:0=0:=rfl
theorem tw1782748422774650864:0=0:=rfl
theorem tw10816636028080037551:0=0:=rfl
theorem tw9279359824310780093:0=0:=rfl
theorem tw1612208559942019638:0=0:=rfl
theorem tw12339558741848235668:0=0:=rfl
theorem tw7282392292434401501:0=0:=rfl
theorem tw11117762739455625208:0=0:=rfl
theorem tw16839195297101936467:0=0:=rfl
theorem tw3982995705414280806:0=0:=rfl
theorem tw2279923743635977505:0=0:=rfl
theorem tw7302048640515389317:0=0:=rfl
theorem tw4420910376717763028:0=0:=rfl
theorem tw17716246340721164653:0=0:=rfl
theorem tw3648823716467937797:0=0:=rfl
theorem tw6467727416064141461:0=0:=rfl
theorem tw6651168707413829810:0=0:=rfl
theorem tw18107286359492380318:0=0:=rfl
theorem tw10942967227386832433:0=0:=rfl
theorem tw13546916445208515315:0=0:=rfl
theorem tw6778492308343326515:0=0:=rfl
theorem tw10838514248087730406:0=0:=rfl
theorem tw14277090303490393629:0=0:=rfl
theorem tw17830270718879900815:0=0:=rfl
theorem tw5144996075531367447:0=0:=rfl
theorem tw4828829517211379502:0=0:=rfl
theorem tw3014107888687495262:0=0:=rfl
theorem tw3037353916509078744:0=0:=rfl
theorem tw2391356273601850878:0=0:=rfl
theorem tw5010823532900905044:0=0:=rfl
theorem tw9261475002661444162:0=0:=rfl
theorem tw8483575524374003409:0=0:=rfl
theorem tw29632229140267284:0=0:=rfl
theorem tw7092111191620330661:0=0:=rfl
theorem tw3317843946163012:0=0:=rfl
theorem tw8965661047685484835:0=0:=rfl
theorem tw6284585397655941708:0=0:=rfl
theorem tw1886011291034344337:0=0:=rfl
theorem tw5210182673776841292:0=0:=rfl
theorem tw1467424673752644815:0=0:=rfl
theorem tw9913909689689373770:0=0:=rfl
theorem tw1279870895607980090:0=0:=rfl
theorem tw8882486309901835432:0=0:=rfl
theorem tw12681231661968207067:0=0:=rfl
theorem tw2148107218867904571:0=0:=rfl
theorem tw15892487821885569207:0=0:=rfl
theorem tw7359608857572866764:0=0:=rfl
theorem tw18040595443972747997:0=0:=rfl
theorem tw7930217656345680128:0=0:=rfl
theorem tw7952499440625113895:0=0:=rfl
theorem tw3161972450577273986:0=0:=rfl
theorem tw5901376662886207411:0=0:=rfl
theorem tw7083944474798745006:0=0:=rfl
theorem tw8798342337142780044:0=0:=rfl
theorem tw1502558581580351762:0=0:=rfl
theorem tw8609009776883245994:0=0:=rfl
theorem tw9750616154231960822:0=0:=rfl
theorem tw13208592338060304208:0=0:=rfl
theorem tw14162747502373318007:0=0:=rfl
theorem tw11137958083064304959:0=0:=rfl
theorem tw11151080382604430495:0=0:=rfl
theorem tw7639097406062009598:0=0:=rfl
theorem tw14384088397933863803:0=0:=rfl
theorem tw821971685939365465:0=0:=rfl
theorem tw6775480494165508759:0=0:=rfl
theorem tw13207950081586664611:0=0:=rfl
theorem tw7005961524636905063:0=0:=rfl
theorem tw15921536614260056461:0=0:=rfl
theorem tw2243056086777408129:0=0:=rfl
theorem tw13640344354024137868:0=0:=rfl
theorem tw13652620326153215011:0=0:=rfl
theorem tw13650247352486672017:0=0:=rfl
theorem tw11415965886654451094:0=0:=rfl
theorem tw709098318752617361:0=0:=rfl
theorem tw5529261963527480043:0=0:=rfl
theorem tw12411280739884696512:0=0:=rfl
theorem tw3273823969695381972:0=0:=rfl
theorem tw3374165563822346680:0=0:=rfl
theorem tw18283655774571028834:0=0:=rfl
theorem tw13664079373909968442:0=0:=rfl
theorem tw15346135898770886013:0=0:=rfl
theorem tw9159020128260563628:0=0:=rfl
theorem tw2093163403998098466:0=0:=rfl
theorem tw13492260405886454436:0=0:=rfl
theorem tw15886692961644916950:0=0:=rfl
theorem tw2686461863113762310:0=0:=rfl
theorem tw10706806233158399548:0=0:=rfl
theorem tw5489131819334536843:0=0:=rfl
theorem tw18066951949168734625:0=0:=rfl
theorem tw13509631137933195309:0=0:=rfl
theorem tw14591126836831821269:0=0:=rfl
theorem tw9167243071935363391:0=0:=rfl
theorem tw9756072730983227891:0=0:=rfl
theorem tw10755679546296362356:0=0:=rfl
theorem tw1086246609614419800:0=0:=rfl
theorem tw5331804603931023075:0=0:=rfl
theorem tw1332592551934183314:0=0:=rfl
theorem tw3123402507205391566:0=0:=rfl
theorem tw2652109184169293455:0=0:=rfl
theorem tw17114651886727322459:0=0:=rfl
theorem tw15760191920569916519:0=0:=rfl
theorem tw14041478095832502006:0=0:=rfl
theorem tw2615673976962450997:0=0:=rfl
theorem tw9306001205548045946:0=0:=rfl
theorem tw2784059688957443104:0=0:=rfl
theorem tw8226918012598898305:0=0:=rfl
theorem tw7070237202830959958:0=0:=rfl
theorem tw2121088911683730232:0=0:=rfl
theorem tw12064345628622058572:0=0:=rfl
theorem tw4418121567549791294:0=0:=rfl
theorem tw14006723777106067052:0=0:=rfl
theorem tw2111873804037680146:0=0:=rfl
theorem tw15739451842910529112:0=0:=rfl
theorem tw1733882610693260967:0=0:=rfl
theorem tw3440239741924186774:0=0:=rfl
theorem tw3394307744730030418:0=0:=rfl
theorem tw13875710707178720268:0=0:=rfl
theorem tw2187689270935131835:0=0:=rfl
theorem tw11462102528518412334:0=0:=rfl
theorem tw17077461825401338892:0=0:=rfl
theorem tw3572167073377526776:0=0:=rfl
theorem tw11031496626009453269:0=0:=rfl
theorem tw11620660336655937858:0=0:=rfl
theorem tw5804510216236922407:0=0:=rfl
theorem tw10481306441702768460:0=0:=rfl
theorem tw707606259465856534:0=0:=rfl
theorem tw16265149527182557502:0=0:=rfl
theorem tw7351011229531457853:0=0:=rfl
theorem tw14419355216239814178:0=0:=rfl
theorem tw14279494100867028917:0=0:=rfl
theorem tw2998426978970858680:0=0:=rfl
theorem tw2074679025663913269:0=0:=rfl
theorem tw16990294826705701774:0=0:=rfl
theorem tw12846154206166987397:0=0:=rfl
theorem tw2535653987912806622:0=0:=rfl
theorem tw6864275160700901048:0=0:=rfl
theorem tw4430968805969571924:0=0:=rfl
theorem tw9730345824196444593:0=0:=rfl
theorem tw3740315260731033995:0=0:=rfl
theorem tw10245551449760250478:0=0:=rfl
theorem tw17787908623314062764:0=0:=rfl
theorem tw3039631945301943443:0=0:=rfl
theorem tw9834609890295050312:0=0:=rfl
theorem tw7700488509753881694:0=0:=rfl
theorem tw6307603407438261995:0=0:=rfl
theorem tw17989172091565280499:0=0:=rfl
theorem tw16533345792512084831:0=0:=rfl
theorem tw226133354610968220:0=0:=rfl
theorem tw11373950302425150240:0=0:=rfl
theorem tw1578180304622618179:0=0:=rfl
theorem tw11407326954440810586:0=0:=rfl
theorem tw6618373508722779223:0=0:=rfl
theorem tw10959671868308432800:0=0:=rfl
theorem tw16289238637993991499:0=0:=rfl
theorem tw15896610182125435029:0=0:=rfl
theorem tw7347025944275593435:0=0:=rfl
theorem tw10464970156008911171:0=0:=rfl
theorem tw17825995877382536455:0=0:=rfl
theorem tw16079283951825701775:0=0:=rfl
theorem tw6610349198007669706:0=0:=rfl
theorem tw8121035562122732169:0=0:=rfl
theorem tw9646966531759948071:0=0:=rfl
theorem tw8038640139912528434:0=0:=rfl
theorem tw14982742791074045293:0=0:=rfl
theorem tw13908304876056127360:0=0:=rfl
theorem tw8238402868191136763:0=0:=rfl
theorem tw8096297572741142101:0=0:=rfl
theorem tw8935383452003415629:0=0:=rfl
theorem tw16481588767093125490:0=0:=rfl
theorem tw5913372128542715645:0=0:=rfl
theorem tw16391844789543942993:0=0:=rfl
theorem tw7624057743421708703:0=0:=rfl
theorem tw4161929621065681948:0=0:=rfl
theorem tw9374530499845524984:0=0:=rfl
theorem tw807577006151234033:0=0:=rfl
theorem tw8675084743302022376:0=0:=rfl
theorem tw3605538651875103928:0=0:=rfl
theorem tw7822285772503895575:0=0:=rfl
theorem tw357088282527182722:0=0:=rfl
theorem tw4819212884036542533:0=0:=rfl
theorem tw3247916892999915489:0=0:=rfl
theorem tw2507240606703434663:0=0:=rfl
theorem tw5120889415968014006:0=0:=rfl
theorem tw17450573855713823795:0=0:=rfl
theorem tw10990890186034904605:0=0:=rfl
theorem tw16182954970116674396:0=0:=rfl
theorem tw17693132765603638577:0=0:=rfl
theorem tw1425634447547113298:0=0:=rfl
theorem tw967109317521529427:0=0:=rfl
theorem tw3232280669695062138:0=0:=rfl
theorem tw18273375320927042008:0=0:=rfl
theorem tw14799605061783881806:0=0:=rfl
theorem tw7305750843803367284:0=0:=rfl
theorem tw5269007526420233646:0=0:=rfl
theorem tw9464382271586597394:0=0:=rfl
theorem tw13149209362696301392:0=0:=rfl
theorem tw10356220027725331992:0=0:=rfl
theorem tw18080906246202849685:0=0:=rfl
theorem tw14662464733390222848:0=0:=rfl
theorem tw11713620258868946392:0=0:=rfl
theorem tw6722857197258860004:0=0:=rfl
theorem tw9841131983588660721:0=0:=rfl
theorem tw2624637180879503501:0=0:=rfl
theorem tw1279766868857216298:0=0:=rfl
theorem tw10317620903317705384:0=0:=rfl
theorem tw6802878172384551139:0=0:=rfl
theorem tw12921921303916009975:0=0:=rfl
theorem tw5078837120284681593:0=0:=rfl
theorem tw8435821372015337343:0=0:=rfl
theorem tw2595540100342525789:0=0:=rfl
theorem tw16838966870047409727:0=0:=rfl
theorem tw5839643871819542559:0=0:=rfl
theorem tw8417595706072006349:0=0:=rfl
theorem tw6965217802627531012:0=0:=rfl
theorem tw15933880384054398595:0=0:=rfl
theorem tw9948442241656094284:0=0:=rfl
theorem tw7067499782214584177:0=0:=rfl
theorem tw13316849747082093202:0=0:=rfl
theorem tw2799201208878411986:0=0:=rfl
theorem tw8019572308261730481:0=0:=rfl
theorem tw16494373995052306583:0=0:=rfl
theorem tw7156883480597923557:0=0:=rfl
theorem tw1066051185124283941:0=0:=rfl
theorem tw16959957196954363510:0=0:=rfl
theorem tw3846474928412152386:0=0:=rfl
theorem tw9654302070043033798:0=0:=rfl
theorem tw17242414623211091346:0=0:=rfl
theorem tw7666948953207659863:0=0:=rfl
theorem tw8741599749049178068:0=0:=rfl
theorem tw12778291844006162256:0=0:=rfl
theorem tw11059496956281560977:0=0:=rfl
theorem tw2326862831414875328:0=0:=rfl
theorem tw11475896419211421564:0=0:=rfl
theorem tw13039572493311008808:0=0:=rfl
theorem tw2264553589015060517:0=0:=rfl
theorem tw13347927325304775138:0=0:=rfl
theorem tw5142550948476425643:0=0:=rfl
theorem tw13704526915192903168:0=0:=rfl
theorem tw4011750209594710380:0=0:=rfl
theorem tw2994893714380286892:0=0:=rfl
theorem tw9177051920078454751:0=0:=rfl
theorem tw4632279033605829058:0=0:=rfl
theorem tw11697556749368706865:0=0:=rfl
theorem tw6605594641510618450:0=0:=rfl
theorem tw18405643176362771502:0=0:=rfl
theorem tw7879828588468893473:0=0:=rfl
theorem tw9734795146211895825:0=0:=rfl
theorem tw17423772544429076206:0=0:=rfl
theorem tw14920237550927712190:0=0:=rfl
theorem tw7166325659476114296:0=0:=rfl
theorem tw17817650888963260472:0=0:=rfl
theorem tw14437925808766002265:0=0:=rfl
theorem tw3386205903152887675:0=0:=rfl
theorem tw7419870711216898660:0=0:=rfl
theorem tw16325305983049743623:0=0:=rfl
theorem tw1616586031763790968:0=0:=rfl
theorem tw2045792995013087455:0=0:=rfl
theorem tw6058538125419986682:0=0:=rfl
theorem tw1924861049485169550:0=0:=rfl
theorem tw5883572708586127029:0=0:=rfl
theorem tw5801747251877476377:0=0:=rfl
theorem tw1523691592851233587:0=0:=rfl
theorem tw12069339496620126963:0=0:=rfl
theorem tw6048034570400551357:0=0:=rfl
theorem tw1515181802032679998:0=0:=rfl
theorem tw11939581143711988822:0=0:=rfl
theorem tw10961702580739326513:0=0:=rfl
theorem tw18238493097163492505:0=0:=rfl
theorem tw15387418916469509444:0=0:=rfl
theorem tw3235217467685733639:0=0:=rfl
theorem tw15754448520779516673:0=0:=rfl
theorem tw18151943534109885750:0=0:=rfl
theorem tw4453745301478846772:0=0:=rfl
theorem tw8545605591783066833:0=0:=rfl
theorem tw8767545390977830568:0=0:=rfl
theorem tw8737959610270066397:0=0:=rfl
theorem tw14799027698548378682:0=0:=rfl
theorem tw12041617114226852684:0=0:=rfl
theorem tw3357142336336593266:0=0:=rfl
theorem tw13222533128463968635:0=0:=rfl
theorem tw8555331647000308312:0=0:=rfl
theorem tw1094736088599935099:0=0:=rfl
theorem tw13716177739336958488:0=0:=rfl
theorem tw14027764876280287156:0=0:=rfl
theorem tw8201955816012788448:0=0:=rfl
theorem tw7142304780438999268:0=0:=rfl
theorem tw716943086741518668:0=0:=rfl
theorem tw13534172662450205651:0=0:=rfl
theorem tw6974459853503834768:0=0:=rfl
theorem tw17933266537948304074:0=0:=rfl
theorem tw6233216014784457277:0=0:=rfl
theorem tw16639499299423084032:0=0:=rfl
theorem tw13101097735139993148:0=0:=rfl
theorem tw9199047524835600101:0=0:=rfl
theorem tw1870213183592543256:0=0:=rfl
theorem tw2570540395189310216:0=0:=rfl
theorem tw10307649051151679456:0=0:=rfl
theorem tw8520419146462029592:0=0:=rfl
theorem tw17460958220023099850:0=0:=rfl
theorem tw7308826116157747133:0=0:=rfl
theorem tw1648994300227625812:0=0:=rfl
theorem tw12926642984610870695:0=0:=rfl
theorem tw14508243018227910183:0=0:=rfl
theorem tw16456293163370757104:0=0:=rfl
theorem tw15306018832662956511:0=0:=rfl
theorem tw6174439351307453564:0=0:=rfl
theorem tw1015829148122959269:0=0:=rfl
theorem tw2647017673949533443:0=0:=rfl
theorem tw1841453208113281006:0=0:=rfl
theorem tw16766438522662443565:0=0:=rfl
theorem tw4317480452383909607:0=0:=rfl
theorem tw2320920683744266342:0=0:=rfl
theorem tw5028446103719248887:0=0:=rfl
theorem tw5929188396401713390:0=0:=rfl
theorem tw7826727702074162265:0=0:=rfl
theorem tw10170006104469476555:0=0:=rfl
theorem tw1402528699993159339:0=0:=rfl
theorem tw5127474830899128798:0=0:=rfl
theorem tw12489747093261602979:0=0:=rfl
theorem tw7095584793421356383:0=0:=rfl
theorem tw18145805355439606429:0=0:=rfl
theorem tw5153619805722538213:0=0:=rfl
theorem tw6211039944057990946:0=0:=rfl
theorem tw7573928689550032792:0=0:=rfl
theorem tw17266449940946938832:0=0:=rfl
theorem tw10182340146432101072:0=0:=rfl
theorem tw8434085928434681915:0=0:=rfl
theorem tw10161951425037925876:0=0:=rfl
theorem tw18402256563121172900:0=0:=rfl
theorem tw12713533348607329859:0=0:=rfl
theorem tw2089621009703785551:0=0:=rfl
theorem tw5776042143193136716:0=0:=rfl
theorem tw17585461753115861101:0=0:=rfl
theorem tw16005706841707627490:0=0:=rfl
theorem tw12674035477187070934:0=0:=rfl
theorem tw3959177680144258668:0=0:=rfl
theorem tw11985272040844287605:0=0:=rfl
theorem tw15310061388783380161:0=0:=rfl
theorem tw7424888783596543323:0=0:=rfl
theorem tw13580872604774437394:0=0:=rfl
theorem tw5373107877777936155:0=0:=rfl
theorem tw5783407907883778764:0=0:=rfl
theorem tw2924394964706750625:0=0:=rfl
theorem tw15203188274066856347:0=0:=rfl
theorem tw11769223634444276712:0=0:=rfl
theorem tw8053373402813872738:0=0:=rfl
theorem tw13513988086107089978:0=0:=rfl
theorem tw17952391116778359723:0=0:=rfl
theorem tw11977495845453459862:0=0:=rfl
theorem tw3210954249639645969:0=0:=rfl
theorem tw14276586344106651289:0=0:=rfl
theorem tw14431272142204736801:0=0:=rfl
theorem tw8064303754733415137:0=0:=rfl
theorem tw5921501419081986493:0=0:=rfl
theorem tw9456571274355512787:0=0:=rfl
theorem tw12379837197847573166:0=0:=rfl
theorem tw4632549235124169670:0=0:=rfl
theorem tw15494167404710323617:0=0:=rfl
theorem tw8977502806447305606:0=0:=rfl
theorem tw7683454891990187618:0=0:=rfl
theorem tw14119719688798786495:0=0:=rfl
theorem tw9639465932998507574:0=0:=rfl
theorem tw15391110697071386877:0=0:=rfl
theorem tw3136522910454837895:0=0:=rfl
theorem tw3265502671191745959:0=0:=rfl
theorem tw4141669843140264937:0=0:=rfl
theorem tw11331831720454097595:0=0:=rfl
theorem tw3830077473662144739:0=0:=rfl
theorem tw1633509108849123507:0=0:=rfl
theorem tw15807776866491000801:0=0:=rfl
theorem tw1696003631302875218:0=0:=rfl
theorem tw3053485354290740215:0=0:=rfl
theorem tw15316814067371957130:0=0:=rfl
theorem tw15527235816773916101:0=0:=rfl
theorem tw9717505665463635660:0=0:=rfl
theorem tw8181596398446309244:0=0:=rfl
theorem tw17946650519231207553:0=0:=rfl
theorem tw12583875672789590848:0=0:=rfl
theorem tw10204497289339560584:0=0:=rfl
theorem tw14583785968299045258:0=0:=rfl
theorem tw5221805905458802565:0=0:=rfl
theorem tw5511571775483651614:0=0:=rfl
theorem tw17929930743207197058:0=0:=rfl
theorem tw10043505966893438252:0=0:=rfl
theorem tw7102669603066005767:0=0:=rfl
theorem tw8843730600908459885:0=0:=rfl
theorem tw9808459382165264274:0=0:=rfl
theorem tw6572914632587738745:0=0:=rfl
theorem tw17960118974379777710:0=0:=rfl
theorem tw8141693464612221379:0=0:=rfl
theorem tw17916211331552650479:0=0:=rfl
theorem tw1822856881222984222:0=0:=rfl
theorem tw15289074182769804788:0=0:=rfl
theorem tw3641778760425579537:0=0:=rfl
theorem tw7669341875619815596:0=0:=rfl
theorem tw7342292368719455037:0=0:=rfl
theorem tw9817969796453441570:0=0:=rfl
theorem tw17171888128648943820:0=0:=rfl
theorem tw15575823287638872314:0=0:=rfl
theorem tw16510304527063434019:0=0:=rfl
theorem tw12152314128428166160:0=0:=rfl
theorem tw1955027414147644556:0=0:=rfl
theorem tw11540695590542134790:0=0:=rfl
theorem tw10504084846966679965:0=0:=rfl
theorem tw14040678865930393415:0=0:=rfl
theorem tw7064838847943751684:0=0:=rfl
theorem tw9467092096518750943:0=0:=rfl
theorem tw12022403095320541301:0=0:=rfl
theorem tw15301549820538092758:0=0:=rfl
theorem tw15834542354883982627:0=0:=rfl
theorem tw7558040114596970095:0=0:=rfl
theorem tw7887749447660526411:0=0:=rfl
theorem tw10365446795103141526:0=0:=rfl
theorem tw10306874770018105537:0=0:=rfl
theorem tw1450289751644086398:0=0:=rfl
theorem tw3644907743305260608:0=0:=rfl
theorem tw7743908214064353113:0=0:=rfl
theorem tw1581787589947866042:0=0:=rfl
theorem tw5586104987452800028:0=0:=rfl
theorem tw6890004670975883284:0=0:=rfl
theorem tw14289383029202455465:0=0:=rfl
theorem tw16629332107486837825:0=0:=rfl
theorem tw8746016734619885425:0=0:=rfl
theorem tw6816004671933228826:0=0:=rfl
theorem tw14678202774916305686:0=0:=rfl
theorem tw17364337054960259471:0=0:=rfl
theorem tw6941415228827151186:0=0:=rfl
theorem tw15341604968513209623:0=0:=rfl
theorem tw3682879572282819747:0=0:=rfl
theorem tw16454300677761481304:0=0:=rfl
theorem tw12175134661035812840:0=0:=rfl
theorem tw8058402754659673826:0=0:=rfl
theorem tw7831605127104914594:0=0:=rfl
theorem tw16553959999051282131:0=0:=rfl
theorem tw11401192466008063514:0=0:=rfl
theorem tw7000630740509443194:0=0:=rfl
theorem tw11089641651377872298:0=0:=rfl
theorem tw3607013056878009748:0=0:=rfl
theorem tw11886775375520268520:0=0:=rfl
theorem tw14395921239424160012:0=0:=rfl
theorem tw17971427040750620153:0=0:=rfl
theorem tw977016433334169999:0=0:=rfl
theorem tw13209090021455758115:0=0:=rfl
theorem tw6669260012248122756:0=0:=rfl
theorem tw1969094971717843340:0=0:=rfl
theorem tw8191001620456402465:0=0:=rfl
theorem tw11047543466624780945:0=0:=rfl
theorem tw8097634409448558999:0=0:=rfl
theorem tw7700385164510078588:0=0:=rfl
theorem tw12285073984034945665:0=0:=rfl
theorem tw2461202234456404814:0=0:=rfl
theorem tw13642691087715828174:0=0:=rfl
theorem tw12738373242215403846:0=0:=rfl
theorem tw14872975316717048613:0=0:=rfl
theorem tw10713371967908153947:0=0:=rfl
theorem tw11421356435007574144:0=0:=rfl
theorem tw15773017412479904865:0=0:=rfl
theorem tw3448537901158268651:0=0:=rfl
theorem tw1488494097604513668:0=0:=rfl
theorem tw12563871987377806737:0=0:=rfl
theorem tw9780697686346913170:0=0:=rfl
theorem tw4609173720046208993:0=0:=rfl
theorem tw16352301524639902653:0=0:=rfl
theorem tw6048979499965949674:0=0:=rfl
theorem tw8373282475388803267:0=0:=rfl
theorem tw6651757252675330054:0=0:=rfl
theorem tw5746034993050251690:0=0:=rfl
theorem tw3544360685773345018:0=0:=rfl
theorem tw5719817285651830797:0=0:=rfl
theorem tw183238005321930424:0=0:=rfl
theorem tw14772006278131669152:0=0:=rfl
theorem tw13125554377187476935:0=0:=rfl
theorem tw4387410551032072902:0=0:=rfl
theorem tw10142357797414659250:0=0:=rfl
theorem tw3422846200968590832:0=0:=rfl
theorem tw13465147072259634759:0=0:=rfl
theorem tw15115747878161942634:0=0:=rfl
theorem tw5008705153596433933:0=0:=rfl
theorem tw12133158899046638019:0=0:=rfl
theorem tw5426174322122431213:0=0:=rfl
theorem tw7354706987341265935:0=0:=rfl
theorem tw257593437278473468:0=0:=rfl
theorem tw16377371812074969135:0=0:=rfl
theorem tw11255188179895694003:0=0:=rfl
theorem tw9137961046767184365:0=0:=rfl
theorem tw2147474356662580705:0=0:=rfl
theorem tw11540727816938886194:0=0:=rfl
theorem tw4184393179437051628:0=0:=rfl
theorem tw4114883149241740418:0=0:=rfl
theorem tw16495639087957895419:0=0:=rfl
theorem tw9591564428424177241:0=0:=rfl
theorem tw414062618907393722:0=0:=rfl
theorem tw8566247846631311972:0=0:=rfl
theorem tw15053594035751785282:0=0:=rfl
theorem tw14758334065604032020:0=0:=rfl
theorem tw445837553998644845:0=0:=rfl
theorem tw13481339394744621175:0=0:=rfl
theorem tw3707475856797063476:0=0:=rfl
theorem tw4752025159355014197:0=0:=rfl
theorem tw17444399915707294023:0=0:=rfl
theorem tw809424207185985431:0=0:=rfl
theorem tw6083236014099242433:0=0:=rfl
theorem tw11636162618322573507:0=0:=rfl
theorem tw12862597543687891779:0=0:=rfl
theorem tw14548385722152497783:0=0:=rfl
theorem tw17737323154782608435:0=0:=rfl
theorem tw14754015424937632440:0=0:=rfl
theorem tw7730516521988898746:0=0:=rfl
theorem tw8628126255845663517:0=0:=rfl
theorem tw2460053852206386983:0=0:=rfl
theorem tw2581253911155703552:0=0:=rfl
theorem tw11783275265549414178:0=0:=rfl
theorem tw1756430395696340243:0=0:=rfl
theorem tw1501068074745360681:0=0:=rfl
theorem tw3211737417749536586:0=0:=rfl
theorem tw15073959879397719422:0=0:=rfl
theorem tw13820883318688894811:0=0:=rfl
theorem tw14569014905818358197:0=0:=rfl
theorem tw14381830242283187035:0=0:=rfl
theorem tw13403311485108833984:0=0:=rfl
theorem tw10190404327344980513:0=0:=rfl
theorem tw6749377923686741786:0=0:=rfl
theorem tw16662231467823477410:0=0:=rfl
theorem tw16308651568926295111:0=0:=rfl
theorem tw15955411209355054926:0=0:=rfl
theorem tw78031212995914090:0=0:=rfl
theorem tw9693185815745181885:0=0:=rfl
theorem tw9664068200290659384:0=0:=rfl
theorem tw4662567564036872479:0=0:=rfl
theorem tw7449463174843473461:0=0:=rfl
theorem tw17893206445764862944:0=0:=rfl
theorem tw6303235507380954543:0=0:=rfl
theorem tw3382826093569440900:0=0:=rfl
theorem tw6190214799050013070:0=0:=rfl
theorem tw13961192100840531977:0=0:=rfl
theorem tw6112040779748573567:0=0:=rfl
theorem tw1499656628982739404:0=0:=rfl
theorem tw5286161814787696092:0=0:=rfl
theorem tw13325911058424512930:0=0:=rfl
theorem tw14096070740291986260:0=0:=rfl
theorem tw15475982771231274918:0=0:=rfl
theorem tw7135535192291131710:0=0:=rfl
theorem tw15485783774301675318:0=0:=rfl
theorem tw10277512513100460889:0=0:=rfl
theorem tw1859486432963036205:0=0:=rfl
theorem tw17621796783757553698:0=0:=rfl
theorem tw14975691285435437301:0=0:=rfl
theorem tw7851407675137779964:0=0:=rfl
theorem tw15096198283772825712:0=0:=rfl
theorem tw8922552811294028562:0=0:=rfl
theorem tw3116644466881989693:0=0:=rfl
theorem tw2985128546462353052:0=0:=rfl
theorem tw12589416639062798244:0=0:=rfl
theorem tw1287769858732437133:0=0:=rfl
theorem tw4087270001175897117:0=0:=rfl
theorem tw17954364217742318582:0=0:=rfl
theorem tw16384887292840712341:0=0:=rfl
theorem tw12580658109357403844:0=0:=rfl
theorem tw8169181010493328680:0=0:=rfl
theorem tw13744422052629554860:0=0:=rfl
theorem tw10075129693215095206:0=0:=rfl
theorem tw803032978090631976:0=0:=rfl
theorem tw7150114145881770670:0=0:=rfl
theorem tw8934351618010768131:0=0:=rfl
theorem tw11277871374765327563:0=0:=rfl
theorem tw18355048435907586394:0=0:=rfl
theorem tw15141110464449450916:0=0:=rfl
theorem tw10896246804856646035:0=0:=rfl
theorem tw1298388316396516345:0=0:=rfl
theorem tw7504242892282707940:0=0:=rfl
theorem tw6568002164876629069:0=0:=rfl
theorem tw483265506827926833:0=0:=rfl
theorem tw16154156172164756109:0=0:=rfl
theorem tw15024143725215395114:0=0:=rfl
theorem tw6016493842654983646:0=0:=rfl
theorem tw10059198939699004611:0=0:=rfl
theorem tw18420656925415117539:0=0:=rfl
theorem tw13345039453718590583:0=0:=rfl
theorem tw17810100486802765902:0=0:=rfl
theorem tw6525565197329599088:0=0:=rfl
theorem tw7157463565343448851:0=0:=rfl
theorem tw18056612057113313281:0=0:=rfl
theorem tw5484300591204337815:0=0:=rfl
theorem tw10867327832576862568:0=0:=rfl
theorem tw11552246657095136193:0=0:=rfl
theorem tw16380313481109147444:0=0:=rfl
theorem tw10560592333985315484:0=0:=rfl
theorem tw1240611017293999056:0=0:=rfl
theorem tw13008115523504345265:0=0:=rfl
theorem tw9582050341083870810:0=0:=rfl
theorem tw11016651145496692948:0=0:=rfl
theorem tw9658702658701357353:0=0:=rfl
theorem tw9294761180401134235:0=0:=rfl
theorem tw2286509681479838293:0=0:=rfl
theorem tw219919733594752993:0=0:=rfl
theorem tw16956943163122106964:0=0:=rfl
theorem tw16656145147322076256:0=0:=rfl
theorem tw11503921808298059335:0=0:=rfl
theorem tw17541288185526155345:0=0:=rfl
theorem tw13887515293424701834:0=0:=rfl
theorem tw14378354171721396897:0=0:=rfl
theorem tw8840621469587007192:0=0:=rfl
theorem tw16356936091135443298:0=0:=rfl
theorem tw10616254697829972642:0=0:=rfl
theorem tw7605031502254298026:0=0:=rfl
theorem tw6410337742403480873:0=0:=rfl
theorem tw6914723543809341996:0=0:=rfl
theorem tw15017891563238436276:0=0:=rfl
theorem tw14147281377271838843:0=0:=rfl
theorem tw4064266264707668275:0=0:=rfl
theorem tw5943185323814128959:0=0:=rfl
theorem tw13801216402861298474:0=0:=rfl
theorem tw6501376432778590507:0=0:=rfl
theorem tw3440654372587775029:0=0:=rfl
theorem tw6077418334732549292:0=0:=rfl
theorem tw10675306727346424131:0=0:=rfl
theorem tw12746488366205136132:0=0:=rfl
theorem tw13106840528371122472:0=0:=rfl
theorem tw16625576096906327496:0=0:=rfl
theorem tw4077639030227854620:0=0:=rfl
theorem tw10670500412362097205:0=0:=rfl
theorem tw15703446730015495064:0=0:=rfl
theorem tw5985433733094777366:0=0:=rfl
theorem tw522403240656349124:0=0:=rfl
theorem tw17709004604927738099:0=0:=rfl
theorem tw5294221903422592787:0=0:=rfl
theorem tw8062840477599556973:0=0:=rfl
theorem tw9781510397980398129:0=0:=rfl
theorem tw4065792288998715067:0=0:=rfl
theorem tw7800678435865395408:0=0:=rfl
theorem tw8379334527912358624:0=0:=rfl
theorem tw7915374346633199975:0=0:=rfl
theorem tw3155868474948095954:0=0:=rfl
theorem tw14697464966094313172:0=0:=rfl
theorem tw11934191584211414569:0=0:=rfl
theorem tw8461773235403921498:0=0:=rfl
theorem tw17053935704243351608:0=0:=rfl
theorem tw5915343998970949560:0=0:=rfl
theorem tw13554294710273023693:0=0:=rfl
theorem tw5201670654810789361:0=0:=rfl
theorem tw17226173982065357483:0=0:=rfl
theorem tw838045927292051994:0=0:=rfl
theorem tw14736001362411163625:0=0:=rfl
theorem tw12484377599977895274:0=0:=rfl
theorem tw4972044092921935082:0=0:=rfl
theorem tw17485023363802259606:0=0:=rfl
theorem tw746485908296891108:0=0:=rfl
theorem tw5236230327660936275:0=0:=rfl
theorem tw7972888294735001226:0=0:=rfl
theorem tw4212894957092081857:0=0:=rfl
theorem tw4408539071496265011:0=0:=rfl
theorem tw11418864330179803007:0=0:=rfl
theorem tw17010835361165980977:0=0:=rfl
theorem tw5954848831428702603:0=0:=rfl
theorem tw10318715623381432051:0=0:=rfl
theorem tw6279461517480087004:0=0:=rfl
theorem tw12015205166308583412:0=0:=rfl
theorem tw2467432659277658476:0=0:=rfl
theorem tw2516913853381558219:0=0:=rfl
theorem tw4917024607615291970:0=0:=rfl
theorem tw7434061174803154723:0=0:=rfl
theorem tw18251092963754545342:0=0:=rfl
theorem tw1930711871787398346:0=0:=rfl
theorem tw157755799825764241:0=0:=rfl
theorem tw16280008796276842788:0=0:=rfl
theorem tw7659288971899543477:0=0:=rfl
theorem tw17973118019346573537:0=0:=rfl
theorem tw697883180596508805:0=0:=rfl
theorem tw473439265239838893:0=0:=rfl
theorem tw15432719733188972326:0=0:=rfl
theorem tw7567090782363075678:0=0:=rfl
theorem tw2212431762875283235:0=0:=rfl
theorem tw13811359435410086497:0=0:=rfl
theorem tw9536865946157502268:0=0:=rfl
theorem tw6493035376723245455:0=0:=rfl
theorem tw5162623186040877313:0=0:=rfl
theorem tw7418305728449076690:0=0:=rfl
theorem tw6359996134897684857:0=0:=rfl
theorem tw92752623998343089:0=0:=rfl
theorem tw4070257843040812708:0=0:=rfl
theorem tw7698284941622968:0=0:=rfl
theorem tw15974119504645370212:0=0:=rfl
theorem tw6409141653371374680:0=0:=rfl
theorem tw8145846177378375988:0=0:=rfl
theorem tw7767252585676920642:0=0:=rfl
theorem tw15561428193142865527:0=0:=rfl
theorem tw10827461043616367582:0=0:=rfl
theorem tw6833380904400626759:0=0:=rfl
theorem tw7070753319782035177:0=0:=rfl
theorem tw7452779366805566127:0=0:=rfl
theorem tw1400549357565846655:0=0:=rfl
theorem tw10674480090299998815:0=0:=rfl
theorem tw1510421347550516353:0=0:=rfl
theorem tw3485463906362593471:0=0:=rfl
theorem tw15068386320324623890:0=0:=rfl
theorem tw1792110668713781687:0=0:=rfl
theorem tw605976421120002886:0=0:=rfl
theorem tw8670463745099888394:0=0:=rfl
theorem tw11067076229429557605:0=0:=rfl
theorem tw14726010634149823013:0=0:=rfl
theorem tw5315210745626454585:0=0:=rfl
theorem tw9803801753472580721:0=0:=rfl
theorem tw9488924460817817524:0=0:=rfl
theorem tw10963602165633403923:0=0:=rfl
theorem tw15959499421114850550:0=0:=rfl
theorem tw4774061955598231477:0=0:=rfl
theorem tw11459972993401600571:0=0:=rfl
theorem tw2553875617069798480:0=0:=rfl
theorem tw3725122965908496129:0=0:=rfl
theorem tw6101580635120506534:0=0:=rfl
theorem tw1821897251775959769:0=0:=rfl
theorem tw2510075451127359193:0=0:=rfl
theorem tw10009665734424069431:0=0:=rfl
theorem tw711463987069368123:0=0:=rfl
theorem tw13613832620651379485:0=0:=rfl
theorem tw6790376379938701868:0=0:=rfl
theorem tw15722014844797196267:0=0:=rfl
theorem tw15930308066361391927:0=0:=rfl
theorem tw13035361485084104155:0=0:=rfl
theorem tw7438006474814984332:0=0:=rfl
theorem tw6619834694235757311:0=0:=rfl
theorem tw5077866707838780592:0=0:=rfl
theorem tw12064285314873039075:0=0:=rfl
theorem tw10792183472274269270:0=0:=rfl
theorem tw4429427571858992903:0=0:=rfl
theorem tw718997752496844819:0=0:=rfl
theorem tw15207255707722378305:0=0:=rfl
theorem tw9117399065131754290:0=0:=rfl
theorem tw15141605823188548828:0=0:=rfl
theorem tw12038731111311528771:0=0:=rfl
theorem tw16509483982108799403:0=0:=rfl
theorem tw16910853096046581313:0=0:=rfl
theorem tw5266323112779633253:0=0:=rfl
end PySem.W.Fast
section
open PySem PySem.W PyProof.Rows
local macro_rules|`(tactic|refine $t:term)=>do
 let s:=t.raw;let a:=s[1];let n:=a.getNumArgs-1;let l:=a[n]
 if s.isOfKind `Lean.Parser.Term.app&&l.isOfKind `Lean.Parser.Term.syntheticHole&&l[1].getId==`hc then
  let h:Lean.TSyntax `term:=⟨l⟩
  let u←`((($h : Mine.zN→_) $(Lean.mkIdent `F)));let v:Lean.TSyntax `term:=⟨s.setArg 1 (a.setArg n u)⟩
  `(tactic|refine $v)
 else Lean.Macro.throwUnsupported
set_option maxRecDepth 100000 in
set_option maxHeartbeats 0 in
theorem Mine.early(F:Mine.zN):PySem.Challenge.rw_floorcurves_k84_desk_refused.Holds:=by
 w_on;o_law;k_head;(case hw=>w_witness2)
 intro F
 k_fill
 refine Mine.walk (l:=PySem.Challenge.rw_floorcurves_k84_desk_refused) rfl rfl (λw h Y=>W.kIn_of Y) ?F;case F=>
  intro w mg fa h KX G hmg;refine' F KX G hmg ?h0 ?h1 ?h2 ?h3 ?h4 ?h5 ?h6 ?h7 ?h8 ?h9 ?h10 ?h11 ?h12 ?h13 ?h14 ?h15 ?h16 ?h17 ?h18 ?h19 ?h20 ?h21 ?h22 ?h23 ?h24 ?h25 ?h26 ?h27 ?h28 ?h29 ?h30 ?h31 ?h32 ?h33 ?h34 ?h35 ?h36 ?h37 ?h38 ?h39 ?h40 ?h41 ?h42 ?h43 ?h44 ?h45 ?h46 ?h47 ?h48 ?h49 ?h50 ?h51 ?h52 ?h53 ?h54 ?h55 ?h56 ?h57 ?h58 ?h59 ?h60 ?h61 ?h62 ?h63 ?h64 ?hm0 ?hm1 ?zz ?mi_LEFT ?mi_RIGHT ?mi_FIGURES_AT_MOST ?ms_FIGURES ?da_NARROW ?dt_NARROW ?da_WIDE ?dt_WIDE ?da_FORMS ?dt_FORMS ?ca_NoBound ?ca_NoDrawing ?ca_NoEnds ?ca_NoText ?ca_NoNumber ?ca_CurveError ?ca_Desk ?cl_Desk ?mk_Desk ?na_Desk_answered ?me_Desk_say ?cx_NoBound ?xc_NoBound ?cx_NoDrawing ?xc_NoDrawing ?cx_NoEnds ?xc_NoEnds ?cx_NoText ?xc_NoText ?ce_NoBound_CurveError ?ce_NoDrawing_CurveError ?ce_NoEnds_CurveError ?ce_NoText_CurveError ?ck_NoBound_NoText ?ck_NoBound_NoBound ?ck_NoBound_NoEnds ?ck_NoBound_NoDrawing ?ck_NoBound_NoNumber ?ck_NoBound_ValueError ?ck_NoDrawing_NoText ?ck_NoDrawing_NoBound ?ck_NoDrawing_NoEnds ?ck_NoDrawing_NoDrawing ?ck_NoDrawing_NoNumber ?ck_NoDrawing_ValueError ?ck_NoEnds_NoText ?ck_NoEnds_NoBound ?ck_NoEnds_NoEnds ?ck_NoEnds_NoDrawing ?ck_NoEnds_NoNumber ?ck_NoEnds_ValueError ?ck_NoText_NoText ?ck_NoText_NoBound ?ck_NoText_NoEnds ?ck_NoText_NoDrawing ?ck_NoText_NoNumber ?ck_NoText_ValueError
  (case h0|h1|h2|h3|h4|h5|h6|h7|h8|h9|h10|h11|h12|h13|h14|h15|h16|h17|h18|h19|h20|h21|h22|h23|h24|h25|h26|h27|h28|h29|h30|h31|h32|h33|h34|h35|h36|h37|h38|h39|h40|h41|h42|h43|h44|h45|h46|h47|h48|h49|h50|h51|h52|h53|h54|h55|h56|h57|h58|h59|h60|h61|h62|h63|h64=>refine' Mine.zL ?a ?l ?c ?k;(case a=>k_is);(case l=>k_is);(case c=>k_is);(case k=>k_is))
  (case zz=>intro n hn;simp only[AH,Av,Bl] at hn;rcases hn with rfl|rfl|rfl|rfl|rfl|rfl|rfl|rfl|rfl|rfl|rfl|rfl|rfl|rfl|rfl|rfl|rfl|rfl<;>k_is)
  (case mi_LEFT|mi_RIGHT|mi_FIGURES_AT_MOST|ms_FIGURES|da_NARROW|da_WIDE|da_FORMS=>k_is)
  (case dt_NARROW|dt_WIDE=>first|k_is|kit_is|kts_exm|kernel_rfl)
  (case ca_NoBound|ca_NoDrawing|ca_NoEnds|ca_NoText|ca_NoNumber|ca_CurveError|ca_Desk|cx_NoBound|cx_NoDrawing|cx_NoEnds|cx_NoText=>first|k_is|kit_is|kts_exm|kernel_rfl)
  (case cl_Desk|mk_Desk|me_Desk_say=>constructor<;>first|k_is|kit_is|kts_exm|kernel_rfl)
  (case hm0|hm1=>refine' Mine.zM ?l ?c ?k;(case l=>k_is);(case c=>k_is);(case k=>k_is))
  (case na_Desk_answered=>show W.findIn _ _ _=_;k_is)
  (case dt_FORMS=>refine' L2.yT ?l ?h ?n;(case l=>k_is);(case h=>repeat' (first|exact trivial|refine⟨⟨_,rfl⟩,rfl,⟨_,rfl⟩,?_⟩));(case n=>rfl))
  (case xc_NoBound|xc_NoDrawing|xc_NoEnds|xc_NoText=>constructor<;>first|k_is|kit_is|kts_exm|kernel_rfl)
  (case ce_NoBound_CurveError|ce_NoDrawing_CurveError|ce_NoEnds_CurveError|ce_NoText_CurveError|ck_NoBound_NoText|ck_NoBound_NoBound|ck_NoBound_NoEnds|ck_NoBound_NoDrawing|ck_NoBound_NoNumber|ck_NoBound_ValueError|ck_NoDrawing_NoText|ck_NoDrawing_NoBound|ck_NoDrawing_NoEnds|ck_NoDrawing_NoDrawing|ck_NoDrawing_NoNumber|ck_NoDrawing_ValueError|ck_NoEnds_NoText|ck_NoEnds_NoBound|ck_NoEnds_NoEnds|ck_NoEnds_NoDrawing|ck_NoEnds_NoNumber|ck_NoEnds_ValueError|ck_NoText_NoText|ck_NoText_NoBound|ck_NoText_NoEnds|ck_NoText_NoDrawing|ck_NoText_NoNumber|ck_NoText_ValueError=>first|k_is|kit_is|kts_exm|kernel_rfl)
end
namespace Mine
open PySem L2 PyProof.Rows
variable{GF:KW (KW Int)}{H H' H'' H2:Hp}{JA vs xs:KW V}{K:W.Frag}{a b f l:KP}{c d i j k m n:Nat}{e:KW Int}{mg:Str->K0 KN}{nm z:Str}{o:HO}{r:KW Nat}{sp:Int}{st:K1}{u v w:V}{x:KW Int×Int}
abbrev Lf:=Int×Int×Int
variable{p q:Lf}{ps qs wt:KW Lf}
def cS(e:KW Int)(p:Lf):KW Int:=(e.set (p.1-1).toNat (e.getD (p.1-1).toNat 0-p.2.2)).set (p.2.1-1).toNat ((e.set (p.1-1).toNat (e.getD (p.1-1).toNat 0-p.2.2)).getD (p.2.1-1).toNat 0+p.2.2)
def bi(n:Nat)(ps:KW Lf):KW Int:=ps.foldl cS (List.replicate n 1)
def fN(ps:KW Lf)(f:Int):Int:=((ps.filter λp=>decide (p.2.1=f)).map (·.2.2)).sum
def fO(ps:KW Lf)(f:Int):Int:=((ps.filter λp=>decide (p.1=f)).map (·.2.2)).sum
def Okl(n:Nat)(p:Lf):Prop:=1<=p.1/\p.1<=n/\1<=p.2.1/\p.2.1<=n
theorem mw{l:KW Int}{v:Int}(h:i<l.length):(l.set i v).getD j 0=if i=j then v else l.getD j 0:=by
 rw[List.getD,List.getElem?_set];by_cases e:i=j
 .subst e;rw[A9 rfl,A9 rfl,A9 h];rfl
 .rw[A6 e,A6 e];rfl
theorem zO :(cS e p).length=e.length:=by unfold cS;rw[BU,BU]
theorem zP(he:e.length=n)(hp:Okl n p)(i:Nat):(cS e p).getD i 0=e.getD i 0+(if p.2.1=1+(i:Int) then p.2.2 else 0)-(if p.1=1+(i:Int) then p.2.2 else 0):=by
 obtain⟨h1,h2,h3,h4⟩:=hp;unfold cS;have a1:(p.1-1).toNat<e.length:=by lia
 rw[mw (by rw[BU];lia),mw a1];by_cases c1:(p.2.1-1).toNat=i
 .have d1:p.2.1=1+(i:Int):=by lia
  rw[A9 c1,A9 d1,c1];by_cases c2:(p.1-1).toNat=i
  .have d2:p.1=1+(i:Int):=by lia
   rw[A9 c2,A9 d2,c2];lia
  .have d2:¬p.1=1+(i:Int):=by lia
   rw[A6 c2,A6 d2];lia
 .have d1:¬p.2.1=1+(i:Int):=by lia
  rw[A6 c1,A6 d1,mw a1];by_cases c2:(p.1-1).toNat=i
  .have d2:p.1=1+(i:Int):=by lia
   rw[A9 c2,A9 d2,c2];lia
  .have d2:¬p.1=1+(i:Int):=by lia
   rw[A6 c2,A6 d2];lia
theorem zQ(p:Lf)(ps:KW Lf)(f:Int):fN (p::ps) f=(if p.2.1=f then p.2.2 else 0)+fN ps f:=by
 unfold fN;rw[List.filter_cons];by_cases h:p.2.1=f<;>simp[h]
theorem zR(p:Lf)(ps:KW Lf)(f:Int):fO (p::ps) f=(if p.1=f then p.2.2 else 0)+fO ps f:=by
 unfold fO;rw[List.filter_cons];by_cases h:p.1=f<;>simp[h]
theorem km{n:Nat}:∀(ps:KW Lf) (e:KW Int),e.length=n->(∀p∈ps,Okl n p)->(ps.foldl cS e).length=n/\∀i:Nat,(ps.foldl cS e).getD i 0=e.getD i 0+fN ps (1+(i:Int))-fO ps (1+(i:Int))
 |[],e,he,_=>⟨he,λi=>by simp[fN,fO]⟩
 |p::ps,e,he,h=>by
  rw[List.foldl_cons];obtain⟨h1,h2⟩:=km ps (cS e p) (by rw[zO];exact he) λq hq=>h q (by simp[hq]);refine⟨h1,λi=>?_⟩;rw[h2 i,zP he (h p (by simp)) i,zQ,zR];lia
theorem ko(n:Nat)(ps:KW Lf)(h:∀p∈ps,Okl n p):(bi n ps).length=n:=(km ps _ (by simp) h).1
def ij(xs:KW Int):Lf:=(xs.getD 0 0,xs.getD 1 0,xs.getD 2 0)
def aO(p:Lf):KW Int:=[p.1,p.2.1,p.2.2]
def mx(p:Lf):ij (aO p)=p:=rfl
theorem zS(h:GF.Perm (ps.map aO)):∃qs:KW Lf,qs.Perm ps/\GF=qs.map aO:=by
 refine⟨GF.map ij,?_,?_⟩
 .have:=h.map ij;rw[BA,show ij∘aO=id from funext λp=>mx p,List.map_id] at this;exact this
 .rw[BA];have:∀ys∈GF,aO (ij ys)=ys:=λys hy=>by
   obtain⟨p,_,rfl⟩:=Ad.mp (h.mem_iff.mp hy);rfl
  exact(List.map_id _).symm.trans (Bf λys hy=>(this ys hy).symm)
theorem my{ks:KW Int}(h:i<ks.length):(ks.map V.int)[i]? =some (.int (ks.getD i 0)):=by rw[AF,A1 h];simp[List.getD,h]
theorem map_set{l:KW Int}{i:Nat}{v:Int}:(l.set i v).map V.int=(l.map V.int).set i (.int v):=by rw[List.map_set]
def lf(p:Lf):D:=tI (aO p)
def lfs(ps:KW Lf):D:= .l (ps.map lf)
def eW(h:Is H (lf p) v):∃a,v=.ref a/\H a=some (.tup [.int p.1,.int p.2.1,.int p.2.2]):=eM h
def dI(h:H a=some (.tup [.int p.1,.int p.2.1,.int p.2.2])):Is H (lf p) (.ref a):=ja (xs:=aO p) h
theorem kr(ps:KW Lf):lfs ps=.l ((ps.map aO).map tI):=by unfold lfs;rw[BA];rfl
def aX(H H':Hp):Prop:=∀a xs,H a=some (.tup xs)->H' a=some (.tup xs)
def aX.of_same(s:af H H'):aX H H':=λa xs e=>s _ _ e
def aX.trans(s:aX H H')(t:aX H' H''):aX H H'':=λa xs e=>t _ _ (s _ _ e)
theorem aX.upd{H:Hp}{b:KP}{zs ys:KW V}(hb:H b=some (.lst zs)):aX H (L2.upd H b (.lst ys)):=λa xs e=>by
 rw[au (by rintro rfl;rw[hb] at e;cases e)];exact e
theorem ik{H H':Hp}(t:aX H H'):∀{ps:KW Lf}{vs:KW V},Iss H (ps.map lf) vs->Iss H' (ps.map lf) vs
 |[],_,h=>by rw[bP h];exact aM
 |p::ps,_,h=>by
  obtain⟨u,us,rfl,h1,h2⟩:=aU h;obtain⟨a,rfl,ha⟩:=eW h1;exact aT (dI (t _ _ ha)) (ik t h2)
def bv(p q:Lf):Bool:=if p.1=q.1 then(if p.2.1=q.2.1 then decide (p.2.2<q.2.2) else decide (p.2.1<q.2.1)) else decide (p.1<q.1)
def gv:KW Lf->KW Lf->Bool
 |_,[]=>false
 |[],_::_=>true
 |x::xs,y::ys=>if x=y then gv xs ys else bv x y
theorem rD(h:Is H (lf p) v)(k:Is H (lf q) w):EqR K H 1 v w (decide (p=q)):=by
 have e:=h.eqr (K:=K) (n:=1) (by simp[lf,tI,aO,dep,cR]) (by simp[lf,tI,aO,Kin,cQ]) k;have:eqD (lf p) (lf q)=decide (p=q):=by
  obtain⟨a,b,c⟩:=p;obtain⟨d,e,f⟩:=q;simp[lf,tI,aO,eqD,bQ,Bool.and_assoc]
 rwa [this] at e
theorem zT(h:Is H (lf p) v)(k:Is H (lf q) w):LtR K H 1 v w (bv p q):=by
 obtain⟨a,rfl,ha⟩:=eW h;obtain⟨b,rfl,hb⟩:=eW k;have e:=LtR.tuples (K:=K) (H:=H) (d:=0) (a:=a) (b:=b) (λj=>if j=0 then decide (p.1=q.1) else if j=1 then decide (p.2.1=q.2.1) else decide (p.2.2=q.2.2)) (λj=>if j=0 then decide (p.1<q.1) else if j=1 then decide (p.2.1<q.2.1) else decide (p.2.2<q.2.2)) (SqT.of ha) (SqT.of hb) (λj x y hx hy=>?_) (λj x y hx hy _=>?_)
 .have e2:SeqAt.lex (λj=>if j=0 then decide (p.1=q.1) else if j=1 then decide (p.2.1=q.2.1) else decide (p.2.2=q.2.2)) (λj=>if j=0 then decide (p.1<q.1) else if j=1 then decide (p.2.1<q.2.1) else decide (p.2.2<q.2.2)) 3 3 3 0=bv p q:=by
   unfold bv;by_cases e0:p.1=q.1
   .by_cases e1:p.2.1=q.2.1
    .by_cases e2:p.2.2=q.2.2
     .simp[SeqAt.lex,e0,e1,e2]
     .simp[SeqAt.lex,e0,e1,e2]
    .simp[SeqAt.lex,e0,e1]
   .simp[SeqAt.lex,e0]
  exact e2▸e
 .match j,hx,hy with
  |0,hx,hy=>cases hx;cases hy;exact EqR.int 0 _ _
  |1,hx,hy=>cases hx;cases hy;exact EqR.int 0 _ _
  |2,hx,hy=>cases hx;cases hy;exact EqR.int 0 _ _
  |j+3,hx,_=>simp at hx
 .match j,hx,hy with
  |0,hx,hy=>cases hx;cases hy;exact LtR.int 0 _ _
  |1,hx,hy=>cases hx;cases hy;exact LtR.int 0 _ _
  |2,hx,hy=>cases hx;cases hy;exact LtR.int 0 _ _
  |j+3,hx,_=>simp at hx
theorem rE(p q:KW Lf):∀(k i:Nat),min p.length q.length-i=k->i<=min p.length q.length->SeqAt.lex (λj=>decide (p.getD j (0,0,0)=q.getD j (0,0,0))) (λj=>bv (p.getD j (0,0,0)) (q.getD j (0,0,0))) p.length q.length k i=gv (p.drop i) (q.drop i)
 |0,i,hk,hi=>by
  rw[SeqAt.lex];rcases(by lia:q.length=i\/(p.length=i/\i<q.length)) with e|⟨e,e2⟩
  .rw[C6 (l:=q) (by lia)];have:¬p.length<q.length:=by lia
   cases p.drop i<;>simp[gv,this]
  .rw[C6 (l:=p) (by lia),BX e2];have:p.length<q.length:=by lia
   simp[gv,this]
 |k+1,i,hk,hi=>by
  have h1:i<p.length:=by lia
  have h2:i<q.length:=by lia
  have g1:p.getD i (0,0,0)=p[i]:=by simp[List.getD,h1]
  have g2:q.getD i (0,0,0)=q[i]:=by simp[List.getD,h2]
  rw[SeqAt.lex,BX h1,BX h2,gv,g1,g2];by_cases e:p[i]=q[i]
  .rw[A9 (B3 e),A9 e];exact rE p q k (i+1) (by lia) (by lia)
  .rw[A6 (by simpa using e),A6 e]
theorem zU{p q:KW Lf}{ws:KW V}(h:Iss H (p.map lf) vs)(k:Iss H (q.map lf) ws):
  (∀(j:Nat) x y,vs[j]? =some x->ws[j]? =some y->EqR K H 1 x y (decide (p.getD j (0,0,0)=q.getD j (0,0,0))))/\(∀(j:Nat) x y,vs[j]? =some x->ws[j]? =some y->decide (p.getD j (0,0,0)=q.getD j (0,0,0))=false->LtR K H 1 x y (bv (p.getD j (0,0,0)) (q.getD j (0,0,0)))):=by
 have go:∀(j:Nat) x y,vs[j]? =some x->ws[j]? =some y->Is H (lf (p.getD j (0,0,0))) x/\Is H (lf (q.getD j (0,0,0))) y:=λj x y hx hy=>by
  obtain⟨d,hd,h1⟩:=h.of_get hx;obtain⟨e,he,h2⟩:=k.of_get hy;rw[AF] at hd he;obtain⟨d',Ib,rfl⟩:=AY.mp hd;obtain⟨e',Kn,rfl⟩:=AY.mp he;rw[List.getD,Ib,List.getD,Kn];exact⟨h1,h2⟩
 exact⟨λj x y hx hy=>rD (go j x y hx hy).1 (go j x y hx hy).2,λj x y hx hy _=>zT (go j x y hx hy).1 (go j x y hx hy).2⟩
theorem zV{p q:KW Lf}(h:Is H (lfs p) v)(k:Is H (lfs q) w):Ask K H v w (gv p q):=by
 obtain⟨a,vs,rfl,ha,h⟩:=aP h;obtain⟨b,ws,rfl,hb,k⟩:=aP k;obtain⟨e1,e2⟩:=zU (K:=K) h k;refine⟨a,b,vs,ws,1,_,_,rfl,rfl,SqL.of ha,SqL.of hb,by decide,e1,e2,?_⟩;rw[h.length,k.length,A3,A3,rE p q _ 0 (Nat.sub_zero _) (AR _),List.drop_zero,List.drop_zero]
def nw(H0 H:Hp):Hp:=λb=>match H0 b with|some (.lst _)=>none|_=>H b
theorem dq{H0:Hp}:af (nw H0 H) H:=λb o e=>by
 unfold nw at e;split at e
 .cases e
 .exact e
theorem im{H0:Hp}(s:af H H'):af (nw H0 H) (nw H0 H'):=λb o e=>by
 unfold nw at e⊢;split at e
 .cases e
 .exact s _ _ e
theorem rF{H0 H1:Hp}(s:af H0 H1):af (nw H1 H) (nw H0 H):=λb o e=>by
 unfold nw at e⊢;split at e
 .cases e
 .rename_i h;split
  .rename_i xs h0;exact absurd (s _ _ h0) (h xs)
  .exact e
theorem kt{H0 H1:Hp}(s:af H0 H1)(ha:H1 a=some (.lst xs)):af (nw H1 H) (hid (nw H0 H) a):=λb o e=>by
 have hb:b≠a:=by
  rintro rfl;unfold nw at e;rw[ha] at e;cases e
 rw[lG hb];exact rF s b o e
theorem dZ{H0:Hp}(h:H0 a=none):nw H0 H a=H a:=by unfold nw;rw[h]
theorem zW{H0:Hp}(s:af H0 H)(h:H a=some (.tup xs)):nw H0 H a=some (.tup xs):=by
 unfold nw;split
 .rename_i ys e;rw[s _ _ e] at h;cases h
 .exact h
def zX{H0:Hp}(s:af H0 H)(h:Iss H (ps.map lf) vs):Iss (nw H0 H) (ps.map lf) vs:=ik (λa xs e=>zW s e) h
theorem rG{H0:Hp}(s:af H0 H)(n:H0 a=none)(h:Is H (lfs ps) (.ref a)):Is (nw H0 H) (lfs ps) (.ref a):=by
 obtain⟨_,vs,e,ha,hi⟩:=aP h;cases e;exact ba (by rw[dZ n];exact ha) (zX s hi)
def Acc(H0 H:Hp)(a:KP)(xs:KW D):Prop:=∃vs,H a=some (.lst vs)/\Iss (hid (nw H0 H) a) xs vs
def Acc.start{H0:Hp}(h:H a=some (.lst [])):Acc H0 H a []:=⟨[],h,aM⟩
theorem Acc.mono{H0 H H':Hp}{a:KP}{xs:KW D}(s:af H H')(g:Acc H0 H a xs):Acc H0 H' a xs:=by obtain⟨vs,e,h⟩:=g;exact⟨vs,s _ _ e,h.mono (gd (im s))⟩
theorem rH{H0:Hp}:hid (nw H0 (upd H a o)) a=hid (nw H0 H) a:=by
 funext b
 unfold hid;split
 .rfl
 .rename_i h;unfold nw;rw[au h]
theorem Acc.add{H0 H1:Hp}{xs:KW D}{x:D}(s01:af H0 H1)(s12:af H1 H2)(ha:H1 a=some (.lst vs))(h:Iss (hid (nw H0 H1) a) xs vs)(k:Is (nw H1 H2) x v):Acc H0 (upd H2 a (.lst (vs++[v]))) a (xs++[x]):=
 ⟨vs++[v],am,by rw[rH];exact(h.mono (gd (im s12))).append (aT (k.mono (kt s01 ha)) aM)⟩
theorem Acc.adds{H0 H1:Hp}{xs ys:KW D}{us:KW V}(s01:af H0 H1)(s12:af H1 H2)(ha:H1 a=some (.lst vs))(h:Iss (hid (nw H0 H1) a) xs vs)(k:Iss (nw H1 H2) ys us):Acc H0 (upd H2 a (.lst (vs++us))) a (xs++ys):=
 ⟨vs++us,am,by rw[rH];exact(h.mono (gd (im s12))).append (k.mono (kt s01 ha))⟩
theorem Acc.is{H0:Hp}{xs:KW D}(n:H0 a=none)(g:Acc H0 H a xs):Is (nw H0 H) (.l xs) (.ref a):=by obtain⟨_,e,h⟩:=g;exact ba (by rw[dZ n];exact e) (h.mono wM)
def bY(p:Lf):Int:=(p.2.1-p.1)*p.2.2-1
def dJ(f j:Int)(n:Nat)(sp:Int):KW Lf:=((List.range n).map λw:Nat=>((f,j,1+(w:Int)):Lf)).filter λp=>decide (bY p<=sp)
def cU(f:Int)(m n:Nat)(sp:Int):KW Lf:=(List.range m).flatMap λi:Nat=>dJ f (f+1+(i:Int)) n sp
def cz:Nat->KW Lf->Int->Int->KW (KW Lf)
 |0,_,_,_=>[[]]
 |n+1,ls,wt,sp=>[[]]++(List.range ls.length).flatMap λi=>match ls[i]? with
  |none=>[]
  |some p=>if p.2.2<=wt/\bY p<=sp then(cz n (ls.drop i) (wt-p.2.2) (sp-bY p)).map (p:: ·) else []
def cV(n:Nat)(ls:KW Lf)(wt sp:Int)(i:Nat):KW (KW Lf):=match ls[i]? with
  |none=>[]
  |some p=>if p.2.2<=wt/\bY p<=sp then(cz n (ls.drop i) (wt-p.2.2) (sp-bY p)).map (p:: ·) else []
def mz(n:Nat)(ls:KW Lf)(wt sp:Int):cz (n+1) ls wt sp=[[]]++(List.range ls.length).flatMap (cV n ls wt sp):=rfl
def thF(d f:Nat)(ps:KW Lf):Int:=(bi d ps).getD (f-1) 0
def et(d f:Nat)(th sp:Int)(ls:KW Lf):Int:=sp-(ls.map bY).sum-(th-(ls.map (·.2.2)).sum)*((d:Int)-(f:Int))
def fP(d f:Nat)(th sp:Int):KW (KW Lf):=cz 8 (cU f (d-f) th.toNat sp) th sp
def dr(d f:Nat)(ps:KW Lf)(sp:Int):KW (KW Lf×Int):=((fP d f (thF d f ps) sp).filter λls=>decide (0<=et d f (thF d f ps) sp ls)).map λls=>(ps++ls,et d f (thF d f ps) sp ls)
def bI(d:Nat)(k:Int):Nat->KW (KW Lf×Int)
 |0=>[([],k)]
 |f+1=>(bI d k f).flatMap λx=>dr d (f+1) x.1 x.2
def dt(d k:Nat):KW (KW Lf):=((bI d k d).filter λx=>decide (x.2=0)).map (·.1)
def io(d:Nat)(p:Lf):Bool:=decide (1<=p.1)&&decide (p.1<p.2.1)&&decide (p.2.1<=d)&&decide (1<=p.2.2)&&decide (p.2.2<=8)
def stB(d f:Nat)(x:KW Lf×Int):Bool:=x.1.all (io d)&&decide (x.1.length<=20)&&decide (0<=thF d (f+1) x.1)&&decide (thF d (f+1) x.1<8)&&decide (0<=x.2)&&decide (x.2<=6)&&decide ((fP d (f+1) (thF d (f+1) x.1) x.2).length<=200)
def okB(d k:Nat):Bool:=(List.range d).all (λf=>(bI d k f).all (stB d f)&&decide ((bI d k (f+1)).length<=900))&&(bI d k d).all λx=>decide (x.1.length<=20)
def Wide(d k:Nat):Prop:=1<=d/\((d<=4/\k<=6)\/(d=5/\k<=3))
theorem rJ(f j:Int)(n:Nat)(sp:Int):dJ f j (n+1) sp=dJ f j n sp++(if bY (f,j,1+(n:Int))<=sp then [(f,j,1+(n:Int))] else []):=by
 unfold dJ;rw[List.range_succ,AO,Cb];by_cases h:bY (f,j,1+(n:Int))<=sp<;>simp[h]
theorem rK(f:Int)(m n:Nat)(sp:Int):cU f (m+1) n sp=cU f m n sp++dJ f (f+1+(m:Int)) n sp:=by
 unfold cU;rw[List.range_succ,CS];simp
theorem rL(f j:Int)(n:Nat)(sp:Int):(dJ f j n sp).length<=n:=by
 unfold dJ;exact Am (List.length_filter_le _ _) (by simp)
theorem mB(f:Int)(n:Nat)(sp:Int):∀m,(cU f m n sp).length<=m*n
 |0=>by simp[cU]
 |m+1=>by
  rw[rK,AX,Nat.succ_mul];have:=mB f n sp m;have:=rL f (f+1+(m:Int)) n sp;lia
theorem mC{f:Int}(h:p∈cU f m n sp):p.1=f/\f<p.2.1/\p.2.1<=f+m/\1<=p.2.2/\p.2.2<=n:=by
 unfold cU dJ at h;simp only[AZ,Ak,List.mem_filter,Ad] at h;obtain⟨i,hi,⟨w,hw,rfl⟩,_⟩:=h;refine⟨rfl,?_,?_,?_,?_⟩
 .show f<f+1+(i:Int);lia
 .show f+1+(i:Int)<=f+m;lia
 .show 1<=1+(w:Int);lia
 .show 1+(w:Int)<=n;lia
theorem gw{α:Type}(g:Nat->KW α)(i:Nat):(List.range (i+1)).flatMap g=(List.range i).flatMap g++g i:=by
 rw[List.range_succ,CS];simp
theorem ku{α:Type}(g:Nat->KW α):∀{m i:Nat},i<m->((List.range i).flatMap g).length+(g i).length<=((List.range m).flatMap g).length
 |0,i,h=>absurd h (by lia)
 |m+1,i,h=>by
  rw[gw,AX];by_cases e:i=m
  .rw[e];exact A8 _
  .have:=ku g (m:=m) (i:=i) (by lia);lia
theorem zY{ls:KW Lf}{wt:Int}{x:KW Lf}(h:x∈cz (n+1) ls wt sp):x=[]\/∃(i:Nat) (p:Lf) (r:KW Lf),ls[i]? =some p/\p.2.2<=wt/\bY p<=sp/\r∈cz n (ls.drop i) (wt-p.2.2) (sp-bY p)/\x=p::r:=by
 rw[mz] at h;rcases Br.mp h with h|h
 .exact .inl (An.mp h)
 .obtain⟨i,hi,h⟩:=AZ.mp h;unfold cV at h;split at h
  .cases h
  .rename_i p hp;split at h
   .rename_i c;obtain⟨r,hr,rfl⟩:=Ad.mp h;exact .inr ⟨i,p,r,hp,c.1,c.2,hr,rfl⟩
   .cases h
theorem mD:∀{n:Nat}{ls:KW Lf}{wt sp:Int}{x:KW Lf},(∀p∈ls,1<=p.2.2)->0<=wt->x∈cz n ls wt sp->x.length<=n/\0<=(x.map (·.2.2)).sum/\(x.map (·.2.2)).sum<=wt/\∀p∈x,p∈ls
 |0,ls,wt,sp,x,_,h0,h=>by
  rw[cz] at h;rw[An.mp h];exact⟨by simp,by simp,by simpa using h0,λp hp=>nomatch hp⟩
 |n+1,ls,wt,sp,x,hw,h0,h=>by
  rcases zY h with rfl|⟨i,p,r,hp,c1,c2,hr,rfl⟩
  .exact⟨by simp,by simp,by simpa using h0,λp hp=>nomatch hp⟩
  .have pm:=Aa hp;have p1:=hw p pm;obtain⟨a,b,c,d⟩:=mD (λq hq=>hw q (CI hq)) (by lia) hr;refine⟨by rw[AN];lia,?_,?_,λq hq=>?_⟩
   .rw[AM,B5];lia
   .rw[AM,B5];lia
   .rcases AH.mp hq with rfl|hq
    .exact pm
    .exact CI (d q hq)
theorem mE :io d p=true↔1<=p.1/\p.1<p.2.1/\p.2.1<=d/\1<=p.2.2/\p.2.2<=8:=by
 unfold io;simp only[AB,Aj];constructor
 .rintro⟨⟨⟨⟨a,b⟩,c⟩,d⟩,e⟩;exact⟨a,b,c,d,e⟩
 .rintro⟨a,b,c,d,e⟩;exact⟨⟨⟨⟨a,b⟩,c⟩,d⟩,e⟩
theorem zZ{f:Nat}{x:KW Lf×Int}(h:stB d f x=true):(∀p∈x.1,io d p=true)/\x.1.length<=20/\0<=thF d (f+1) x.1/\thF d (f+1) x.1<8/\0<=x.2/\x.2<=6/\(fP d (f+1) (thF d (f+1) x.1) x.2).length<=200:=by
 unfold stB at h;simp only[AB,Aj,AG] at h;obtain⟨⟨⟨⟨⟨⟨a,b⟩,c⟩,d⟩,e⟩,f⟩,g⟩:=h;exact⟨a,b,c,d,e,f,g⟩
theorem Da(h:okB d k=true):(∀f<d,(∀x∈bI d k f,stB d f x=true)/\(bI d k (f+1)).length<=900)/\∀x∈bI d k d,x.1.length<=20:=by
 unfold okB at h;simp only[AB,Aj,AG,Ak] at h;exact h
theorem Db(p q:Lf):ltI (aO p) (aO q)=bv p q:=by
 unfold bv ltI aO;simp only[cx,AN,List.length_nil];split
 .split
  .split
   .rename_i h;simp[h]
   .rfl
  .rfl
 .rfl
def Srt(ps:KW Lf):Prop:=ps.Pairwise λa b=>bv b a=false
structure Snd(d:Nat)(ps:KW Lf):Prop where
 ok:∀p∈ps,1<=p.1/\p.1<p.2.1/\p.2.1<=d/\1<=p.2.2
 nn:∀i:Nat,i<d->0<=1+fN ps (1+(i:Int))-fO ps (1+(i:Int))
 so:Srt ps
def eF(ps:KW Lf)(i:Nat):Int:=1+fN ps (1+(i:Int))-fO ps (1+(i:Int))
theorem Dc(h:∀p∈ps,Okl d p)(hi:i<d):(bi d ps).getD i 0=eF ps i:=by
 have:=(km ps (List.replicate d 1) (by simp) h).2 i;unfold bi;rw[this];unfold eF;have:(List.replicate d (1:Int)).getD i 0=1:=by simp[List.getD,hi]
 rw[this]
def gj(d:Nat)(ps:KW Lf):Prop:=(∀p∈ps,1<=p.1/\p.1<p.2.1/\p.2.1<=d/\1<=p.2.2)/\∀i:Nat,i<d->0<=eF ps i
theorem gj.okl(h:gj d ps):∀p∈ps,Okl d p:=λp hp=>by
 obtain⟨a,b,c,_⟩:=h.1 p hp;exact⟨a,by lia,by lia,c⟩
def eX(x:Lf):KW Lf->KW Lf
 |[]=>[x]
 |y::ys=>if bv x y then x::y::ys else if x=y then y::ys else y::eX x ys
def cW(xs:KW Lf):KW Lf:=xs.foldr eX []
def eY(d:Nat)(es:KW Int)(i:Nat):KW Lf:=List.replicate (es.getD i 0).toNat (1+(i:Int),(d:Int)+1,1)
def eu(d:Nat)(es:KW Int):KW Lf:=(List.range d).flatMap (eY d es)
theorem mF :bv p q=true↔p.1<q.1\/(p.1=q.1/\(p.2.1<q.2.1\/(p.2.1=q.2.1/\p.2.2<q.2.2))):=by
 unfold bv;by_cases e0:p.1=q.1
 .by_cases e1:p.2.1=q.2.1
  .simp[e0,e1]
  .simp[e0,e1]
 .simp[e0]
theorem kx :¬bv p p=true:=by rw[mF];lia
theorem rM{r:Lf}(h:bv p q=true)(k:bv q r=true):bv p r=true:=by rw[mF] at*;lia
theorem rN(h:¬bv p q=true)(k:p≠q):bv q p=true:=by
 rw[mF] at*
 obtain⟨a,b,c⟩:=p;obtain⟨d,e,f⟩:=q;simp only[ne_eq,Prod.mk.injEq,not_and] at*
 lia
theorem mG{x z:Lf}:∀{ys:KW Lf},z∈eX x ys↔z=x\/z∈ys
 |[]=>by simp[eX]
 |y::ys=>by
  unfold eX;split
  .simp
  .split
   .rename_i e;subst e;simp
   .simp[mG (ys:=ys)];constructor
    .rintro(h|h|h)
     .exact .inr (.inl h)
     .exact .inl h
     .exact .inr (.inr h)
    .rintro(h|h|h)
     .exact .inr (.inl h)
     .exact .inl h
     .exact .inr (.inr h)
theorem rO{x:Lf}:∀{ys:KW Lf},(ys.Pairwise λa b=>bv a b=true)->(eX x ys).Pairwise λa b=>bv a b=true
 |[],_=>by simp[eX]
 |y::ys,h=>by
  unfold eX;split
  .rename_i e;refine List.Pairwise.cons (λz hz=>?_) h;rcases AH.mp hz with rfl|hz
   .exact e
   .exact rM e ((C5.mp h).1 z hz)
  .split
   .exact h
   .rename_i e1 e2;refine List.Pairwise.cons (λz hz=>?_) (rO (C5.mp h).2);rcases mG.mp hz with rfl|hz
    .exact rN e1 e2
    .exact(C5.mp h).1 z hz
theorem mH{z:Lf}:∀{xs:KW Lf},z∈cW xs↔z∈xs
 |[]=>by simp[cW]
 |x::xs=>by
  have:=mH (z:=z) (xs:=xs);unfold cW at this⊢;rw[List.foldr_cons,mG,this,AH]
theorem mI:∀(xs:KW Lf),(cW xs).Pairwise λa b=>bv a b=true
 |[]=>by simp[cW]
 |x::xs=>by
  have:=mI xs;unfold cW at this⊢;rw[List.foldr_cons];exact rO this
theorem rP:∀{xs ys:KW Lf},(xs.Pairwise λa b=>bv a b=true)->(ys.Pairwise λa b=>bv a b=true)->(∀z,z∈xs↔z∈ys)->xs=ys
 |[],[],_,_,_=>rfl
 |[],y::ys,_,_,h=>absurd ((h y).mpr (by simp)) (by simp)
 |x::xs,[],_,_,h=>absurd ((h x).mp (by simp)) (by simp)
 |x::xs,y::ys,h1,h2,h=>by
  have a1:=C5.mp h1;have a2:=C5.mp h2;have e:x=y:=by
   refine Classical.byContradiction λne=>?_;have m1:x∈ys:=by rcases AH.mp ((h x).mp (by simp)) with e|e;exact absurd e ne;exact e
   have m2:y∈xs:=by rcases AH.mp ((h y).mpr (by simp)) with e|e;exact absurd e.symm ne;exact e
   exact kx (rM (a1.1 y m2) (a2.1 x m1))
  subst e;have:xs=ys:=rP a1.2 a2.2 λz=>by
   have hz:=h z;rw[AH,AH] at hz;constructor
   .intro m;rcases hz.mp (.inr m) with e|e
    .subst e;exact absurd (a1.1 z m) kx
    .exact e
   .intro m;rcases hz.mpr (.inr m) with e|e
    .subst e;exact absurd (a2.1 z m) kx
    .exact e
  rw[this]
theorem rQ(h:aO p=aO q):p=q:=by rw[<-mx p,<-mx q,h]
theorem Dd(nd:GF.Nodup)(mem:∀z,z∈GF↔z∈ps.map aO)(so:∀i j,i<j->j<GF.length->ltI (GF.getD j []) (GF.getD i [])=false):GF=(cW ps).map aO:=by
 obtain⟨qs,e,hq⟩:=me (f:=aO) (P:=λp=>p∈ps) GF λv hv=>by
  obtain⟨p,hp,rfl⟩:=Ad.mp ((mem v).mp hv);exact⟨p,hp,rfl⟩
 subst e;have:qs=cW ps:=by
  refine rP ?_ (mI ps) λz=>?_
  .rw[Bp];intro i j hi hj He;have h1:=so i j He (by rw[A3];exact hj);rw[A7,A7,AF,AF,A1 hi,A1 hj] at h1;simp only[Option.map_some,Option.getD_some] at h1;rw[Db] at h1;refine rN (by rw[h1];simp) λe=>?_;unfold List.Nodup at nd;rw[List.pairwise_map,Bp] at nd;exact nd i j hi hj He (by rw[e])
  .rw[mH];constructor
   .exact hq z
   .intro hz;obtain⟨q,Jk,e⟩:=Ad.mp ((mem (aO z)).mpr (List.mem_map_of_mem hz));rw[<-rQ e];exact Jk
 rw[this]
def chF(n:Int):Nat->Int
 |0=>1
 |k+1=>chF n k*(n-(k:Int))/((k:Int)+1)
def chB:Bool:=(List.range 16).all λn=>(List.range (n+1)).all λk=>decide (0<=chF (n:Int) k)&&decide (chF (n:Int) k<=6435)
theorem De:chB=true:=by ac_nf
theorem rR{n:Int}(h1:(k:Int)<=n)(h2:n<=15):0<=chF n k/\chF n k<=6435:=by
 obtain⟨m,rfl⟩:=AK (show 0<=n by lia);have h:=De;unfold chB at h;rw[AG] at h;have h:=h m (Ak.mpr (by lia));rw[AG] at h;have h:=h k (Ak.mpr (by lia));simpa using h
def wmF(t:KW Int)(p:Nat)(m:Int):KW Int:=t.set p (t.getD p 0+m)
theorem ip(t:KW Int)(p:Nat)(m:Int):(wmF t p m).length=t.length:=by unfold wmF;rw[BU]
theorem mJ{t:KW Int}{p:Nat}{m:Int}(h:p<t.length):(wmF t p m).getD i 0=t.getD i 0+if p=i then m else 0:=by
 unfold wmF;rw[A7,List.getElem?_set];by_cases e:p=i
 .subst e;simp[h]
 .simp[e]
theorem Df{t:KW Int}{p:Nat}{x:Int}(h:p<t.length):t.take p++[x]++t.drop (p+1)=t.set p x:=by
 rw[List.set_eq_take_append_cons_drop,A9 h];simp
def spR:Nat->Nat->KW (KW Nat)
 |0,a=>[[a]]
 |g+1,a=>(List.range (a+1)).flatMap λh=>(spR g (a-h)).map (h:: ·)
def bZ(t:KW Int):Nat->KW Nat->Int
 |_,[]=>1
 |p,s::r=>chF (t.getD p 0+(s:Int)) s*bZ t (p+1) r
def ck(t:KW Int):Nat->KW Nat->KW Int
 |_,[]=>t
 |p,s::r=>ck (wmF t p (s:Int)) (p+1) r
theorem rS{t:KW Int}{m:Int}{q:Nat}(hq:q<t.length):∀{r:KW Nat}{p:Nat},q<p->bZ (wmF t q m) p r=bZ t p r
 |[],p,_=>rfl
 |s::r,p,h=>by
  unfold bZ;rw[mJ hq,A6 (by lia),rS hq (r:=r) (by lia)];simp
def pbF:Nat->KW Int->Nat->Nat->KW (KW Int×Int)
 |0,t,p,a=>[(wmF t p (a:Int),chF (t.getD p 0+(a:Int)) a)]
 |g+1,t,p,a=>(List.range (a+1)).flatMap λh:Nat=>(pbF g (wmF t p (h:Int)) (p+1) (a-h)).map λx=>(x.1,chF (t.getD p 0+(h:Int)) h*x.2)
theorem rT{α β:Type}{f g:α->KW β}:∀{xs:KW α},(∀x∈xs,f x=g x)->xs.flatMap f=xs.flatMap g
 |[],_=>rfl
 |x::xs,h=>by rw[List.flatMap_cons,List.flatMap_cons,h x (by simp),rT λy hy=>h y (by simp[hy])]
theorem rV:∀{g:Nat}{t:KW Int}{p a:Nat},p+g<t.length->pbF g t p a=(spR g a).map λr=>(ck t p r,bZ t p r)
 |0,t,p,a,_=>by simp[pbF,spR,ck,bZ]
 |g+1,t,p,a,h=>by
  unfold pbF spR;rw[List.map_flatMap];refine rT λx _=>?_;rw[rV (by rw[ip];lia),BA,BA];refine Bf λr _=>?_;simp only[Function.comp,ck,bZ];rw[rS (by lia) (B8 p)]
theorem mK:∀{g a:Nat}{r:KW Nat},r∈spR g a->r.length=g+1/\r.sum=a
 |0,a,r,h=>by simp[spR] at h;subst h;simp
 |g+1,a,r,h=>by
  unfold spR at h;obtain⟨x,hx,h⟩:=AZ.mp h;obtain⟨r',h',rfl⟩:=Ad.mp h;have hx:=Ak.mp hx;obtain⟨e1,e2⟩:=mK h';simp[e1,e2];lia
theorem mL:∀{t:KW Int}{p:Nat}{m:Int},p<t.length->(wmF t p m).sum=t.sum+m
 |[],p,m,h=>absurd h (by simp)
 |x::t,0,m,_=>by simp[wmF];lia
 |x::t,p+1,m,h=>by
  have:=mL (t:=t) (p:=p) (m:=m) (by simpa using h);unfold wmF at this⊢;simp only[List.set_cons_succ,B5,List.getD_cons_succ] at this⊢;lia
theorem rW:∀{r:KW Nat}{t:KW Int}{p:Nat},p+r.length<=t.length->(∀i:Nat,0<=t.getD i 0)->(ck t p r).length=t.length/\(ck t p r).sum=t.sum+(r.sum:Nat)/\∀i:Nat,0<=(ck t p r).getD i 0
 |[],t,p,_,h=>by simpa[ck] using h
 |s::r,t,p,hl,h=>by
  have hp:p<t.length:=by simp at hl;lia
  obtain⟨e1,e2,e3⟩:=rW (r:=r) (t:=wmF t p (s:Int)) (p:=p+1) (by rw[ip];simp at hl;lia) (λi=>by rw[mJ hp];have:=h i;split<;>lia)
  unfold ck;refine⟨by rw[e1,ip],?_,e3⟩;rw[e2,mL hp,B5];lia
theorem gz:∀{t:KW Int},(∀i:Nat,0<=t.getD i 0)->0<=t.sum/\∀i:Nat,t.getD i 0<=t.sum
 |[],_=>by simp
 |x::t,h=>by
  have hx:=h 0;obtain⟨e1,e2⟩:=gz (t:=t) λi=>by have:=h (i+1);simpa using this
  simp only[List.getD_cons_zero] at hx;rw[B5];refine⟨by lia,λi=>?_⟩;cases i with
  |zero=>simp;lia
  |succ i=>have:=e2 i;rw[List.getD_cons_succ];lia
theorem rX:∀{r:KW Nat}{t:KW Int}{p:Nat},(∀i:Nat,0<=t.getD i 0)->t.sum+(r.sum:Nat)<=15->0<=bZ t p r/\bZ t p r<=6435^r.length
 |[],t,p,_,_=>by simp[bZ]
 |s::r,t,p,h,hs=>by
  rw[B5] at hs;obtain⟨e1,e2⟩:=gz h;have a1:=e2 p;have a2:=h p;obtain⟨c1,c2⟩:=rR (n:=t.getD p 0+(s:Int)) (k:=s) (by lia) (by lia);obtain⟨q1,q2⟩:=rX (r:=r) (t:=t) (p:=p+1) h (by lia);unfold bZ;refine⟨Int.mul_nonneg c1 q1,?_⟩;rw[AN,Int.pow_succ,Int.mul_comm];exact Int.mul_le_mul q2 c2 c1 (Int.pow_nonneg (by decide))
abbrev Tab:=KW (KW Int×Int)
def bw(D:Tab)(g:KW Int->Int):Int:=(D.map λx=>x.2*g x.1).sum
def cI(D:Tab)(k:KW Int):Int:=((D.find? λx=>decide (x.1=k)).map (·.2)).getD 0
def dL(D:Tab)(k:KW Int)(v:Int):Tab:=if(D.any λx=>decide (x.1=k))=true then D.map (λx=>if x.1=k then(x.1,v) else x) else D++[(k,v)]
def gC(D:Tab)(k:KW Int)(v:Int):Tab:=dL D k (cI D k+v)
theorem rY(D:Tab)(k:KW Int)(v:Int):(dL D k v).map (·.1)=if k∈D.map (·.1) then D.map (·.1) else D.map (·.1)++[k]:=by
 unfold dL;have:(D.any λx=>decide (x.1=k))=true↔k∈D.map (·.1):=by
  rw[List.any_eq_true,Ad];simp
 by_cases h:k∈D.map (·.1)
 .rw[A9 h,A9 (this.mpr h),BA];refine Bf λx _=>?_;simp only[Function.comp];split<;>rfl
 .rw[A6 h,A6 (λz=>h (this.mp z)),AO];rfl
theorem Dg{D:Tab}{k:KW Int}{v:Int}{g:KW Int->Int}(h:k∉D.map (·.1)):bw (dL D k v) g=bw D g+v*g k/\cI D k=0:=by
 have hn:∀x∈D,x.1≠k:=λx hx e=>h (Ad.mpr ⟨x,hx,e⟩);have e1:(D.any λx=>decide (x.1=k))=false:=by
  rw[List.any_eq_false];intro x hx;simpa using hn x hx
 have e2:D.find? (λx=>decide (x.1=k))=none:=by
  rw[List.find?_eq_none];intro x hx;simpa using hn x hx
 unfold dL cI bw;rw[e1,e2];simp
theorem rZ:∀{D:Tab}{k:KW Int}{v:Int}{g:KW Int->Int},(D.map (·.1)).Nodup->k∈D.map (·.1)->bw (D.map λx=>if x.1=k then(x.1,v) else x) g=bw D g+(v-cI D k)*g k
 |[],_,_,_,_,h=>by simp at h
 |x::D,k,v,g,nd,h=>by
  rw[AM,Bd] at nd;by_cases e:x.1=k
  .subst e;have hn:∀y∈D,y.1≠x.1:=λy hy e=>nd.1 (Ad.mpr ⟨y,hy,e⟩);have e1:(D.map λy=>if y.1=x.1 then(y.1,v) else y)=D:=by
    conv=>rhs;rw[<-List.map_id D]
    refine Bf λy hy=>?_;rw[A6 (hn y hy)];rfl
   have e2:cI (x::D) x.1=x.2:=by simp[cI]
   rw[AM,e1,e2];simp only[bw,Bh,AM,B5];rw[Int.sub_mul];lia
  .have hk:k∈D.map (·.1):=by
    rw[AM,AH] at h;rcases h with h|h
    .exact absurd h.symm e
    .exact h
   have ih:=rZ (g:=g) (v:=v) nd.2 hk;have e2:cI (x::D) k=cI D k:=by simp[cI,BV,e]
   rw[e2,AM];simp only[bw,AM,B5,A6 e] at ih⊢;lia
theorem Dh{D:Tab}(nd:(D.map (·.1)).Nodup)(k:KW Int)(v:Int)(g:KW Int->Int):bw (gC D k v) g=bw D g+v*g k:=by
 unfold gC;by_cases h:k∈D.map (·.1)
 .have e:(D.any λx=>decide (x.1=k))=true:=by
   rw[List.any_eq_true];obtain⟨x,hx,e⟩:=Ad.mp h;exact⟨x,hx,B3 e⟩
  unfold dL;rw[A9 e,rZ nd h];rw[show cI D k+v-cI D k=v by lia]
 .obtain⟨e1,e2⟩:=Dg (v:=cI D k+v) (g:=g) h;rw[e1,e2];simp
theorem Di{D:Tab}(nd:(D.map (·.1)).Nodup)(k:KW Int)(v:Int):((dL D k v).map (·.1)).Nodup:=by
 rw[rY];split
 .exact nd
 .rename_i h;rw[List.nodup_append];exact⟨nd,by simp,λa ha b hb=>by simp at hb;subst hb;exact λe=>h (e▸ha)⟩
structure TabOk(d n:Nat)(D:Tab):Prop where
 nd:(D.map (·.1)).Nodup
 key:∀x∈D,x.1.length=d/\x.1.sum=(n:Int)/\∀i:Nat,0<=x.1.getD i 0
theorem TabOk.add{D:Tab}(h:TabOk d n D){k:KW Int}{v:Int}(hk:k.length=d/\k.sum=(n:Int)/\∀i:Nat,0<=k.getD i 0):TabOk d n (gC D k v):=by
 refine⟨Di h.nd _ _,λx hx=>?_⟩;have:x.1∈(dL D k (cI D k+v)).map (·.1):=List.mem_map_of_mem hx;rw[rY] at this;have:x.1∈D.map (·.1)\/x.1=k:=by
  split at this
  .exact .inl this
  .rcases Br.mp this with h|h
   .exact .inl h
   .exact .inr (by simpa using h)
 rcases this with h'|h'
 .obtain⟨y,hy,e⟩:=Ad.mp h';rw[<-e];exact h.key y hy
 .rw[h'];exact hk
def inP(t:KW Int)(v:Int)(p:Nat)(rs:KW (KW Nat))(acc:Tab):Tab:=rs.foldl (λacc r=>gC acc (ck t p r) (v*bZ t p r)) acc
def stP(p:Nat)(rs:KW (KW Nat))(xs acc:Tab):Tab:=xs.foldl (λacc x=>inP x.1 x.2 p rs acc) acc
def gD(g:KW Int->Int)(p:Nat)(rs:KW (KW Nat))(t:KW Int):Int:=(rs.map λr=>bZ t p r*g (ck t p r)).sum
def mM(p d n n':Nat)(rs:KW (KW Nat)):Prop:=∀r∈rs,p+r.length<=d/\n+r.sum=n'
theorem Dj{n' p:Nat}{t:KW Int}(h:t.length=d/\t.sum=(n:Int)/\∀i:Nat,0<=t.getD i 0)(hr:p+r.length<=d/\n+r.sum=n'):(ck t p r).length=d/\(ck t p r).sum=(n':Int)/\∀i:Nat,0<=(ck t p r).getD i 0:=by
 obtain⟨e1,e2,e3⟩:=rW (r:=r) (t:=t) (p:=p) (by rw[h.1];exact hr.1) h.2.2;exact⟨by rw[e1,h.1],by rw[e2,h.2.1,<-hr.2];lia,e3⟩
theorem mO{d n n' p:Nat}{t:KW Int}{v:Int}(h:t.length=d/\t.sum=(n:Int)/\∀i:Nat,0<=t.getD i 0)(g:KW Int->Int):∀{rs:KW (KW Nat)}{acc:Tab},mM p d n n' rs->TabOk d n' acc->TabOk d n' (inP t v p rs acc)/\bw (inP t v p rs acc) g=bw acc g+v*gD g p rs t
 |[],acc,_,ha=>by simp[inP,gD,ha]
 |r::rs,acc,hr,ha=>by
  have a1:=ha.add (v:=v*bZ t p r) (Dj h (hr r (by simp)));obtain⟨b1,b2⟩:=mO (v:=v) h g (rs:=rs) (λr' h'=>hr r' (by simp[h'])) a1;refine⟨b1,?_⟩;show bw (inP t v p rs (gC acc (ck t p r) (v*bZ t p r))) g=_;rw[b2,Dh ha.nd];simp only[gD,AM,B5];rw[Int.mul_add,Int.mul_assoc];lia
theorem mP{d n n' p:Nat}{rs:KW (KW Nat)}(hr:mM p d n n' rs)(g:KW Int->Int):∀{xs acc:Tab},(∀x∈xs,x.1.length=d/\x.1.sum=(n:Int)/\∀i:Nat,0<=x.1.getD i 0)->TabOk d n' acc->TabOk d n' (stP p rs xs acc)/\bw (stP p rs xs acc) g=bw acc g+bw xs (gD g p rs)
 |[],acc,_,ha=>by simp[stP,bw,ha]
 |x::xs,acc,hx,ha=>by
  obtain⟨a1,a2⟩:=mO (v:=x.2) (hx x (by simp)) g hr ha;obtain⟨b1,b2⟩:=mP hr g (xs:=xs) (λy hy=>hx y (by simp[hy])) a1;refine⟨b1,?_⟩;show bw (stP p rs xs (inP x.1 x.2 p rs acc)) g=_;rw[b2,a2];simp only[bw,AM,B5];lia
def TF(cnt:Lf->Nat):KW Lf->KW Int->Int
 |[],_=>1
 |m::ms,t=>gD (TF cnt ms) (m.1-1).toNat (spR (m.2.1-m.1-1).toNat (cnt m)) t
def hmF(d:Nat)(mk:KW Lf):Int:=TF (λm=>mk.count m) (cW mk) (List.replicate d 0)
theorem Dk(D:Tab):bw D (λ_=>1)=(D.map (·.2)).sum:=by
 unfold bw;congr 1
 refine Bf λx _=>?_;show x.2*1=x.2;lia
def enc:KW Int->Nat
 |[]=>0
 |x::t=>x.toNat+16*enc t
theorem r0:∀{t:KW Int},(∀i:Nat,0<=t.getD i 0/\t.getD i 0<=15)->enc t<16^t.length
 |[],_=>by simp[enc]
 |x::t,h=>by
  have h0:=h 0;have ih:=r0 (t:=t) λi=>by have:=h (i+1);simpa using this
  simp only[List.getD_cons_zero] at h0;unfold enc;rw[AN,Nat.pow_succ];lia
theorem r6:∀{t u:KW Int},t.length=u.length->(∀i:Nat,0<=t.getD i 0/\t.getD i 0<=15)->(∀i:Nat,0<=u.getD i 0/\u.getD i 0<=15)->enc t=enc u->t=u
 |[],[],_,_,_,_=>rfl
 |[],_::_,h,_,_,_=>absurd h (by simp)
 |_::_,[],h,_,_,_=>absurd h (by simp)
 |x::t,y::u,hl,ht,hu,e=>by
  have h0:=ht 0;have h1:=hu 0;simp only[List.getD_cons_zero] at h0 h1;unfold enc at e;have ih:=r6 (t:=t) (u:=u) (by simpa using hl) (λi=>by have:=ht (i+1);simpa using this) (λi=>by have:=hu (i+1);simpa using this) (by lia);rw[ih,show x=y by lia]
theorem r9:∀(N:Nat) (xs:KW Nat),xs.Nodup->(∀x∈xs,x<N)->xs.length<=N
 |0,[],_,_=>A8 _
 |0,x::xs,_,h=>absurd (h x (by simp)) (by lia)
 |N+1,xs,nd,h=>by
  have h1:=r9 N (xs.filter λx=>decide (x≠N)) (nd.filter _) λx hx=>by
   obtain⟨a,b⟩:=List.mem_filter.mp hx;have:=h x a;have:x≠N:=by simpa using b
   lia
  have h2:xs.length<=(xs.filter λx=>decide (x≠N)).length+1:=by
   clear h1 h;induction xs with
   |nil=>simp
   |cons y ys ih=>
    rw[Bd] at nd;by_cases e:y=N
    .subst e;have:(ys.filter λx=>decide (x≠y))=ys:=by
      rw[List.filter_eq_self];intro z hz;simp;rintro rfl;exact nd.1 hz
     rw[List.filter_cons,A6 (by simp),this,AN];exact A8 _
    .have:=ih nd.2;rw[List.filter_cons,A9 (by simpa using e),AN,AN];lia
  lia
theorem TabOk.size{D:Tab}(h:TabOk d n D)(hd:d<=5)(hn:n<=15):D.length<=1048576:=by
 have hb:∀x∈D,∀i:Nat,0<=x.1.getD i 0/\x.1.getD i 0<=15:=λx hx i=>by
  obtain⟨_,e2,e3⟩:=h.key x hx;have:=(gz e3).2 i;exact⟨e3 i,by lia⟩
 have:=r9 (16^d) (D.map λx=>enc x.1) ?_ ?_
 .rw[A3] at this;have:16^d<=16^5:=Nat.pow_le_pow_right (by decide) hd;lia
 .have nd:=h.nd;unfold List.Nodup at nd⊢;rw[List.pairwise_map] at nd⊢;refine List.Pairwise.imp_of_mem (fun{a b} ha Iz Hi e=>Hi ?_) nd;exact r6 (by rw[(h.key a ha).1,(h.key b Iz).1]) (hb a ha) (hb b Iz) e
 .intro x hx;obtain⟨y,hy,rfl⟩:=Ad.mp hx;have:=r0 (hb y hy);rw[(h.key y hy).1] at this;exact this
def bA(t:KW Int):KW Key:=t.map Sum.inl
theorem ky(t:KW Int):(bA t).map kV=t.map V.int:=by unfold bA;rw[BA];rfl
theorem sd:∀{t u:KW Int},bA t=bA u->t=u
 |[],[],_=>rfl
 |[],_::_,h=>by simp[bA] at h
 |_::_,[],h=>by simp[bA] at h
 |x::t,y::u,h=>by
  simp only[bA,AM,C7,Sum.inl.injEq] at h;rw[h.1,sd (t:=t) (u:=u) h.2]
theorem mQ{t u:KW Int}:bA t=bA u↔t=u:=⟨sd,λe=>by rw[e]⟩
def aY(D:Tab):KW (KW Key×V):=D.map λx=>(bA x.1,V.int x.2)
theorem sf(D:Tab):(aY D).length=D.length:=by unfold aY;rw[A3]
theorem si(D:Tab)(k:KW Int)(v:Int):cg (aY D) (bA k) (.int v)=aY (dL D k v):=by
 have e:((aY D).any λkv=>decide (kv.1=bA k))=(D.any λx=>decide (x.1=k)):=by
  unfold aY;rw[List.any_map];congr 1
  funext x
  simp only[Function.comp,mQ]
 unfold cg dL;rw[e];split
 .unfold aY;rw[BA,BA];refine Bf λx _=>?_;simp only[Function.comp,mQ];split<;>rfl
 .unfold aY;rw[AO];rfl
theorem sj(D:Tab)(k:KW Int):cC (aY D) (bA k)=(D.find? λx=>decide (x.1=k)).map λx=>V.int x.2:=by
 unfold cC aY;rw[List.find?_map,Option.map_map];have:((λkv:KW Key×V=>decide (kv.1=bA k))∘λx:KW Int×Int=>(bA x.1,V.int x.2))=λx=>decide (x.1=k):=by
  funext x
  simp only[Function.comp,mQ]
 rw[this];rfl
theorem Dl(D:Tab)(k:KW Int):(cC (aY D) (bA k)).getD (.int 0)=.int (cI D k):=by
 rw[sj];unfold cI;cases D.find? λx=>decide (x.1=k)<;>rfl
theorem Dm{D:Tab}(nd:(D.map (·.1)).Nodup)(h:x∈D):cC (aY D) (bA x.1)=some (.int x.2):=by
 rw[sj];have:D.find? (λy=>decide (y.1=x.1))=some x:=by
  induction D with
  |nil=>simp at h
  |cons y D ih=>
   rw[AM,Bd] at nd;rcases AH.mp h with rfl|h
   .simp
   .have:y.1≠x.1:=λe=>nd.1 (Ad.mpr ⟨x,h,e.symm⟩);rw[BV,Al this];exact ih nd.2 h
 rw[this];rfl
theorem Do(D:Tab):(aY D).map (·.2)=(D.map (·.2)).map V.int:=by unfold aY;rw[BA,BA];rfl
def prD(x:KW Int×Int):D:= .t [tI x.1,.i x.2]
theorem Dp(l:KW Lf)(x:Lf):(List.range l.length).countP (λj=>decide (l.getD j (0,0,0)=x))=l.count x:=by
 have e:(List.range l.length).map (λj=>l.getD j (0,0,0))=l:=by
  apply List.ext_getElem?;intro i;rw[AF];rcases C4 i l.length with c|c
  .rw[List.getElem?_range c];simp[List.getD,c]
  .rw[C8 (by simpa using c),C8 c];rfl
 conv=>rhs;rw[<-e]
 rw[List.count,List.countP_map];congr 1
 funext j
 simp only[Function.comp];exact(Bool.beq_eq_decide_eq _ _).symm
theorem sk:∀(l S:KW Lf),S.Nodup->(S.map λm=>l.count m).sum<=l.length
 |[],S,_=>by
  have:(S.map λm=>List.count m ([]:KW Lf))=S.map λ_=>0:=by simp
  rw[this];induction S with
  |nil=>simp
  |cons a S ih=>rename_i nd;simpa using ih (Bd.mp nd).2
 |x::l,S,nd=>by
  have ih:=sk l S nd;have:(S.map λm=>(x::l).count m).sum<=(S.map λm=>l.count m).sum+1/\(x∉S->(S.map λm=>(x::l).count m).sum=(S.map λm=>l.count m).sum):=by
   clear ih;induction S with
   |nil=>simp
   |cons a S ih=>
    obtain⟨n1,n2⟩:=Bd.mp nd;obtain⟨i1,i2⟩:=ih n2;simp only[AM,B5];by_cases e:x=a
    .subst e;have:=i2 n1;rw[List.count_cons_self];exact⟨by lia,λh=>absurd (by simp) h⟩
    .have e':List.count a (x::l)=List.count a l:=List.count_cons_of_ne e;rw[e'];exact⟨by lia,λh=>by rw[i2 (λz=>h (by simp[z]))]⟩
  rw[AN];lia
def eZ(ps:KW Lf):Int:=ps.foldl (λa p=>a*p.2.2^2) 1
def Okw(d:Nat)(p:Lf):Prop:=Okl d p/\1<=p.2.2/\p.2.2<=2^20
def kz:KW Lf->Bool
 |[]=>true
 |x::r=>r.all (λy=> !(bv y x))&&kz r
theorem sq:∀{ps:KW Lf},kz ps=true->Srt ps
 |[],_=>List.Pairwise.nil
 |x::r,h=>by
  unfold kz at h;rw[AB,AG] at h;exact C5.mpr ⟨λy hy=>by simpa using h.1 y hy,sq h.2⟩
def kA(d:Nat)(ps:KW Lf):Bool:=ps.all (io d)&&(List.range d).all (λi=>decide (0<=eF ps i))&&kz ps
theorem Dq(h:kA d ps=true):Snd d ps:=by
 unfold kA at h;simp only[AB,AG,Ak,Aj] at h;exact⟨λp hp=>by have:=mE.mp (h.1.1 p hp);lia,λi hi=>h.1.2 i hi,sq h.2⟩
def mR(d:Nat)(x:KW Lf):Bool:=kA d x&&decide (x.length<=20)&&decide (0<=eZ x)&&decide (eZ x<2^40)
theorem Dr{x:KW Lf}(h:mR d x=true):Snd d x/\(∀p∈x,Okw d p)/\x.length<=20/\0<=eZ x/\eZ x<2^40:=by
 unfold mR at h;simp only[AB,Aj] at h;obtain⟨⟨⟨h1,h2⟩,h3⟩,h4⟩:=h;refine⟨Dq h1,λp hp=>?_,h2,h3,h4⟩;unfold kA at h1;simp only[AB,AG] at h1;have:=mE.mp (h1.1.1 p hp);exact⟨⟨by lia,by lia,by lia,by lia⟩,by lia,by lia⟩
def mkD(d:Nat)(x:KW Lf):KW (KW Int):=(x++eu d (bi d x)).map aO
def mkB(d:Nat)(x:KW Lf):Bool:=((x++eu d (bi d x)).all λm=>decide (1<=m.1)&&decide (m.1<m.2.1)&&decide (m.2.1<=(d:Int)+1))&&decide ((x++eu d (bi d x)).length<=15)&&ssB (mkD d x)
def chG(n:Int):Nat->Int
 |0=>1
 |i+1=>chG n i*(n-(0+(i:Int)))/((0+(i:Int))+1)
def cho(n k:Int):Int:=if k<0\/k>n then 0 else chG n k.toNat
def whT:KW Int:=[0,1,1,12,620,87304,26312976,14616808192,13525751027392]
def wh(z:Int):Int:=whT.getD z.toNat 0
def gE(d e:Int):Int:=(d-e)*cho (3*d-4) (3*e-2)-e*cho (3*d-4) (3*e-1)
def kC(d:Int):Nat->Int
 |0=>0
 |m+1=>kC d m+wh (1+(m:Int))*wh (d-(1+(m:Int)))*(1+(m:Int))*(1+(m:Int))*(d-(1+(m:Int)))*gE d (1+(m:Int))
theorem Ds:∀n:Fin 9,n.val<2\/kC (n.val:Int) (n.val-1)=wh n.val:=by ac_nf
theorem Dt(h2:2<=n)(h8:n<=8):kC n (n-1)=wh n:=by
 rcases Ds ⟨n,by lia⟩ with h|h
 .exact absurd h (by show¬n<2;lia)
 .exact h
theorem Du:∀n:Fin 9,∀m:Fin 9,-(2^64)<gE (n.val:Int) (1+(m.val:Int))/\gE (n.val:Int) (1+(m.val:Int))<2^64:=by ac_nf
theorem Dv(hn:n<=8)(hm:m<=8): -(2^64)<gE n (1+(m:Int))/\gE n (1+(m:Int))<2^64:=Du ⟨n,by lia⟩ ⟨m,by lia⟩
theorem Dw(z:Int): -(2^64)<wh z/\wh z<2^64:=by
 unfold wh;generalize z.toNat=n;by_cases h:n<9
 .have:∀n:Fin 9,-(2^64)<whT.getD n.val 0/\whT.getD n.val 0<2^64:=by ac_nf
  exact this ⟨n,h⟩
 .rw[A7,C8 (by show 9<=n;lia)];decide
def wtG:Int->KW Int->Int
 |_,[]=>0
 |i,x::r=>i*x+wtG (i+1) r
def wtF(r:KW Int):Int:=wtG 1 r
def Nn(t:KW Int):Prop:=∀i:Nat,0<=t.getD i 0
theorem Nn.cons{x:Int}{t:KW Int}:Nn (x::t)↔0<=x/\Nn t:=by
 constructor
 .intro h;exact⟨h 0,λi=>h (i+1)⟩
 .rintro⟨a,b⟩ i;cases i with
  |zero=>exact a
  |succ i=>exact b i
theorem Dx{t:KW Int}{x:Int}(h:Nn t)(hx:0<=x):Nn (t++[x]):=by
 induction t with
 |nil=>exact Nn.cons.mpr ⟨hx,λi=>by simp⟩
 |cons y t ih=>
  obtain⟨a,b⟩:=Nn.cons.mp h;exact Nn.cons.mpr ⟨a,ih b⟩
def du(d k:Nat):Prop:=1<=d/\((d<=3/\k<=6)\/(d=4/\k<=2))
theorem sr{c:Nat}:∀{a b r s:KW Nat},c∉a->c∉b->a++c::r=b++c::s->a=b/\r=s
 |[],[],_,_,_,_,h=>⟨rfl,by simpa using h⟩
 |[],y::b,_,_,_,hb,h=>by
  simp only[List.nil_append,List.cons_append,C7] at h;exact absurd (by rw[h.1];simp) hb
 |x::a,[],_,_,ha,_,h=>by
  simp only[List.nil_append,List.cons_append,C7] at h;exact absurd (by rw[<-h.1];simp) ha
 |x::a,y::b,r,s,ha,hb,h=>by
  simp only[List.cons_append,C7] at h;obtain⟨e1,e2⟩:=sr (a:=a) (b:=b) (r:=r) (s:=s) (λz=>ha (by simp[z])) (λz=>hb (by simp[z])) h.2;exact⟨by rw[h.1,e1],e2⟩
theorem gF(c:Nat)(x y:Str)(r:KW Str):(Str.join ⟨#[c]⟩ (x::y::r)).cps.toList=x.cps.toList++c::(Str.join ⟨#[c]⟩ (y::r)).cps.toList:=by
 show(x++⟨#[c]⟩++Str.join ⟨#[c]⟩ (y::r)).cps.toList=_;rw[Be,Be];simp
def kD{x y:Str}(h:x.cps.toList=y.cps.toList):x=y:=Str.ext' (Array.toList_inj.mp h)
theorem mS{c:Nat}:∀{ps qs:KW Str},ps≠[]->qs≠[]->(∀p∈ps,c∉p.cps.toList)->(∀q∈qs,c∉q.cps.toList)->Str.join ⟨#[c]⟩ ps=Str.join ⟨#[c]⟩ qs->ps=qs
 |[],_,h,_,_,_,_=>absurd rfl h
 |_::_,[],_,h,_,_,_=>absurd rfl h
 |[p],[q],_,_,_,_,h=>by rw[show p=q from h]
 |[p],q::q2::qs,_,_,hp,hq,h=>by
  have e:=Ah (λz:Str=>z.cps.toList) h;simp only[gF] at e;exact absurd (show c∈p.cps.toList by show c∈(Str.join ⟨#[c]⟩ [p]).cps.toList;rw[e];simp) (hp p (by simp))
 |p::p2::ps,[q],_,_,hp,hq,h=>by
  have e:=Ah (λz:Str=>z.cps.toList) h;simp only[gF] at e;exact absurd (show c∈q.cps.toList by show c∈(Str.join ⟨#[c]⟩ [q]).cps.toList;rw[<-e];simp) (hq q (by simp))
 |p::p2::ps,q::q2::qs,_,_,hp,hq,h=>by
  have e:=Ah (λz:Str=>z.cps.toList) h;simp only[gF] at e;obtain⟨e1,e2⟩:=sr (hp p (by simp)) (hq q (by simp)) e;rw[kD e1,mS (by simp) (by simp) (λz hz=>hp z (by simp[hz])) (λz hz=>hq z (by simp[hz])) (kD e2)]
theorem kE{ws:KW Str}(h0:ws≠[])(h:∀w∈ws,c∉w.cps.toList):Txt.split (Str.join ⟨#[c]⟩ ws) ⟨#[c]⟩=ws:=by
 refine mS (λz=>?_) h0 (StrLaws.split_free _ c) h (Cq _ _);have:=split_pos (Str.join ⟨#[c]⟩ ws) ⟨#[c]⟩;rw[z] at this;exact absurd this (by decide)
def S1(n:Int):Str:=Str.ofString (toString n)
def OkL(p:Lf):Prop:=1<=p.1/\p.1<p.2.1/\p.2.1<=9/\1<=p.2.2/\p.2.2<=60
def uw(p:Lf):Str:=if p.2.2=1 then S1 p.2.1 else S1 p.2.1++Str.ofString "x"++S1 p.2.2
def wrd(p:Lf):Str:=if p.2.2=1 then S1 p.1++Str.ofString "-"++S1 p.2.1 else S1 p.1++Str.ofString "-"++S1 p.2.1++Str.ofString "x"++S1 p.2.2
def gG(ps:KW Lf):Str:=if ps=[] then Str.ofString "none" else Txt.join (Str.ofString " ") (ps.map wrd)
def dig(c:Nat):Bool:=decide (48<=c)&&decide (c<58)
def ss(n:Nat):Bool:=decide (1<=(S1 n).length)&&decide ((S1 n).length<=2)&&(decide (9<n)||decide ((S1 n).length=1))&&(S1 n).cps.toList.all dig&& !(Txt.startswith (S1 n) (Str.ofString "0"))&&(PySem.intText? (S1 n)==some (n:Int))
theorem Dy:∀n,n<60->ss (n+1)=true:=by ac_nf
theorem cM{n:Int}(h1:1<=n)(h2:n<=60):1<=(S1 n).length/\(S1 n).length<=2/\(n<=9->(S1 n).length=1)/\(∀c∈(S1 n).cps.toList,48<=c/\c<58)/\Txt.startswith (S1 n) (Str.ofString "0")=false/\PySem.intText? (S1 n)=some n:=by
 obtain⟨m,rfl⟩:=AK (show 0<=n by lia);have:=Dy (m-1) (by lia);rw[show m-1+1=m by lia] at this;unfold ss at this;simp only[AB,Aj,Bs,CC,AG,BM] at this;obtain⟨⟨⟨⟨⟨a,b⟩,c⟩,d⟩,e⟩,f⟩:=this;refine⟨a,b,λh=>?_,λx hx=>?_,e,f⟩
 .rcases c with c|c
  .lia
  .exact c
 .have:=d x hx;unfold dig at this;simpa using this
theorem eA:Str.ofString "-"=⟨#[45]⟩:=by ac_nf
theorem s_x:Str.ofString "x"=⟨#[120]⟩:=by ac_nf
theorem dM:Str.ofString " "=⟨#[32]⟩:=by ac_nf
theorem su(h:OkL p):∀c∈(uw p).cps.toList,(48<=c/\c<58)\/c=120:=by
 obtain⟨h1,h2,h3,h4,h5⟩:=h;have a:=(cM (n:=p.2.1) (by lia) (by lia)).2.2.2.1;have b:=(cM h4 h5).2.2.2.1;intro c hc;unfold uw at hc;split at hc
 .exact .inl (a c hc)
 .rw[Be,Be,s_x] at hc;simp only[D4,Br] at hc;rcases hc with(hc|hc)|hc
  .exact .inl (a c hc)
  .exact .inr (by simpa using hc)
  .exact .inl (b c hc)
theorem kF(p:Lf):wrd p=S1 p.1++Str.ofString "-"++uw p:=by
 unfold wrd uw;split
 .rfl
 .simp only[Str.append_assoc]
theorem sv(h:OkL p):∀c∈(wrd p).cps.toList,(48<=c/\c<58)\/c=120\/c=45:=by
 have a:=(cM (n:=p.1) h.1 (by have:=h.2;lia)).2.2.2.1;have b:=su h;intro c hc;rw[kF,Be,Be,eA] at hc;simp only[D4,Br] at hc;rcases hc with(hc|hc)|hc
 .exact .inl (a c hc)
 .exact .inr (.inr (by simpa using hc))
 .rcases b c hc with e|e
  .exact .inl e
  .exact .inr (.inl e)
theorem kG(h:OkL p):Txt.split (wrd p) (Str.ofString "-")=[S1 p.1,uw p]:=by
 have a:=(cM (n:=p.1) h.1 (by have:=h.2;lia)).2.2.2.1;have b:=su h;have e:wrd p=Str.join ⟨#[45]⟩ [S1 p.1,uw p]:=by rw[kF,eA];rfl
 rw[e,eA];refine kE (by simp) λw hw hc=>?_;rcases AH.mp hw with rfl|hw
 .have:=a _ hc;lia
 .rw[An.mp hw] at hc;have:=b _ hc;lia
theorem mT(h:OkL p)(hw:p.2.2=1):Txt.split (uw p) (Str.ofString "x")=[S1 p.2.1]:=by
 obtain⟨h1,h2,h3,h4,h5⟩:=h;have a:=(cM (n:=p.2.1) (by lia) (by lia)).2.2.2.1;have e:uw p=Str.join ⟨#[120]⟩ [S1 p.2.1]:=by unfold uw;rw[A9 hw];rfl
 rw[e,s_x];refine kE (by simp) λw hw hc=>?_;rw[An.mp hw] at hc;have:=a _ hc;lia
theorem kH(h:OkL p)(hw:p.2.2≠1):Txt.split (uw p) (Str.ofString "x")=[S1 p.2.1,S1 p.2.2]:=by
 obtain⟨h1,h2,h3,h4,h5⟩:=h;have a:=(cM (n:=p.2.1) (by lia) (by lia)).2.2.2.1;have b:=(cM h4 h5).2.2.2.1;have e:uw p=Str.join ⟨#[120]⟩ [S1 p.2.1,S1 p.2.2]:=by unfold uw;rw[A6 hw,s_x];rfl
 rw[e,s_x];refine kE (by simp) λw hw hc=>?_;rcases AH.mp hw with rfl|hw
 .have:=a _ hc;lia
 .rw[An.mp hw] at hc;have:=b _ hc;lia
theorem mU(h:ps≠[]):gG ps=Str.join ⟨#[32]⟩ (ps.map wrd):=by
 unfold gG Txt.join;rw[A6 h,StrLaws.glued_eq_join,dM]
theorem sw(h0:ps≠[])(h:∀p∈ps,OkL p):Txt.split (gG ps) (Str.ofString " ")=ps.map wrd:=by
 rw[mU h0,dM];refine kE (by simpa using h0) λw hw hc=>?_;obtain⟨p,hp,rfl⟩:=Ad.mp hw;have:=sv (h p hp) _ hc;lia
theorem Dz:45∉(Str.ofString "none").cps.toList:=by ac_nf
def DH:Str.ofString "none"=Str.join ⟨#[32]⟩ [Str.ofString "none"]:=rfl
theorem DI:32∉(Str.ofString "none").cps.toList:=by ac_nf
theorem DJ(h0:ps≠[])(h:∀p∈ps,OkL p):gG ps≠Str.ofString "none":=by
 intro z;rw[mU h0,DH] at z;have:=mS (by simpa using h0) (by simp) (λw hw hc=>by
  obtain⟨p,hp,rfl⟩:=Ad.mp hw;have:=sv (h p hp) _ hc;lia) (λq hq=>by rw[An.mp hq];exact DI) z
 cases ps with
 |nil=>exact h0 rfl
 |cons p ps=>
  simp only[AM,C7] at this;refine Dz ?_;rw[<-this.1,kF,Be,Be,eA];simp
theorem iq:(Str.ofString "x").length=1:=by ac_nf
theorem dh:(Str.ofString "-").length=1:=by ac_nf
theorem fQ:(Str.ofString " ").length=1:=by ac_nf
theorem sx(h:OkL p):1<=(uw p).length/\(uw p).length<=5:=by
 obtain⟨h1,h2,h3,h4,h5⟩:=h;obtain⟨a,a',_⟩:=cM (n:=p.2.1) (by lia) (by lia);obtain⟨b,b',_⟩:=cM h4 h5;unfold uw;split
 .lia
 .rw[A5,A5,iq];lia
theorem sy(h:OkL p):1<=(wrd p).length/\(wrd p).length<=8:=by
 have:=sx h;obtain⟨a,a',_⟩:=cM (n:=p.1) h.1 (by have:=h.2;lia);rw[kF,A5,A5,dh];lia
theorem cX:9000<=sizeLine:=by decide
theorem e7:Str.empty.length=0:=by decide
theorem ir{n:Int}(h1:1<=n)(h2:n<=60):n.natAbs.log2<1920:=by
 refine AS ((Nat.log2_lt (by lia) (k:=6)).mpr ?_) (by decide);lia
def Asc(ps:KW Lf):Prop:=∀i j,i<j->j<(ps.map aO).length->ltI ((ps.map aO).getD j []) ((ps.map aO).getD i [])=false
theorem mV(h:∀i j,i<j->j<GF.length->ltI (GF.getD j []) (GF.getD i [])=false):GF.Pairwise λx y=>ltI y x=false:=by
 rw[Bp];intro i j hi hj He;have:=h i j He hj;rw[A7,A7,A1 hi,A1 hj] at this;exact this
theorem DK{xss:KW (KW Int)}(hp:GF.Perm xss)(hl:∀x∈xss,x.length=3)(h1:∀i j,i<j->j<GF.length->ltI (GF.getD j []) (GF.getD i [])=false)(h2:∀i j,i<j->j<xss.length->ltI (xss.getD j []) (xss.getD i [])=false):GF=xss:=by
 refine hp.eq_of_pairwise (λa b ha hb e1 e2=>?_) (mV h1) (mV h2);have la:=hl a (hp.mem_iff.mp ha);have lb:=hl b hb;rw[lX (by rw[la,lb])] at e1 e2;exact qg (by rw[la,lb]) e2 e1
theorem mW :∀x∈ps.map aO,x.length=3:=λx hx=>by
 obtain⟨p,_,rfl⟩:=Ad.mp hx;rfl
def sgF(n:Nat):KW Nat:=if n<10 then [48+n] else [48+n/10,48+n%10]
theorem sgs:∀n,n<60->(S1 ((n+1:Nat):Int)).cps.toList=sgF (n+1):=by ac_nf
theorem sg(h1:1<=n)(h2:n<=60):(S1 (n:Int)).cps.toList=sgF n:=by
 have:=sgs (n-1) (by lia)
 rwa [show n-1+1=n by lia] at this
def cF(i j w:Nat):KW Nat:=if w=1 then [48+i,45,48+j] else [48+i,45,48+j,120]++sgF w
theorem sA{w:Nat}(h:OkL ((i:Int),(j:Int),(w:Int))):(wrd ((i:Int),(j:Int),(w:Int))).cps.toList=cF i j w:=by
 obtain⟨h1,h2,h3,h4,h5⟩:=h;dsimp only at h1 h2 h3 h4 h5;have a:=sg (n:=i) (by lia) (by lia);have b:=sg (n:=j) (by lia) (by lia);have c:=sg (n:=w) (by lia) (by lia);have ea:sgF i=[48+i]:=A9 (by lia);have eb:sgF j=[48+j]:=A9 (by lia);rw[ea] at a;rw[eb] at b;unfold wrd cF;dsimp only;by_cases e:w=1
 .rw[A9 (by lia),A9 e,eA];simp only[Be,D4,a,b];rfl
 .rw[A6 (by lia),A6 e,eA,s_x];simp only[Be,D4,a,b,c];rfl
def flo(c:Nat):Bool:=decide (49<=c)&&decide (c<=57)
def cA:KW Nat->K0 Lf
 |[a,m,b]=>if flo a=true/\m=45/\flo b=true/\a<b then some (((a-48:Nat):Int),((b-48:Nat):Int),1) else none
 |[a,m,b,x,c]=>if flo a=true/\m=45/\flo b=true/\a<b/\x=120/\flo c=true/\2<=c-48 then some (((a-48:Nat):Int),((b-48:Nat):Int),((c-48:Nat):Int)) else none
 |[a,m,b,x,c,e]=>if flo a=true/\m=45/\flo b=true/\a<b/\x=120/\flo c=true/\48<=e/\e<=57/\10*(c-48)+(e-48)<=60 then some (((a-48:Nat):Int),((b-48:Nat):Int),((10*(c-48)+(e-48):Nat):Int)) else none
 |_=>none
theorem DL{w:Nat}(h:OkL ((i:Int),(j:Int),(w:Int))):cA (cF i j w)=some ((i:Int),(j:Int),(w:Int)):=by
 obtain⟨h1,h2,h3,h4,h5⟩:=h;dsimp only at h1 h2 h3 h4 h5;unfold cF;have fi:flo (48+i)=true:=by unfold flo;simp;lia
 have fj:flo (48+j)=true:=by unfold flo;simp;lia
 by_cases e:w=1
 .rw[A9 e];dsimp only[cA];rw[A9 ⟨fi,rfl,fj,by lia⟩,e];simp
 .rw[A6 e];unfold sgF;by_cases e2:w<10
  .rw[A9 e2];have fw:flo (48+w)=true:=by unfold flo;simp;lia
   show cA [48+i,45,48+j,120,48+w]=_;dsimp only[cA];rw[A9 ⟨fi,rfl,fj,by lia,rfl,fw,by lia⟩];simp
  .rw[A6 e2];have fw:flo (48+w/10)=true:=by unfold flo;simp;lia
   show cA [48+i,45,48+j,120,48+w/10,48+w%10]=_;dsimp only[cA];have ew:10*(48+w/10-48)+(48+w%10-48)=w:=by lia
   rw[ew,A9 ⟨fi,rfl,fj,by lia,rfl,fw,by lia,by lia,by lia⟩];simp
theorem DM{L:KW Nat}(h:cA L=some p):∃i j w:Nat,p=((i:Int),(j:Int),(w:Int))/\OkL p/\L=cF i j w:=by
 unfold cA at h;split at h
 .split at h
  .rename_i a m b q;obtain⟨q1,q2,q3,q4⟩:=q;unfold flo at q1 q3;simp only[AB,Aj] at q1 q3;cases h;refine⟨a-48,b-48,1,rfl,⟨by dsimp only;lia,by dsimp only;lia,by dsimp only;lia,by dsimp only;lia,by dsimp only;lia⟩,?_⟩;unfold cF;rw[A9 rfl,q2,show 48+(a-48)=a by lia,show 48+(b-48)=b by lia]
  .cases h
 .split at h
  .rename_i a m b x c q;obtain⟨q1,q2,q3,q4,q5,q6,q7⟩:=q;unfold flo at q1 q3 q6;simp only[AB,Aj] at q1 q3 q6;cases h;refine⟨a-48,b-48,c-48,rfl,⟨by dsimp only;lia,by dsimp only;lia,by dsimp only;lia,by dsimp only;lia,by dsimp only;lia⟩,?_⟩;unfold cF sgF;rw[A6 (by lia),A9 (by lia),q2,q5,show 48+(a-48)=a by lia,show 48+(b-48)=b by lia,show 48+(c-48)=c by lia];rfl
  .cases h
 .split at h
  .rename_i a m b x c e q;obtain⟨q1,q2,q3,q4,q5,q6,q7,q8,q9⟩:=q;unfold flo at q1 q3 q6;simp only[AB,Aj] at q1 q3 q6;cases h;refine⟨a-48,b-48,10*(c-48)+(e-48),rfl,⟨by dsimp only;lia,by dsimp only;lia,by dsimp only;lia,by dsimp only;lia,by dsimp only;lia⟩,?_⟩;unfold cF sgF;rw[A6 (by lia),A6 (by lia),q2,q5,show 48+(a-48)=a by lia,show 48+(b-48)=b by lia,show 48+(10*(c-48)+(e-48))/10=c by lia,show 48+(10*(c-48)+(e-48))%10=e by lia];rfl
  .cases h
 .cases h
theorem kI{w:Str}:cA w.cps.toList=some p↔OkL p/\w=wrd p:=by
 constructor
 .intro h;obtain⟨i,j,k,rfl,ok,e⟩:=DM h;exact⟨ok,kD (e.trans (sA ok).symm)⟩
 .rintro⟨ok,rfl⟩;obtain⟨a,b,c⟩:=p;obtain⟨i,rfl⟩:=Int.eq_ofNat_of_zero_le (show 0<=a by have:=ok.1;dsimp only at this;lia);obtain⟨j,rfl⟩:=Int.eq_ofNat_of_zero_le (show 0<=b by have h1:=ok.1;have h2:=ok.2.1;dsimp only at h1 h2;lia);obtain⟨k,rfl⟩:=Int.eq_ofNat_of_zero_le (show 0<=c by have:=ok.2.2.2.1;dsimp only at this;lia);rw[sA ok];exact DL ok
theorem sB:∀a,a<10->PySem.intText? ⟨#[48+a]⟩=some (a:Int):=by ac_nf
theorem DN:∀a,a<10->∀b,b<10->PySem.intText? ⟨#[48+a,48+b]⟩=some ((10*a+b:Nat):Int):=by ac_nf
theorem sC(h0:1<=z.length)(h2:z.length<=2)(hd:∀c∈z.cps.toList,48<=c/\c<58):∃n:Nat,n<100/\PySem.intText? z=some (n:Int):=by
 obtain⟨⟨L⟩⟩:=z
 match L,h0,h2,hd with
 |[],h0,_,_=>exact absurd h0 (by show¬1<=0;decide)
 |[a],_,_,hd=>
  have h:=hd a (by simp);refine⟨a-48,by lia,?_⟩;have:=sB (a-48) (by lia)
  rwa [show 48+(a-48)=a by lia] at this
 |[a,b],_,_,hd=>
  have h:=hd a (by simp);have k:=hd b (by simp);refine⟨10*(a-48)+(b-48),by lia,?_⟩;have:=DN (a-48) (by lia) (b-48) (by lia)
  rwa [show 48+(a-48)=a by lia,show 48+(b-48)=b by lia] at this
 |a::b::c::r,_,h2,_=>exact absurd h2 (by show¬(r.length+1+1+1<=2);lia)
def Fit(n:Nat)(t:Str):Prop:=t.length<=n/\∀c∈t.cps.toList,c<128
theorem Fit.asc{t:Str}(h:Fit n t):t.cps.all (· <128)=true:=by
 rw[Array.all_eq_true'];intro c hc;have:=h.2 c (CL.mpr hc);simpa using this
def Fit.le{t:Str}(h:Fit n t)(k:n<=m):Fit m t:=⟨Am h.1 k,h.2⟩
theorem sD{c:Nat}:∀{ws:KW Str}{w:Str},w∈ws->∀x∈w.cps.toList,x∈(Str.join ⟨#[c]⟩ ws).cps.toList
 |[],_,h,_,_=>absurd h (by simp)
 |[v],w,h,x,hx=>by rw[An.mp h] at hx;exact hx
 |v::u::r,w,h,x,hx=>by
  rw[gF];rcases AH.mp h with rfl|h
  .exact BO _ hx
  .exact AQ _ (AU _ (sD h x hx))
theorem sE{c:Nat}:∀{ws:KW Str},ws≠[]->(Str.join ⟨#[c]⟩ ws).length+1=(ws.map (·.length)).sum+ws.length
 |[],h=>absurd rfl h
 |[v],_=>by simp[Str.join]
 |v::u::r,_=>by
  have:=sE (c:=c) (ws:=u::r) (by simp);show(v++⟨#[c]⟩++Str.join ⟨#[c]⟩ (u::r)).length+1=_;rw[A5,A5,AM,B5,AN (a:=v)];have e:(⟨#[c]⟩:Str).length=1:=rfl;rw[e];lia
theorem sF:∀{ws:KW Str}{w:Str},w∈ws->w.length<=(ws.map (·.length)).sum
 |[],_,h=>absurd h (by simp)
 |v::r,w,h=>by
  rw[AM,B5];rcases AH.mp h with rfl|h
  .exact Nat.le_add_right _ _
  .exact Am (sF h) (Nat.le_add_left _ _)
theorem iu(t:Str)(c:Nat):Txt.split t ⟨#[c]⟩≠[]:=λz=>by
 have:=split_pos t ⟨#[c]⟩;rw[z] at this;exact absurd this (by decide)
theorem mX(t:Str)(c:Nat):t.length+1=((Txt.split t ⟨#[c]⟩).map (·.length)).sum+(Txt.split t ⟨#[c]⟩).length:=by
 have:=sE (c:=c) (iu t c)
 rwa [Cq] at this
theorem fR{t w:Str}(h:Fit n t)(hw:w∈Txt.split t ⟨#[c]⟩):Fit n w:=by
 have a:=mX t c;have b:=sF hw;have d:0<(Txt.split t ⟨#[c]⟩).length:=List.length_pos_iff.mpr (iu t c);refine⟨by have:=h.1;lia,λx hx=>h.2 x ?_⟩;have:=sD (c:=c) hw x hx
 rwa [Cq] at this
theorem iw{t:Str}(h:Fit n t):(Txt.split t ⟨#[c]⟩).length<=n+1:=by
 have a:=mX t c;have:=h.1;lia
def IsT(t:Str)(ps:KW Lf):Prop:=t=gG ps/\Asc ps/\∀p∈ps,OkL p
theorem sG{t:Str}(h:Txt.split t (Str.ofString " ")=qs.map wrd):qs≠[]/\t=gG qs:=by
 rw[dM] at h;have h0:qs≠[]:=λz=>iu t 32 (by rw[h,z];rfl);refine⟨h0,?_⟩;rw[mU h0,<-h,Cq]
def de(z:Str)(m:Nat)(n:Int):Prop:=z≠Str.ofString ""/\(∀c∈z.cps.toList,48<=c/\c<58)/\z.length<=m/\¬(Txt.startswith z (Str.ofString "0")=true/\z≠Str.ofString "0")/\PySem.intText? z=some n
theorem em0:(Str.ofString "").length=0:=by ac_nf
theorem sI(h:z≠Str.ofString ""):1<=z.length:=by
 refine Nat.pos_of_ne_zero λe=>h (kD ?_);have a:z.cps.toList=[]:=Bz.mp (by rw[AV];exact e);have b:(Str.ofString "").cps.toList=[]:=Bz.mp (by rw[AV];exact em0);rw[a,b]
theorem kJ{n:Int}(h1:1<=n)(h2:n<=60)(hm:1<=m)(h:n<=9\/2<=m):de (S1 n) m n:=by
 obtain⟨a1,a2,a3,a4,a5,a6⟩:=cM h1 h2;refine⟨λz=>by rw[z,em0] at a1;exact absurd a1 (by decide),a4,?_,λz=>by rw[a5] at z;exact absurd z.1 (by decide),a6⟩;rcases h with h|h
 .rw[a3 h];exact hm
 .lia
theorem DO{n:Int}(h:de z 1 n):0<=n/\n<=9:=by
 obtain⟨h1,h2,h3,_,h5⟩:=h;have h1:=sI h1;obtain⟨⟨L⟩⟩:=z
 match L,h1,h3,h2,h5 with
 |[],h0,_,_,_=>exact absurd h0 (by show¬1<=0;decide)
 |[a],_,_,hd,h5=>
  have h:=hd a (by simp);have:=sB (a-48) (by lia);rw[show 48+(a-48)=a by lia] at this;have e:=this.symm.trans h5;have:=AL e;lia
 |a::b::r,_,h2,_,_=>exact absurd h2 (by show¬(r.length+1+1<=1);lia)
theorem DP:∀c,c<128->(Builtin.Str.occurrences (Str.ofString "0123456789") ⟨#[c]⟩ 0 (Str.ofString "0123456789").length 1).isEmpty= !(dig c):=by ac_nf
theorem sJ(h:(qs.map aO).Pairwise λx y=>ltI y x=false):Asc qs:=by
 rw[Bp] at h;intro i j He hj;rw[A7,A7,A1 hj,A1 (by lia)];exact h i j (by lia) hj He
theorem DQ{x:Str}{l u:K0 Int}:∀c∈(Txt.slice x l u).cps.toList,c∈x.cps.toList:=by
 intro c hc;unfold Txt.slice at hc;split at hc
 .exact hc
 .have hc:c∈List.filterMap (x.cps[·]?) (Builtin.Str.strSliceIndices l u 1 x.length):=by simpa using hc
  obtain⟨i,_,hi⟩:=Ca.mp hc;exact CL.mpr (Array.mem_of_getElem? hi)
theorem DR{x:Str}{i:Int}(h0:0<=i):(Txt.slice x (some i) none).length<=x.length-i.toNat:=by
 by_cases h:i<=x.length
 .rw[slice_from_eq h0 h rfl];show(List.toArray _).size<=_;rw[AA,Ao];exact Am (Nat.min_le_left _ _) (by lia)
 .rw[slice_beyond (by lia)];exact AR _
def DS{t:Str}{j:Int}(h:Fit n t)(h0:0<=j):Fit (t.length-j.toNat) (Txt.slice t (some j) none):=⟨DR h0,λc hc=>h.2 c (DQ c hc)⟩
theorem DT:∀a,a<10->∀b,b<10->∀c,c<10->PySem.intText? ⟨#[48+a,48+b,48+c]⟩=some ((100*a+10*b+c:Nat):Int):=by ac_nf
theorem DU(h0:1<=z.length)(h2:z.length<=3)(hd:∀c∈z.cps.toList,48<=c/\c<58):∃n:Nat,n<1000/\PySem.intText? z=some (n:Int):=by
 obtain⟨⟨L⟩⟩:=z
 match L,h0,h2,hd with
 |[],h0,_,_=>exact absurd h0 (by show¬1<=0;decide)
 |[a],_,_,hd=>
  obtain⟨n,h1,h2⟩:=sC (z:=⟨⟨[a]⟩⟩) (A8 1) (by show 1<=2;decide) hd;exact⟨n,by lia,h2⟩
 |[a,b],_,_,hd=>
  obtain⟨n,h1,h2⟩:=sC (z:=⟨⟨[a,b]⟩⟩) (by show 1<=2;decide) (A8 2) hd;exact⟨n,by lia,h2⟩
 |[a,b,c],_,_,hd=>
  have h:=hd a (by simp);have k:=hd b (by simp);have l:=hd c (by simp);refine⟨100*(a-48)+10*(b-48)+(c-48),by lia,?_⟩;have:=DT (a-48) (by lia) (b-48) (by lia) (c-48) (by lia)
  rwa [show 48+(a-48)=a by lia,show 48+(b-48)=b by lia,show 48+(c-48)=c by lia] at this
 |a::b::c::d::r,_,h2,_=>exact absurd h2 (by show¬(r.length+1+1+1+1<=3);lia)
def bb{α β:Type}(f:β->K0 α):KW β->K0 (KW α)
 |[]=>some []
 |w::r=>match f w,bb f r with
  |some n,some ns=>some (n::ns)
  |_,_=>none
theorem mY{α β:Type}{f:β->K0 α}:∀{ws:KW β}{i:Nat}{w:β},ws[i]? =some w->f w=none->bb f ws=none
 |[],_,_,h,_=>by simp at h
 |w::r,0,_,h,e=>by
  obtain rfl:=AL h;unfold bb;rw[e]
 |w::r,i+1,_,h,e=>by
  unfold bb;rw[mY (ws:=r) (i:=i) (by simpa using h) e];cases f w<;>rfl
theorem mZ{α β:Type}{f:β->K0 α}{w:β}{n:α}(hn:f w=some n):∀{ws:KW β}{ns:KW α},bb f ws=some ns->bb f (ws++[w])=some (ns++[n])
 |[],ns,h=>by
  obtain rfl:=AL h;show bb f [w]=_;simp only[bb,hn,List.nil_append]
 |v::r,ns,h=>by
  rw[List.cons_append];unfold bb at h⊢;cases e:f v with
  |none=>rw[e] at h;cases h
  |some m=>
   rw[e] at h;cases e2:bb f r with
   |none=>rw[e2] at h;cases h
   |some ms=>
    rw[e2] at h;obtain rfl:=AL h;rw[mZ hn e2];rfl
theorem m4{α β:Type}{f:β->K0 α}:∀{ws:KW β}{ns:KW α},bb f ws=some ns->ns.length=ws.length
 |[],ns,h=>by obtain rfl:=AL h;rfl
 |v::r,ns,h=>by
  unfold bb at h;cases e:f v with
  |none=>rw[e] at h;cases h
  |some m=>
   rw[e] at h;cases e2:bb f r with
   |none=>rw[e2] at h;cases h
   |some ms=>
    rw[e2] at h;obtain rfl:=AL h;rw[AN,AN,m4 e2]
def ntF(m:Nat)(z:Str):K0 Int:=if z≠Str.ofString ""/\(∀c∈z.cps.toList,48<=c/\c<58)/\z.length<=m/\¬(Txt.startswith z (Str.ofString "0")=true/\z≠Str.ofString "0") then PySem.intText? z else none
theorem m5{n:Int}(h:ntF m z=some n):de z m n:=by
 unfold ntF at h;by_cases c:z≠Str.ofString ""/\(∀c∈z.cps.toList,48<=c/\c<58)/\z.length<=m/\¬(Txt.startswith z (Str.ofString "0")=true/\z≠Str.ofString "0")
 .rw[A9 c] at h;exact⟨c.1,c.2.1,c.2.2.1,c.2.2.2,h⟩
 .rw[A6 c] at h;cases h
theorem m6(h:ntF m z=none)(n:Int):¬de z m n:=λHv=>by
 obtain⟨a,b,c,d,e⟩:=Hv;unfold ntF at h;rw[A9 ⟨a,b,c,d⟩,e] at h;cases h
def rdF(z:Str):K0 Int:=if Txt.startswith z (Str.ofString "-")=true then(match ntF 3 (Txt.slice z (some 1) none) with|some n=>if n=0 then none else some (-n)|none=>none) else ntF 3 z
def reF(z:Str):K0 (KW Int):=if z=Str.ofString "-" then some [] else bb (ntF 3) (Txt.split z (Str.ofString ","))
def dF(t:Str):K0 (KW Lf):=if t=Str.ofString "none" then some [] else match bb (λw:Str=>cA w.cps.toList) (Txt.split t (Str.ofString " ")) with
 |some ps=>if(ps.map aO).Pairwise (λx y=>ltI y x=false) then some ps else none
 |none=>none
theorem sK:∀{ws:KW Str}{ps:KW Lf},bb (λw:Str=>cA w.cps.toList) ws=some ps->ws=ps.map wrd/\∀p∈ps,OkL p
 |[],ps,h=>by obtain rfl:=AL h;exact⟨rfl,λ_ z=>by simp at z⟩
 |w::r,ps,h=>by
  unfold bb at h;cases e:cA w.cps.toList with
  |none=>simp only[e] at h;cases h
  |some p=>
   simp only[e] at h;cases e2:bb (λw:Str=>cA w.cps.toList) r with
   |none=>rw[e2] at h;cases h
   |some qs=>
    rw[e2] at h;obtain rfl:=AL h;obtain⟨h1,h2⟩:=sK e2;obtain⟨a,b⟩:=kI.mp e;exact⟨by rw[AM,h1,b],λq hq=>by
     rcases AH.mp hq with rfl|hq
     .exact a
     .exact h2 q hq⟩
theorem sL:∀{ps:KW Lf},(∀p∈ps,OkL p)->bb (λw:Str=>cA w.cps.toList) (ps.map wrd)=some ps
 |[],_=>rfl
 |p::ps,h=>by
  rw[AM];unfold bb;have e:cA (wrd p).cps.toList=some p:=kI.mpr ⟨h p (by simp),rfl⟩;simp only[e];rw[sL λq hq=>h q (by simp[hq])]
theorem sM{t:Str}(h:dF t=some ps):IsT t ps:=by
 unfold dF at h;by_cases c:t=Str.ofString "none"
 .rw[A9 c] at h;obtain rfl:=AL h;exact⟨c.trans rfl,λ_ _ _ z=>absurd z (by simp),λ_ z=>by simp at z⟩
 .rw[A6 c] at h;cases e:bb (λw:Str=>cA w.cps.toList) (Txt.split t (Str.ofString " ")) with
  |none=>rw[e] at h;cases h
  |some qs=>
   rw[e] at h;obtain⟨h1,h2⟩:=sK e;by_cases k:(qs.map aO).Pairwise (λx y=>ltI y x=false)
   .simp only[A9 k] at h;obtain rfl:=AL h;exact⟨(sG h1).2,sJ k,h2⟩
   .simp only[A6 k] at h;cases h
theorem DV{t:Str}(h:dF t=none)(ps:KW Lf):¬IsT t ps:=λhT=>by
 unfold dF at h;by_cases c:t=Str.ofString "none"
 .rw[A9 c] at h;cases h
 .rw[A6 c] at h;obtain⟨rfl,a,ok⟩:=hT;have h0:ps≠[]:=λz=>c (by rw[z];rfl);rw[sw h0 ok,sL ok] at h;simp only[A9 (mV a)] at h;cases h
inductive Th
 |n (i:Int)
 |e (l:List Int)
 |m (ps:List Lf)
variable{ts:KW Th}
def tgF(p:Nat×Str):K0 Th:=if p.1=101 then(match reF p.2 with|some l=>some (.e l)|none=>none) else match rdF p.2 with|some i=>some (.n i)|none=>none
def m7:Str:=Str.ofString ":"
def rmF(ws:KW Str):K0 (KW Th):=if(ws.drop 2).take 1=[m7] then(match rdF (ws.getD 1 Str.empty),dF (Txt.join (Str.ofString " ") (ws.drop 3)) with|some n,some ps=>some [.n n,.m ps]|_,_=>none) else none
def e9:KW (Str×Str):=[(Str.ofString "count",Str.ofString "dk"),(Str.ofString "whole",Str.ofString "dk"),(Str.ofString "free",Str.ofString "d"),(Str.ofString "ways",Str.ofString "dk"),(Str.ofString "ends",Str.ofString "dkee"),(Str.ofString "shade",Str.ofString "dk"),(Str.ofString "polynomial",Str.ofString "k"),(Str.ofString "drawings",Str.ofString "dk"),(Str.ofString "rows",Str.ofString "")]
def rrF(t:Str):K0 (Str×KW Th):=match Txt.split t (Str.ofString " ") with
 |[]=>none
 |nm::r=>if nm=Str.ofString "markings" then(match rmF (nm::r) with|some ts=>some (nm,ts)|none=>none) else match e9.lookup nm with
  |none=>none
  |some s=>if r.length=s.length then(match bb tgF (s.cps.toList.zip r) with|some ts=>some (nm,ts)|none=>none) else none
def cN(d k:Int):Bool:=decide (1<=d)&&decide (0<=k)&&((decide (d<=4)&&decide (k<=6))||(decide (d=5)&&decide (k<=3)))
def kK(d k:Int):Bool:=decide (1<=d)&&decide (0<=k)&&((decide (d<=3)&&decide (k<=6))||(decide (d=4)&&decide (k<=2)))
def nnB(a:KW Int):Bool:=a.all (λx=>decide (0<=x))
def lzB(a:KW Int):Bool:=nnB a&&(a.getLast? ==some 0)
def inB(a:KW Int):Bool:=nnB a&&(match a.getLast? with|none=>true|some x=>decide (0<x))
def kL(d:Int)(a b:KW Int):Bool:=lzB a||(inB a&&lzB b)||(inB a&&inB b&&decide (a.length<=5)&&decide (b.length<=5)&& !(wtF a+wtF b==d))
def frF:KW Th->Nat
 |[.n a]=>if a=3 then 5 else if 1<=a/\a<=8 then 8 else 1
 |_=>8
def poF:KW Th->Nat
 |[.n a]=>if 0<=a/\a<=3 then 8 else 1
 |_=>8
def maF:KW Th->Nat
 |[.n d,.m ps]=>if 1<=d/\d<=5 then(if ps.length<=40 then(if ps.any (λp=>decide (p.2.1>d)) then 3 else if eK (bi d.toNat ps)<0 then 3 else 8) else 8) else 1
 |_=>8
def enF:KW Th->Nat
 |[.n d,.n k,.e a,.e b]=>if cN d k then(if kL d a b then 2 else 8) else 1
 |_=>8
def prF(nm:Str)(d k:Int):Nat:=if nm=Str.ofString "count" then(if d=2/\k=1 then 4 else if cN d k then 8 else 1)
 else if nm=Str.ofString "whole" then(if cN d k then 8 else 1)
 else if nm=Str.ofString "ways" then(if kK d k then 8 else 1)
 else if nm=Str.ofString "shade" then(if cN d k then 8 else 1)
 else if nm=Str.ofString "drawings" then(if cN d k then 8 else 1) else 8
def paF(nm:Str):KW Th->Nat
 |[.n d,.n k]=>prF nm d k
 |_=>8
def kdF(nm:Str)(ts:KW Th):Nat:=if nm=Str.ofString "free" then frF ts else if nm=Str.ofString "polynomial" then poF ts else if nm=Str.ofString "markings" then maF ts
 else if nm=Str.ofString "ends" then enF ts else if nm=Str.ofString "rows" then 6 else paF nm ts
theorem DW(h:frF ts<7):∃a,ts=[.n a]:=by
 unfold frF at h;split at h
 .exact⟨_,rfl⟩
 .exact absurd h (by decide)
theorem DX(h:poF ts<7):∃a,ts=[.n a]:=by
 unfold poF at h;split at h
 .exact⟨_,rfl⟩
 .exact absurd h (by decide)
theorem DY(h:maF ts<7):∃d ps,ts=[.n d,.m ps]:=by
 unfold maF at h;split at h
 .exact⟨_,_,rfl⟩
 .exact absurd h (by decide)
theorem DZ(h:enF ts<7):∃d k a b,ts=[.n d,.n k,.e a,.e b]:=by
 unfold enF at h;split at h
 .exact⟨_,_,_,_,rfl⟩
 .exact absurd h (by decide)
theorem Ea(h:paF nm ts<7):∃d k,ts=[.n d,.n k]:=by
 unfold paF at h;split at h
 .exact⟨_,_,rfl⟩
 .exact absurd h (by decide)
theorem sN{a:KW Int}(h:nnB a=true):Nn a:=λi=>by
 unfold nnB at h;rw[AG] at h;rw[A7];cases e:a[i]? with
 |none=>exact Int.le_refl 0
 |some x=>simpa using h x (Aa e)
theorem Eb{t:Str}(h:rrF t=some (nm,ts))(hm:Th.m ps∈ts):∀p∈ps,OkL p:=by
 unfold rrF at h;cases hs:Txt.split t (Str.ofString " ") with
 |nil=>rw[hs] at h;cases h
 |cons a r=>
  rw[hs] at h;dsimp only at h;by_cases c:a=Str.ofString "markings"
  .rw[A9 c] at h;unfold rmF at h;by_cases c2:(List.drop 2 (a::r)).take 1=[m7]
   .rw[A9 c2] at h;cases e1:rdF ((a::r).getD 1 Str.empty) with
    |none=>rw[e1] at h;cases h
    |some n=>
     rw[e1] at h;cases e2:dF (Txt.join (Str.ofString " ") ((a::r).drop 3)) with
     |none=>rw[e2] at h;cases h
     |some qs=>
      rw[e2] at h;cases h;simp only[AH,Av,Bl,reduceCtorEq,false_or] at hm;cases hm;exact(sM e2).2.2
   .rw[A6 c2] at h;cases h
  .rw[A6 c] at h;cases e1:e9.lookup a with
   |none=>rw[e1] at h;cases h
   |some s=>
    rw[e1] at h;dsimp only at h;by_cases c2:r.length=s.length
    .rw[A9 c2] at h;have key:∀{ws:KW (Nat×Str)}{us:KW Th},bb tgF ws=some us->Th.m ps∉us:=by
      intro ws;induction ws with
      |nil=>intro us hu;cases hu;simp
      |cons x ws ih=>
       intro us hu;unfold bb at hu;cases e3:tgF x with
       |none=>rw[e3] at hu;cases hu
       |some u=>
        rw[e3] at hu;cases e4:bb tgF ws with
        |none=>rw[e4] at hu;cases hu
        |some vs=>
         rw[e4] at hu;cases hu;refine λhh=>?_;rcases AH.mp hh with hh|hh
         .unfold tgF at e3;rw[<-hh] at e3;by_cases c3:x.1=101
          .rw[A9 c3] at e3;cases e5:reF x.2 with
           |none=>rw[e5] at e3;cases e3
           |some l=>rw[e5] at e3;cases e3
          .rw[A6 c3] at e3;cases e5:rdF x.2 with
           |none=>rw[e5] at e3;cases e3
           |some l=>rw[e5] at e3;cases e3
         .exact ih e4 hh
     cases e3:bb tgF (s.cps.toList.zip r) with
     |none=>rw[e3] at h;cases h
     |some us=>
      rw[e3] at h;cases h;exact absurd hm (key e3)
    .rw[A6 c2] at h;cases h
def cJ(t:Str):Nat:=match rrF t with
 |none=>0
 |some (nm,ts)=>kdF nm ts
def nS(n:Nat):Str:=Str.ofString (toString ((n:Nat):Int))
def sp1:Str:=Str.ofString " "
def fS:KW Str:=[Str.ofString "+1",Str.ofString "01",Str.ofString "-0",Str.ofString "1000",Str.ofString "-1000",Str.ofString "a",Str.ofString "",Str.ofString "1.",Str.ofString "--1",Str.ofString "-",Str.ofString "1-",Str.ofString "00",Str.ofString "-01"]
def dN:KW Str:=[Str.ofString "count",Str.ofString "whole",Str.ofString "ways",Str.ofString "shade",Str.ofString "drawings"]
def kM:KW Str:=[Str.ofString "0",Str.ofString "6",Str.ofString "999",Str.ofString "-1",Str.ofString "-999",Str.ofString "7"]
def kN:KW Str:=[Str.ofString "7",Str.ofString "-1",Str.ofString "8",Str.ofString "999",Str.ofString "-999"]
def fc:KW Str:=(kM.flatMap λa=>(List.range 8).map λn=>a++sp1++nS n)++((List.range 5).flatMap λn=>kN.map λa=>nS (1+n)++sp1++a)++(List.range 3).map λn=>Str.ofString "5 "++nS (4+n)
def ix:KW Str:=[Str.ofString "count 2 1",Str.ofString "free 3",Str.ofString "rows",Str.ofString "polynomial 1",Str.ofString "ends 1 0 - 1",Str.ofString "markings 1 : none",Str.ofString "count 9 9"]
def nf0:KW Str:=[Str.ofString "",Str.ofString " ",Str.ofString "counts 2 1",Str.ofString "count",Str.ofString "count 2",Str.ofString "count 2 1 0",Str.ofString "free",Str.ofString "free 3 1",Str.ofString "rows 1"]
def sO(g:Str):KW Str:=[Str.ofString " "++g,g++Str.ofString " ",Txt.replace g (Str.ofString " ") (Str.ofString "  ")++Str.ofString " ",Txt.upper g,g++Str.ofString " x"]
def nf1:KW Str:=ix.flatMap sO
def g2(a:Str):KW Str:=fS.flatMap λb=>(List.range 12).map λn=>a++sp1++b++sp1++nS n
def nf2:KW Str:=dN.flatMap g2
def g3(a:Str):KW Str:=fS.flatMap λb=>(List.range 12).map λn=>a++sp1++nS n++sp1++b
def nf3:KW Str:=dN.flatMap g3
def fpL:KW Str:=[Str.ofString "free ",Str.ofString "polynomial "]
def nf4:KW Str:=fpL.flatMap λa=>fS.map λb=>a++b
def kO:KW Str:=[Str.ofString "",Str.ofString ",",Str.ofString "1,",Str.ofString ",1",Str.ofString "1,,1",Str.ofString "01",Str.ofString "-1",Str.ofString "1,-1",Str.ofString "1000",Str.ofString "a",Str.ofString "--",Str.ofString "+1",Str.ofString "1, 1"]
def nf5:KW Str:=kO.flatMap λb=>(List.range 9).flatMap λn=>[Str.ofString "ends 2 "++nS n++sp1++b++Str.ofString " -",Str.ofString "ends 2 "++nS n++Str.ofString " - "++b]
def mkL:KW Str:=[Str.ofString "",Str.ofString "1-1",Str.ofString "2-1",Str.ofString "1-2x1",Str.ofString "1-2x61",Str.ofString "0-1",Str.ofString "1-10",Str.ofString "2-3 1-2",Str.ofString "None",Str.ofString "none 1-2",Str.ofString "1-2  2-3"]
def nf6:KW Str:=mkL.flatMap λb=>(List.range 9).map λn=>Str.ofString "markings "++nS n++Str.ofString " : "++b
def kP:KW Str:=[Str.ofString "markings 2 none",Str.ofString "markings 2 :",Str.ofString "markings : none",Str.ofString "markings 2 ; none",Str.ofString "markings x : none"]
def kQ:KW Str:=[Str.ofString "markings 2 : : none",Str.ofString "Markings 2 : none",Str.ofString "markings",Str.ofString "markings 2"]
def b0:KW Str:=[Str.ofString "free 0",Str.ofString "free 9",Str.ofString "free -1",Str.ofString "free 999"]
def b1:KW Str:=[Str.ofString "polynomial 4",Str.ofString "polynomial -1",Str.ofString "polynomial 999"]
def b2t:KW Str:=[Str.ofString "- 2",Str.ofString "1 0",Str.ofString "- -",Str.ofString "0,1 1",Str.ofString "999 -"]
def h2(a:Str):KW Str:=b2t.map λb=>Str.ofString "ends "++a++sp1++b
def b2:KW Str:=fc.flatMap h2
def b3d:KW Str:=[Str.ofString "0",Str.ofString "6",Str.ofString "-1",Str.ofString "999"]
def b3t:KW Str:=[Str.ofString "none",Str.ofString "1-2",Str.ofString "1-9x60"]
def b3:KW Str:=b3d.flatMap λa=>b3t.map λb=>Str.ofString "markings "++a++Str.ofString " : "++b
def b4:KW Str:=(List.range 4).map λn=>Str.ofString "ways 4 "++nS (3+n)
def h5(a:Str):KW Str:=fc.map λb=>a++sp1++b
def b5:KW Str:=dN.flatMap h5
def enL:KW Str:=[Str.ofString "- -",Str.ofString "2 1",Str.ofString "- 3",Str.ofString "0,1 1",Str.ofString "1,0 1",Str.ofString "- 2,0",Str.ofString "0 2",Str.ofString "- 0",Str.ofString "0,0,1 -",Str.ofString "1 -",Str.ofString "999 -",Str.ofString "- 0,999"]
def Ec:KW Str:=enL.flatMap λb=>(List.range 7).map λn=>Str.ofString "ends 2 "++nS n++sp1++b
def dr1:KW Str:=[Str.ofString "markings 2 : 1-3",Str.ofString "markings 1 : 1-2",Str.ofString "markings 4 : 1-2 2-9",Str.ofString "markings 5 : 1-6"]
def dr2:KW Str:=[Str.ofString "markings 2 : 1-2x2",Str.ofString "markings 3 : 1-2 1-3",Str.ofString "markings 3 : 2-3x2",Str.ofString "markings 5 : 4-5x60"]
def spL (c : Nat) : List Nat → List (List Nat)
  | [] => [[]]
  | x :: r => match Nat.beq x c, spL c r with
    | true, ws => [] :: ws
    | false, w :: ws => (x :: w) :: ws
    | false, [] => [[x]]
def spS (c : Nat) (t : Str) : List Str := (spL c t.cps.toList).map fun l => ⟨⟨l⟩⟩
theorem spL_ok (c : Nat) : ∀ l : List Nat, spL c l ≠ [] ∧ (∀ w ∈ spL c l, c ∉ w) ∧ (Str.join ⟨#[c]⟩ ((spL c l).map fun w => ⟨⟨w⟩⟩)).cps.toList = l
  | [] => ⟨by simp [spL], by simp [spL], rfl⟩
  | x :: r => by
    obtain ⟨n, f, j⟩ := spL_ok c r
    unfold spL
    cases h : spL c r with
    | nil => exact absurd h n
    | cons w ws =>
      rw [h] at f j
      cases hb : Nat.beq x c with
      | true =>
        obtain rfl := Nat.eq_of_beq_eq_true hb
        refine ⟨by simp, fun v hv => ?_, ?_⟩
        · rcases List.mem_cons.mp hv with rfl | hv
          · simp
          · exact f v hv
        · exact (gF x ⟨⟨[]⟩⟩ ⟨⟨w⟩⟩ _).trans (congrArg (x :: ·) j)
      | false =>
        refine ⟨by simp, fun v hv => ?_, ?_⟩
        · rcases List.mem_cons.mp hv with rfl | hv
          · exact fun z => (List.mem_cons.mp z).elim (fun e => Nat.ne_of_beq_eq_false hb e.symm) (f w (by simp))
          · exact f v (by simp [hv])
        · cases ws with
          | nil => exact congrArg (x :: ·) j
          | cons u us =>
            exact (gF c ⟨⟨x :: w⟩⟩ ⟨⟨u⟩⟩ _).trans (congrArg (x :: ·) ((gF c ⟨⟨w⟩⟩ ⟨⟨u⟩⟩ _).symm.trans j))
theorem spS_eq (c : Nat) (t : Str) : spS c t = Txt.split t ⟨#[c]⟩ := by
  obtain ⟨n, f, j⟩ := spL_ok c t.cps.toList
  have e : Str.join ⟨#[c]⟩ (spS c t) = t := Str.ext' (Array.toList_inj.mp j)
  have k : spS c t ≠ [] := by simpa [spS] using n
  have := kE k fun w hw => by
    obtain ⟨l, hl, rfl⟩ := List.mem_map.mp hw
    exact f l hl
  rw [e] at this
  exact this.symm
def reQ (z : Str) : Option (List Int) := if z = Str.ofString "-" then some [] else bb (ntF 3) (spS 44 z)
def dFq (t : Str) : Option (List Lf) := if t = Str.ofString "none" then some [] else match bb (fun w : Str => cA w.cps.toList) (spS 32 t) with
  | some ps => if (ps.map aO).Pairwise (fun x y => ltI y x = false) then some ps else none
  | none => none
def tgQ (p : Nat × Str) : Option Th := if p.1 = 101 then (match reQ p.2 with | some l => some (.e l) | none => none) else match rdF p.2 with | some i => some (.n i) | none => none
def rmQ (ws : List Str) : Option (List Th) := if (ws.drop 2).take 1 = [m7] then (match rdF (ws.getD 1 Str.empty), dFq (Txt.join (Str.ofString " ") (ws.drop 3)) with | some n, some ps => some [.n n, .m ps] | _, _ => none) else none
def outQ (t : Str) : Nat := match spS 32 t with
  | [] => 0
  | nm :: r => if nm = Str.ofString "markings" then (match rmQ (nm :: r) with | some ts => kdF nm ts | none => 0) else match e9.lookup nm with
    | none => 0
    | some s => if r.length = s.length then (match bb tgQ (s.cps.toList.zip r) with | some ts => kdF nm ts | none => 0) else 0
theorem re_eq : reQ = reF := funext fun z => by
  unfold reQ reF
  rw [spS_eq]
  rfl
theorem d_eq : dFq = dF := funext fun z => by
  unfold dFq dF
  rw [spS_eq]
  rfl
theorem rm_eq : rmQ = rmF := funext fun ws => by
  unfold rmQ rmF
  rw [d_eq]
  rfl
theorem out_eq (t : Str) : outQ t = cJ t := by
  unfold outQ cJ rrF
  rw [spS_eq]
  change (match Txt.split t (Str.ofString " ") with | [] => 0 | nm :: r => _) = _
  cases Txt.split t (Str.ofString " ") with
  | nil => rfl
  | cons nm r =>
    dsimp only
    split
    · rw [rm_eq]
      cases rmF (nm :: r) <;> rfl
    · cases e9.lookup nm with
      | none => rfl
      | some s =>
        dsimp only
        split
        · have : tgQ = tgF := by
            unfold tgQ tgF
            rw [re_eq]
            rfl
          rw [this]
          cases bb tgF (s.cps.toList.zip r) <;> rfl
        · rfl
def aD(c:Nat)(t:Str):Bool:=decide (t.length<=40)&&t.cps.toList.all (· <128)&&decide (outQ t=c)
def shB(t:Str):Bool:=decide (t.length<=20)&&t.cps.toList.all (· <128)
def bU:KW Str:=fS++dN++kM++kN++ix++fpL++kO++mkL++b2t++b3d++b3t++enL++fc
theorem sP{t:Str}(h:aD c t=true):Fit 100 t/\cJ t=c:=by
 unfold aD at h;rw[out_eq] at h;simp only[AB,Aj,AG] at h;exact⟨⟨by lia,h.1.2⟩,h.2⟩
theorem Ed:nf0.all (aD 0)=true:=by ac_nf
theorem Ee:nf1.all (aD 0)=true:=by ac_nf
theorem Ef:(g2 (Str.ofString "count")).all (aD 0)=true:=by ac_nf
theorem Eg:(g2 (Str.ofString "whole")).all (aD 0)=true:=by ac_nf
theorem Eh:(g2 (Str.ofString "ways")).all (aD 0)=true:=by ac_nf
theorem Ei:(g2 (Str.ofString "shade")).all (aD 0)=true:=by ac_nf
theorem Ej:(g2 (Str.ofString "drawings")).all (aD 0)=true:=by ac_nf
theorem Ek:nf2.all (aD 0)=true:=AG.mpr λu hu=>by
 unfold nf2 at hu;obtain⟨a,ha,h⟩:=AZ.mp hu;simp only[dN,AH,Av,Bl] at ha;rcases ha with rfl|rfl|rfl|rfl|rfl
 .exact AG.mp Ef u h
 .exact AG.mp Eg u h
 .exact AG.mp Eh u h
 .exact AG.mp Ei u h
 .exact AG.mp Ej u h
theorem El:(g3 (Str.ofString "count")).all (aD 0)=true:=by ac_nf
theorem Em:(g3 (Str.ofString "whole")).all (aD 0)=true:=by ac_nf
theorem En:(g3 (Str.ofString "ways")).all (aD 0)=true:=by ac_nf
theorem Eo:(g3 (Str.ofString "shade")).all (aD 0)=true:=by ac_nf
theorem Ep:(g3 (Str.ofString "drawings")).all (aD 0)=true:=by ac_nf
theorem Er:nf3.all (aD 0)=true:=AG.mpr λu hu=>by
 unfold nf3 at hu;obtain⟨a,ha,h⟩:=AZ.mp hu;simp only[dN,AH,Av,Bl] at ha;rcases ha with rfl|rfl|rfl|rfl|rfl
 .exact AG.mp El u h
 .exact AG.mp Em u h
 .exact AG.mp En u h
 .exact AG.mp Eo u h
 .exact AG.mp Ep u h
theorem Es:nf4.all (aD 0)=true:=by ac_nf
theorem sQ:nf5.all (aD 0)=true:=by ac_nf
theorem Et:nf6.all (aD 0)=true:=by ac_nf
theorem Eu:(kP++kQ).all (aD 0)=true:=by ac_nf
theorem Ev:b0.all (aD 1)=true:=by ac_nf
theorem Ew:b1.all (aD 1)=true:=by ac_nf
theorem Ex:((fc.take 38).flatMap h2).all (aD 1)=true:=by ac_nf
theorem Ey:((fc.drop 38).flatMap h2).all (aD 1)=true:=by ac_nf
theorem Ez:b2.all (aD 1)=true:=by
 rw[show b2=(fc.take 38).flatMap h2++(fc.drop 38).flatMap h2 by rw[<-CS,List.take_append_drop];rfl,List.all_append,Ex,Ey];rfl
theorem EA:b3.all (aD 1)=true:=by ac_nf
theorem EB:b4.all (aD 1)=true:=by ac_nf
theorem EC:(h5 (Str.ofString "count")).all (aD 1)=true:=by ac_nf
theorem ED:(h5 (Str.ofString "whole")).all (aD 1)=true:=by ac_nf
theorem EF:(h5 (Str.ofString "ways")).all (aD 1)=true:=by ac_nf
theorem EG:(h5 (Str.ofString "shade")).all (aD 1)=true:=by ac_nf
theorem EH:(h5 (Str.ofString "drawings")).all (aD 1)=true:=by ac_nf
theorem EI:b5.all (aD 1)=true:=AG.mpr λu hu=>by
 unfold b5 at hu;obtain⟨a,ha,h⟩:=AZ.mp hu;simp only[dN,AH,Av,Bl] at ha;rcases ha with rfl|rfl|rfl|rfl|rfl
 .exact AG.mp EC u h
 .exact AG.mp ED u h
 .exact AG.mp EF u h
 .exact AG.mp EG u h
 .exact AG.mp EH u h
theorem EJ:Ec.all (aD 2)=true:=by ac_nf
theorem sR:(dr1++dr2).all (aD 3)=true:=by ac_nf
theorem EK:bU.all shB=true:=by ac_nf
theorem sh{u:Str}(h:u∈bU):u.length<=20:=by
 have:=AG.mp EK u h;unfold shB at this;simp only[AB,Aj] at this;exact this.1
theorem cY:∀n,n<20->(nS n).length<=2/\((n:Nat):Int).natAbs.log2<1920:=by ac_nf
def sS(g:Str):Bool:= !(g.length==0)&&decide (g.length<=20)&& !(Builtin.Str.tooLong (Txt.upper g).length)&&decide ((Txt.replace g (Str.ofString " ") (Str.ofString "  ")).length<=60)
theorem EL:ix.all sS=true:=by ac_nf
def b8{L:KW Str}(e:L.all (aD c)=true){u:Str}(hu:u∈L):aD c u=true:=AG.mp e u hu
theorem EM:aD 4 (Str.ofString "count 2 1")=true:=by ac_nf
theorem EN:aD 5 (Str.ofString "free 3")=true:=by ac_nf
theorem sT:aD 6 (Str.ofString "rows")=true:=by ac_nf
inductive spCell(K:W.Frag)(vs:List V)(H:Hp)(Q:VK)(E':XK):Prop
 |mk (a:Addr) (ns:List Int) (k:Int):vs=[.ref a,.int k]->SqL K H a (ns.map V.int)->0<=k->(∀z,Q (.int z) H)->spCell K vs H Q E'
theorem EO{z:Int}(h0:0<z)(h1:z<=10^60):z≠0/\z.natAbs<2^512:=by
 have:(10:Nat)^60<2^512:=by decide
 constructor<;>lia
def But(b:KP)(H H':Hp):Prop:=∀c o,H c=some o->c≠b->H' c=some o
def But.of_same(s:af H H'):But b H H':=λc o e _=>s _ _ e
def But.trans(s:But b H H')(t:But b H' H''):But b H H'':=λc o e n=>t c o (s c o e n) n
theorem But.upd{b:KP}{H:Hp}{o:HO}:But b H (L2.upd H b o):=λc u e n=>by rw[au n];exact e
theorem EQ :bh vs none (some (k:Int))=vs.take k:=by
 unfold bh;rw[HT.sIx_nat,HT.sIx_none,List.drop_zero,Nat.sub_zero];exact List.take_eq_take_iff.mpr (by lia)
inductive spGreat(vs:List V)(H:Hp)(Q:VK)(E':XK):Prop
 |mk (x:Int):vs=[.int x]->(∀z,0<=z->Q (.int z) H)->spGreat vs H Q E'
inductive spDig(vs:List V)(H:Hp)(Q:VK)(E':XK):Prop
 |mk (b:Addr) (m z:Int):vs=[.ref b,.int m]->H b=some (.lst [.int z])->0<=z->0<m->m<=10^60->(∀y z',0<=y->y<m->0<=z'->Q (.int y) (upd H b (.lst [.int z'])))->spDig vs H Q E'
inductive spSpl(K:W.Frag)(vs:List V)(H:Hp)(Q:VK)(E':XK):Prop
 |mk (a:Addr) (d:Nat) (ws:List Int):vs=[.int d,.ref a]->SqL K H a (ws.map V.int)->2<=d->d<=8->ws.length=d->((∀i:Nat,i<d->ws[i]? =some (wh i)))->Q (.int (wh d)) H->spSpl K vs H Q E'
inductive spWh(c:Addr)(vs:List V)(H:Hp)(Q:VK)(E:XK):Prop
 |mk v:vs=[v]->aK H v->((∀n:Nat,v=.int n->1<=n->n<=8->∀H',af H H'->Q (.int (wh n)) H'))->((¬Within 1 8 v->E (.ref c) none H))->spWh c vs H Q E
theorem m8{ws:KW Int}(hw:∀i:Nat,i<d->ws[i]? =some (wh i)){z:Int}(h0:0<=z)(h1:z<d):atI (ws.map V.int) z=some (.int (wh z)):=by
 obtain⟨n,rfl⟩:=AK h0;exact aW (j:=n) rfl (by rw[AF,hw n (by lia)];rfl)
inductive spChA(vs:List V)(H:Hp)(Q:VK)(E':XK):Prop
 |mk (n k:Int):vs=[.int n,.int k]->0<=n->n<=100->Q (.int (cho n k)) H->spChA vs H Q E'
def bN(H:Hp)(b:KP)(z:Int):Prop:=H b=some (.lst [.int z])/\0<=z
inductive spShL(vs:List V)(H:Hp)(Q:VK)(E':XK):Prop
 |mk (v:V) (p:Lf):vs=[v]->Is H (lf p) v->OkL p->Q (.str (wrd p)) H->spShL vs H Q E'
def stD(x:KW Lf×Int):D:= .t [lfs x.1,.i x.2]
def Lok(p:Lf):Prop:=0<=p.2.1-p.1/\p.2.1-p.1<=10/\1<=p.2.2/\p.2.2<=20
inductive spDegQ(vs:List V)(H:Hp)(Q:VK)(E':XK):Prop
 |mk (i:Int):vs=[.int i]->1<=i->i<=5->Q .non H->spDegQ vs H Q E'
inductive spEndQ(vs:List V)(H:Hp)(Q:VK)(E':XK):Prop
 |mk (n:Nat) (dv:V) (ps:List Lf):vs=[.int n,dv]->1<=n->n<=5->Is H (lfs ps) dv->((∀p∈ps,Okl n p))->(∀l H',af H H'->H l=none->H' l=some (.lst ((bi n ps).map V.int))->Q (.ref l) H')->spEndQ vs H Q E'
inductive spLost(vs:List V)(H:Hp)(Q:VK)(E':XK):Prop
 |mk (v:V) (p:Lf):vs=[v]->Is H (lf p) v->Lok p->Q (.int (bY p)) H->spLost vs H Q E'
inductive spLfr(vs:List V)(H:Hp)(Q:VK)(E':XK):Prop
 |mk (d f n:Nat) (sp:Int):vs=[.int d,.int f,.int n,.int sp]->f<=d->d<=5->n<=20->(∀l H',af H H'->H l=none->Is H' (lfs (cU f (d-f) n sp)) (.ref l)->Q (.ref l) H')->spLfr vs H Q E'
inductive spLeav(n:Nat)(E':W.Frag)(vs:List V)(H:Hp)(Q:VK)(E2:XK):Prop
 |mk (v:V) (ls:List Lf) (wt sp:Int):vs=[v,.int wt,.int sp]->Is H (lfs ls) v->((∀p∈ls,Lok p))->0<=wt->wt<n->(cz n ls wt sp).length<=1000->ls.length<=200->n<=100->(∀l H',af H H'->H l=none->Is (nw H H') (.l ((cz n ls wt sp).map lfs)) (.ref l)->Q (.ref l) H')->spLeav n E' vs H Q E2
inductive spWith(vs:List V)(H:Hp)(Q:VK)(E':XK):Prop
 |mk (d f:Nat) (v:V) (x:List Lf×Int):vs=[.int d,.int ((f+1:Nat):Int),v,.int x.2]->f<d->d<=5->Is H (lfs x.1) v->stB d f x=true->(∀l H',af H H'->H l=none->Is (nw H H') (.l ((dr d (f+1) x.1 x.2).map stD)) (.ref l)->Q (.ref l) H')->spWith vs H Q E'
theorem sU{n:String}:W.kitOne K (.type n) (.type n)=some true:=by
 unfold W.kitOne;simp
theorem sV{H:Hp}{Wq:KW (KW Lf)}{vs:KW V}(h:Iss H (Wq.map lfs) vs):∀(l:KW Nat),(∀i∈l,i<Wq.length)->Iss H ((l.map λi=>Wq.getD i []).map lfs) (l.map λi=>vs.getD i .non)
 |[],_=>aM
 |i::l,hl=>by
  have hi:i<Wq.length:=hl i (by simp);have hr:i<vs.length:=by rw[h.length,A3];exact hi
  refine aT ?_ (sV h l λj hj=>hl j (by simp[hj]));obtain⟨d,hd,h1⟩:=h.of_get (A1 hr);rw[AF,A1 hi] at hd;cases hd;show Is H (lfs (Wq.getD i [])) (vs.getD i .non);rw[A7,A7,A1 hi,A1 hr];exact h1
theorem sW{x:KW Lf×Int}(h:Is H (stD x) v):∃t u,v=.ref t/\H t=some (.tup [u,.int x.2])/\Is H (lfs x.1) u:=by
 obtain⟨t,vs,rfl,ht,hi⟩:=dk h;obtain⟨u,us,rfl,h1,h2⟩:=aU hi;obtain⟨u2,us2,rfl,h3,h4⟩:=aU h2;rw[aS h3,bP h4] at ht;exact⟨t,u,rfl,ht,h1⟩
theorem sX(k:But a H H'):af (hid H a) H':=λb o e=>by
 have hb:b≠a:=by rintro rfl;rw[wL] at e;cases e
 rw[lG hb] at e;exact k _ _ e hb
theorem m9(h:i<=vs.length):bh vs (some (i:Int)) none=vs.drop i:=by
 unfold bh;rw[HT.sIx_nat,HT.sIx_none,Nat.min_eq_left h,Cj (by simp)]
def Snd.good(h:Snd d ps):gj d ps:=⟨h.ok,h.nn⟩
theorem ER(ps qs:KW Lf)(h:Is H (lfs ps) v)(k:Is H (lfs qs) u):EqR K H 2 v u (decide (ps=qs)):=by
 have kin:∀ps qs:KW Lf,cQ (ps.map lf) (qs.map lf):=λps=>by
  induction ps with
  |nil=>intro qs;cases qs<;>exact trivial
  |cons p ps ih=>
   intro qs;cases qs with
   |nil=>exact trivial
   |cons q qs=>exact⟨by simp[lf,tI,aO,Kin,cQ],ih qs⟩
 have dp:∀ps:KW Lf,cR (ps.map lf)<=1:=λps=>by
  induction ps with
  |nil=>simp[cR]
  |cons p ps ih=>simp[cR,lf,tI,aO,dep] at ih⊢;lia
 have e:=h.eqr (K:=K) (n:=2) (by have:=dp ps;unfold lfs dep;lia) (by unfold lfs Kin;exact kin ps qs) k;have e1:∀p q:Lf,eqD (lf p) (lf q)=decide (p=q):=λp q=>by
  obtain⟨a,b,c⟩:=p;obtain⟨d,e,f⟩:=q;simp[lf,tI,aO,eqD,bQ,Bool.and_assoc]
 have e2:∀ps qs:KW Lf,bQ (ps.map lf) (qs.map lf)=decide (ps=qs):=λps=>by
  induction ps with
  |nil=>intro qs;cases qs<;>simp[bQ]
  |cons p ps ih=>
   intro qs;cases qs with
   |nil=>simp[bQ]
   |cons q qs=>simp[bQ,e1,ih]
 have:eqD (lfs ps) (lfs qs)=decide (ps=qs):=by
  unfold lfs;rw[eqD];exact e2 ps qs
 rwa [this] at e
theorem Snd.okl{d:Nat}{ps:KW Lf}(h:Snd d ps):∀p∈ps,Okl d p:=h.good.okl
def ES{ns:KW Int}(h:∀i:Nat,0<=ns.getD i 0):0<=eK ns:=h _
theorem Snd.ends(h:Snd d ps)(i:Nat):0<=(bi d ps).getD i 0:=by
 rcases C4 i d with c|c
 .rw[Dc h.okl c];exact h.nn i c
 .rw[A7,C8 (by rw[ko d ps h.okl];exact c)];exact Int.le_refl _
inductive spSou(vs:List V)(H:Hp)(Q:VK)(E':XK):Prop
 |mk (n:Nat) (dv:V) (ps:List Lf):vs=[.int n,dv]->1<=n->n<=5->Is H (lfs ps) dv->Snd n ps->(∀H',af H H'->Q (.bl true) H')->spSou vs H Q E'
inductive spNeS(vs:List V)(H:Hp)(Q:VK)(E':XK):Prop
 |mk (n:Nat) (dv:V) (ps:List Lf):vs=[.int n,dv]->1<=n->n<=5->Is H (lfs ps) dv->Snd n ps->(∀H',af H H'->Q .non H')->spNeS vs H Q E'
inductive spEnM(vs:List V)(H:Hp)(Q:VK)(E':XK):Prop
 |mk (n:Nat) (dv:V) (ps:List Lf):vs=[.int n,dv]->1<=n->n<=5->Is H (lfs ps) dv->Snd n ps->(eu n (bi n ps)).length<=20->(∀l H',af H H'->H l=none->Is H' (lfs (eu n (bi n ps))) (.ref l)->Q (.ref l) H')->spEnM vs H Q E'
theorem sY(s:af H H')(hl:H l=some (.lst xs))(h:Iss H (qs.map lf) vs):Iss (upd H' l o) (qs.map lf) vs:=
 ik (λa ys e=>by rw[au (by rintro rfl;rw[hl] at e;cases e)];exact s _ _ e) h
theorem ET(h:Is H (lf p) v)(k:Is H (lf q) v):p=q:=by
 obtain⟨a,rfl,ha⟩:=eW h;obtain⟨b,e,hb⟩:=eW k;cases e;rw[ha] at hb;obtain⟨a1,a2,a3⟩:=p;obtain⟨b1,b2,b3⟩:=q;simp at hb;simp[hb]
theorem EU{m:Lf}(h:Iss H (wt.map lf) JA)(k:Is H (lf m) v):xp K H 1 JA v (λj=>decide (wt.getD j (0,0,0)=m)):=by
 have bo:∀(j:Nat) z,JA[j]? =some z->Is H (lf (wt.getD j (0,0,0))) z:=λj z hz=>by
  obtain⟨d',Ib,h1⟩:=cj h hz;rw[List.getD,Ib];exact h1
 refine⟨by decide,λj z hz=>⟨?_,rD (bo j z hz) k⟩,λi j z hi hj=>?_⟩
 .obtain⟨a,e,_⟩:=eW (bo j z hz);exact⟨a,e⟩
 .show decide (wt.getD i (0,0,0)=m)=decide (wt.getD j (0,0,0)=m);rw[ET (bo i z hi) (bo j z hj)]
def ti(t:KW Int):D:=tI t
inductive spCho(vs:List V)(H:Hp)(Q:VK)(E':XK):Prop
 |mk (n:Int) (k:Nat):vs=[.int n,.int k]->(k:Int)<=n->n<=15->Q (.int (chF n k)) H->spCho vs H Q E'
inductive spWm(vs:List V)(H:Hp)(Q:VK)(E':XK):Prop
 |mk (v:V) (t:List Int) (p:Nat) (m:Int):vs=[v,.int p,.int m]->Is H (tI t) v->p<t.length->t.length<=5->(∀u H',af H H'->Is H' (tI (wmF t p m)) u->Q u H')->spWm vs H Q E'
def EV(t:KW Int)(a:Nat):Prop:=t.length<=5/\(∀i:Nat,0<=t.getD i 0)/\t.sum+(a:Int)<=15
inductive spPB(n:Nat)(E':W.Frag)(vs:List V)(H:Hp)(Q:VK)(E2:XK):Prop
 |mk (v:V) (t:List Int) (p g a:Nat):vs=[v,.int p,.int ((p:Int)+(g:Int)),.int a]->Is H (tI t) v->g<n->n<=6->p+g<t.length->EV t a->(∀l H',af H H'->H l=none->Is H' (.l ((pbF g t p a).map prD)) (.ref l)->Q (.ref l) H')->spPB n E' vs H Q E2
def sZ(d:Nat)(mk:KW Lf):Prop:=(∀m∈mk,1<=m.1/\m.1<m.2.1/\m.2.1<=(d:Int)+1)/\mk.length<=15
inductive spHMO(vs:List V)(H:Hp)(Q:VK)(E':XK):Prop
 |mk (d:Nat) (v:V) (mk:List Lf):vs=[.int d,v]->1<=d->d<=5->Is H (lfs mk) v->sZ d mk->ssB (mk.map aO)=true->(∀H',af H H'->Q (.int (hmF d mk)) H')->spHMO vs H Q E'
theorem EW{x:KW Lf}(h:mkB d x=true):sZ d (x++eu d (bi d x))/\ssB (mkD d x)=true:=by
 unfold mkB at h;simp only[AB,Aj,AG] at h;exact⟨⟨λm hm=>⟨(h.1.1 m hm).1.1,(h.1.1 m hm).1.2,(h.1.1 m hm).2⟩,h.1.2⟩,h.2⟩
inductive spHM(vs:List V)(H:Hp)(Q:VK)(E':XK):Prop
 |mk (d:Nat) (v:V) (ps:List Lf):vs=[.int d,v]->1<=d->d<=5->Is H (lfs ps) v->Snd d ps->mkB d ps=true->(∀H',af H H'->Q (.int (hmF d (ps++eu d (bi d ps)))) H')->spHM vs H Q E'
theorem EX{t:KW Int}{p:Nat}(H':Hp)(vs:KW V)(h:Iss H' (t.map .i) vs):Iss H' ((t.take p).map .i) (bh vs none (some (p:Int))):=by
 rw[EQ,List.map_take];exact h.take p
theorem EY{t:KW Int}{p:Nat}(hp:p<=t.length)(H':Hp)(vs:KW V)(h:Iss H' (t.map .i) vs):Iss H' ((t.drop p).map .i) (bh vs (some (p:Int)) none):=by
 rw[m9 (by rw[h.length,A3];exact hp),List.map_drop];exact h.drop p
theorem tj:∀{g:Nat}{t:KW Int}{p a:Nat},(pbF g t p a).length<=(a+1)^g
 |0,t,p,a=>by simp[pbF]
 |g+1,t,p,a=>by
  have go:∀n,n<=a+1->((List.range n).flatMap λh:Nat=>(pbF g (wmF t p (h:Int)) (p+1) (a-h)).map λx=>(x.1,chF (t.getD p 0+(h:Int)) h*x.2)).length<=n*(a+1)^g:=by
   intro n hn;induction n with
   |zero=>simp
   |succ n ih=>
    rw[gw,AX,A3];have h1:=ih (by lia);have h2:=tj (g:=g) (t:=wmF t p (n:Int)) (p:=p+1) (a:=a-n);have h3:(a-n+1)^g<=(a+1)^g:=Nat.pow_le_pow_left (by lia) g;rw[Nat.succ_mul];lia
  have:=go (a+1) (A8 _);rw[Nat.pow_succ,Nat.mul_comm];exact this
theorem EZ{g:Nat}{t:KW Int}{p a:Nat}(hg:g<=5)(ha:a<=15):(pbF g t p a).length<=1048576:=by
 have h1:=tj (g:=g) (t:=t) (p:=p) (a:=a);have h2:(a+1)^g<=16^g:=Nat.pow_le_pow_left (by lia) g;have h3:16^g<=16^5:=Nat.pow_le_pow_right (by decide) hg;lia
theorem tq(h:n<=1048576):n<sizeLine:=by rw[As];lia
def ng{t:KP}(h:H t=some (.tup [u,.int x.2]))(k:Is H (tI x.1) u):Is H (prD x) (.ref t):=dB h (aT k (aT dj aM))
theorem nh(h:Is H (prD x) v):∃t u,v=.ref t/\H t=some (.tup [u,.int x.2])/\Is H (tI x.1) u:=by
 obtain⟨t,vs,rfl,ht,hi⟩:=dk h;obtain⟨u1,us,rfl,Hq,hi⟩:=aU hi;obtain⟨u2,us,rfl,HZ,hi⟩:=aU hi;rw[bP hi,aS HZ] at ht;exact⟨t,u1,rfl,ht,Hq⟩
theorem E1(s:aX H H'){t:KW Int}(h:Is H (tI t) v):Is H' (tI t) v:=by
 obtain⟨a,rfl,ha⟩:=eM h;exact ja (s _ _ ha)
theorem kS(s:aX H H')(h:Is H (prD x) v):Is H' (prD x) v:=by
 obtain⟨a,u,rfl,ha,hu⟩:=nh h;exact ng (s _ _ ha) (E1 s hu)
theorem tz{H H':Hp}(s:aX H H'):∀{xs:KW (KW Int×Int)}{vs:KW V},Iss H (xs.map prD) vs->Iss H' (xs.map prD) vs
 |[],_,h=>by rw[bP h];exact aM
 |x::xs,_,h=>by
  obtain⟨u,us,rfl,q,r⟩:=aU h;exact aT (kS s q) (tz s r)
theorem E3{t:KW Int}{p:Nat}(h:∀i:Nat,0<=t.getD i 0)(hs:t.sum+(r.sum:Nat)<=15)(hl:r.length<=5): -(2^64)<bZ t p r/\bZ t p r<2^64:=by
 obtain⟨a,b⟩:=rX (p:=p) h hs;have:(6435:Int)^r.length<=6435^5:=by
  have:r.length=0\/r.length=1\/r.length=2\/r.length=3\/r.length=4\/r.length=5:=by lia
  rcases this with e|e|e|e|e|e<;>rw[e]<;>decide
 lia
theorem E4{m:Lf}(h:Iss H (wt.map lf) JA)(k:Is H (lf m) v):lY K H 1 JA v (λj=>decide (wt.getD j (0,0,0)=m)):=by
 obtain⟨a,b,c⟩:=EU (K:=K) h k;exact⟨a,λj z hz=>⟨(b j z hz).1,(b j z hz).2.told⟩,c⟩
theorem E5(xs:KW Lf):(cW xs).Nodup:=(mI xs).imp fun{a b} h e=>by subst e;exact kx h
theorem tD{α β:Type}(f:β->α->β)(b:β)(xs:KW α)(j:Nat)(x:α)(h:xs[j]? =some x):(xs.take (j+1)).foldl f b=f ((xs.take j).foldl f b) x:=by
 rw[Af,h,List.foldl_append];rfl
theorem E6(cnt:Lf->Nat)(m:Lf)(ms:KW Lf):TF cnt (m::ms)=gD (TF cnt ms) (m.1-1).toNat (spR (m.2.1-m.1-1).toNat (cnt m)):=by funext t;rfl
def E7{p:Nat}{rs:KW (KW Nat)}{D:Tab}{acc:Tab}(h:D[j]? =some x):stP p rs (D.take (j+1)) acc=inP x.1 x.2 p rs (stP p rs (D.take j) acc):=tD _ _ D j x h
def E8{d:KP}{Gp:KW (KW Key×V)}(h:H d=some (.dT Gp)):aX H (upd H d o):=(LTS.dict h).2
inductive spWorth(vs:List V)(H:Hp)(Q:VK)(E':XK):Prop
 |mk (dv:V) (ps:List Lf) (d:Nat):vs=[dv]->Is H (lfs ps) dv->((∀p∈ps,Okw d p))->Q (.int (eZ ps)) H->spWorth vs H Q E'
def rwL(t:KW Int):D:= .l (t.map .i)
theorem ni{t:KW Int}(h:Is H (rwL t) v):∃a,v=.ref a/\H a=some (.lst (t.map V.int)):=by
 obtain⟨a,vs,rfl,ha,hi⟩:=aP h;rw[i9 hi] at ha;exact⟨a,rfl,ha⟩
def E9{t:KW Int}(h:H a=some (.lst (t.map V.int))):Is H (rwL t) (.ref a):=ba h (lO t)
def kT(t:KW Int):Prop:=Nn t/\t.length<=5/\(t=[]\/∃s x,t=s++[x]/\0<x)
inductive spRwL(vs:List V)(H:Hp)(Q:VK)(E':XK):Prop
 |mk (v:V) (t:List Int):vs=[v]->Is H (rwL t) v->t.length<=5->(∀H',af H H'->Q (.int (wtF t)) H')->spRwL vs H Q E'
theorem aK.int{H:Hp}{i:Int}:aK H (.int i):= .inl ⟨_,rfl⟩
def gH(t:KW Int):Prop:=Nn t/\(t=[]\/∃s x,t=s++[x]/\0<x)
def tE(H:Hp)(r:V):Prop:=(aK H r/\∀a xs,r=.ref a->H a≠some (.lst xs))\/∃a,r=.ref a/\H a=some (.dK [])
def tF(H:Hp)(r:V):Prop:=∃(a:KP) (xs:KW V) (i:Nat) (x:V),r=.ref a/\H a=some (.lst xs)/\xs[i]? =some x/\(∀j,j<i->∃n:Int,xs[j]? =some (.int n)/\0<=n)/\aK H x/\∀n:Int,x=.int n->n<0
def Fa(H:Hp)(r:V):Prop:=∃(a:KP) (t:KW Int),r=.ref a/\H a=some (.lst ((t++[0]).map V.int))/\Nn t
def kU(H:Hp)(r:V):Prop:=tE H r\/tF H r\/Fa H r
def Bad(d:Int)(H:Hp)(r1 r2:V):Prop:=kU H r1\/(∃a,Is H (rwL a) r1/\gH a/\kU H r2)\/∃a b,Is H (rwL a) r1/\Is H (rwL b) r2/\gH a/\gH b/\a.length<=5/\b.length<=5/\wtF a+wtF b≠d
inductive spIsX(vs:List V)(H:Hp)(Q:VK)(E':XK):Prop
 |mk (r:V):vs=[r]->(((∃t,Is H (rwL t) r/\gH t/\Q (.bl true) H)\/(kU H r/\Q (.bl false) H)))->spIsX vs H Q E'
inductive spNeX(c:Addr)(vs:List V)(H:Hp)(Q:VK)(E:XK):Prop
 |mk (d:Int) (r1 r2:V):vs=[.int d,r1,r2]->(((∃a b,Is H (rwL a) r1/\Is H (rwL b) r2/\kT a/\kT b/\wtF a+wtF b=d/\∀H',af H H'->Q .non H')\/(Bad d H r1 r2/\∀H',af H H'->E (.ref c) none H')))->spNeX c vs H Q E
def kT.inn{t:KW Int}(h:kT t):gH t:=⟨h.1,h.2.2⟩
def Wd(v u:V):Prop:=∃d k:Nat,v=.int d/\u=.int k/\Wide d k
inductive spWid(c:Addr)(vs:List V)(H:Hp)(Q:VK)(E:XK):Prop
 |mk v u:vs=[v,u]->aK H v->aK H u->((Wd v u->Q .non H))->((¬Wd v u->E (.ref c) none H))->spWid c vs H Q E
inductive spNar(c:Addr)(vs:List V)(H:Hp)(Q:VK)(E:XK):Prop
 |mk v u:vs=[v,u]->aK H v->aK H u->(((∃d k:Nat,v=.int d/\u=.int k/\du d k)->Q .non H))->(((¬∃d k:Nat,v=.int d/\u=.int k/\du d k)->E (.ref c) none H))->spNar c vs H Q E
inductive spBt(c:Addr)(vs:List V)(H:Hp)(Q:VK)(E:XK):Prop
 |mk v lo hi:vs=[v,.int lo,.int hi]->aK H v->((Within lo hi v->Q .non H))->((¬Within lo hi v->(0<=lo/\lo<=20/\0<=hi/\hi<=20)/\E (.ref c) none H))->spBt c vs H Q E
theorem tG:∀a,a<21->∀b,b<21->(decide (((a:Nat):Int).natAbs.log2<1920)&&decide ((Str.empty++Str.ofString "not a whole number from ").length<=sizeLine)&&decide ((Str.empty++Str.ofString "not a whole number from "++Str.ofString (toString ((a:Nat):Int))).length<=sizeLine)&&decide ((Str.empty++Str.ofString "not a whole number from "++Str.ofString (toString ((a:Nat):Int))++Str.ofString " to ").length<=sizeLine)&&decide ((Str.empty++Str.ofString "not a whole number from "++Str.ofString (toString ((a:Nat):Int))++Str.ofString " to "++Str.ofString (toString ((b:Nat):Int))).length<=sizeLine))=true:=by ac_nf
inductive spDrw(c:Addr)(vs:List V)(H:Hp)(Q:VK)(E:XK):Prop
 |mk v u:vs=[v,u]->aK H v->aK H u->((∀d k:Nat,v=.int d->u=.int k->Wide d k->(d=2/\k=1)/\∀(L:List (List Lf)) l H',L.Perm (dt d k)->af H H'->H l=none->Is (nw H H') (.l (L.map lfs)) (.ref l)->Q (.ref l) H'))->((¬Wd v u->E (.ref c) none H))->spDrw c vs H Q E
inductive spDegX(c:Addr)(vs:List V)(H:Hp)(Q:VK)(E:XK):Prop
 |mk v:vs=[v]->aK H v->((Within 1 5 v->Q .non H))->((¬Within 1 5 v->E (.ref c) none H))->spDegX c vs H Q E
inductive spSouA(vs:List V)(H:Hp)(Q:VK)(E':XK):Prop
 |mk (n:Nat) (dv:V) (ps:List Lf):vs=[.int n,dv]->1<=n->n<=5->Is H (lfs ps) dv->((∀p∈ps,Okl n p))->(∀H',af H H'->Q (.bl (decide (0<=eK (bi n ps)))) H')->spSouA vs H Q E'
inductive spNeX2(c:Addr)(vs:List V)(H:Hp)(E':VK)(E:XK):Prop
 |mk (n:Nat) (dv:V) (ps:List Lf):vs=[.int n,dv]->1<=n->n<=5->Is H (lfs ps) dv->((∀p∈ps,Okl n p))->eK (bi n ps)<0->(∀H',af H H'->E (.ref c) none H')->spNeX2 c vs H E' E
inductive spCnt(c:Addr)(vs:List V)(H:Hp)(Q:VK)(E:XK):Prop
 |mk v u:vs=[v,u]->aK H v->aK H u->(((v=.int 2/\u=.int 1/\∀H',af H H'->Q (.int 3) H')\/(¬Wd v u/\E (.ref c) none H)))->spCnt c vs H Q E
inductive spOut(c:Addr)(vs:List V)(H:Hp)(E':VK)(E:XK):Prop
 |mk v u:vs=[v,u]->aK H v->aK H u->¬Wd v u->E (.ref c) none H->spOut c vs H E' E
def Nr(v u:V):Prop:=∃d k:Nat,v=.int d/\u=.int k/\du d k
inductive spOutN(c:Addr)(vs:List V)(H:Hp)(E':VK)(E:XK):Prop
 |mk v u:vs=[v,u]->aK H v->aK H u->¬Nr v u->E (.ref c) none H->spOutN c vs H E' E
inductive spPol(c:Addr)(vs:List V)(H:Hp)(E':VK)(E:XK):Prop
 |mk v:vs=[v]->aK H v->¬Within 0 3 v->E (.ref c) none H->spPol c vs H E' E
def kW:Sp:=λ_ _ _ _=>False
inductive spAsR(cB:Addr)(cE:Addr)(vs:List V)(H:Hp)(E':VK)(E:XK):Prop
 |mk (d k:Int) (r1 r2:V):vs=[.int d,.int k,r1,r2]->(((¬Wd (.int d) (.int k)/\E (.ref cB) none H)\/(Wd (.int d) (.int k)/\Bad d H r1 r2/\∀H',af H H'->E (.ref cE) none H')))->spAsR cB cE vs H E' E
inductive spNoR(c:Addr)(vs:List V)(H:Hp)(Q:VK)(E:XK):Prop
 |mk (z:Str) (m:Nat):vs=[.str z,.int m]->Fit 100 z->((m=1\/m=2\/m=3))->(((∃n,de z m n/\∀H',af H H'->Q (.int n) H')\/((∀n,¬de z m n)/\∀H',af H H'->E (.ref c) none H')))->spNoR c vs H Q E
theorem Fc(hp:OkL p)(hq:OkL q)(h:wrd p=wrd q):p=q:=by
 have a:=kI.mpr ⟨hp,(rfl:wrd p=wrd p)⟩;have b:=kI.mpr ⟨hq,(rfl:wrd q=wrd q)⟩;rw[h,b] at a;exact(AL a).symm
theorem nj{t:Str}(h:IsT t ps)(hn:t≠Str.ofString "none"):ps≠[]/\Txt.split t (Str.ofString " ")=ps.map wrd:=by
 obtain⟨rfl,_,ok⟩:=h;have h0:ps≠[]:=λz=>hn (by rw[z];rfl);exact⟨h0,sw h0 ok⟩
theorem tH(hp:∀p∈ps,OkL p)(hq:∀q∈qs,OkL q)(h:ps.map wrd=qs.map wrd):ps=qs:=by
 induction ps generalizing qs with
 |nil=>cases qs with
  |nil=>rfl
  |cons q qs=>cases h
 |cons p ps ih=>cases qs with
  |nil=>cases h
  |cons q qs=>
   simp only[AM,C7] at h;rw[Fc (hp p (by simp)) (hq q (by simp)) h.1,ih (λx hx=>hp x (by simp[hx])) (λx hx=>hq x (by simp[hx])) h.2]
inductive spRdR(c:Addr)(vs:List V)(H:Hp)(Q:VK)(E:XK):Prop
 |mk (z:Str):vs=[.str z]->Fit 100 z->(((∃p,OkL p/\z=wrd p/\∀(t:Addr) (H':Hp),af H H'->H' t=some (.tup [.int p.1,.int p.2.1,.int p.2.2])->Q (.ref t) H')\/((∀p,OkL p->z≠wrd p)/\∀H',af H H'->E (.ref c) none H')))->spRdR c vs H Q E
inductive spRdDR(c:Addr)(vs:List V)(H:Hp)(Q:VK)(E:XK):Prop
 |mk (t:Str):vs=[.str t]->Fit 100 t->(((∃ps,IsT t ps/\∀(l:Addr) (H':Hp),af H H'->Is H' (lfs ps) (.ref l)->Q (.ref l) H')\/((∀ps,¬IsT t ps)/\∀H',af H H'->E (.ref c) none H')))->spRdDR c vs H Q E
inductive spRdW(f:Str->Option Int)(c:Addr)(m:List V)(vs:List V)(H:Hp)(Q:VK)(E:XK):Prop
 |mk (z:Str):vs=.str z::m->Fit 100 z->((∀n,f z=some n->∀H',af H H'->Q (.int n) H'))->((f z=none->∀H',af H H'->E (.ref c) none H'))->spRdW f c m vs H Q E
inductive spREn(c:Addr)(vs:List V)(H:Hp)(Q:VK)(E:XK):Prop
 |mk (z:Str):vs=[.str z]->Fit 100 z->((∀ns,reF z=some ns->∀l H',af H H'->H l=none->H' l=some (.lst (ns.map V.int))->Q (.ref l) H'))->((reF z=none->∀H',af H H'->E (.ref c) none H'))->spREn c vs H Q E
def tgD:Th->D
 |.n i=>.i i
 |.e l=>rwL l
 |.m ps=>lfs ps
inductive spRTh(c:Addr)(vs:List V)(H:Hp)(Q:VK)(E:XK):Prop
 |mk (g:Nat) (z:Str):vs=[.str ⟨#[g]⟩,.str z]->Fit 100 z->((∀t,tgF (g,z)=some t->∀v H',af H H'->Is (nw H H') (tgD t) v->Q v H'))->((tgF (g,z)=none->∀H',af H H'->E (.ref c) none H'))->spRTh c vs H Q E
inductive spRMk(c:Addr)(vs:List V)(H:Hp)(Q:VK)(E:XK):Prop
 |mk (a:Addr) (ws:List Str):vs=[.ref a]->H a=some (.lst (ws.map V.str))->((∀w∈ws,Fit 100 w))->ws.length<=101->Fit 100 (Txt.join (Str.ofString " ") (ws.drop 3))->((∀ts,rmF ws=some ts->∀l H',af H H'->Is H' (.l (ts.map tgD)) (.ref l)->Q (.ref l) H'))->((rmF ws=none->∀H',af H H'->E (.ref c) none H'))->spRMk c vs H Q E
inductive spRRw(c:Addr)(vs:List V)(H:Hp)(Q:VK)(E:XK):Prop
 |mk (t:Str):vs=[.str t]->Fit 100 t->((∀nm ts,rrF t=some (nm,ts)->∀p l H',af H H'->H' p=some (.tup [.str nm,.ref l])->Is H' (.l (ts.map tgD)) (.ref l)->Q (.ref p) H'))->((rrF t=none->∀H',af H H'->E (.ref c) none H'))->spRRw c vs H Q E
def lT(cB cE cD:KP)(n:Nat)(H:Hp)(Q:VK)(E:XK):Prop:=(n=1->∀H',af H H'->E (.ref cB) none H')/\(n=2->∀H',af H H'->E (.ref cE) none H')/\(n=3->∀H',af H H'->E (.ref cD) none H')/\(n=4->∀H',af H H'->Q (.str (Str.ofString "3")) H')/\(n=5->∀H',af H H'->Q (.str (Str.ofString "12")) H')
inductive spTol(cB:Addr)(cE:Addr)(cD:Addr)(vs:List V)(H:Hp)(Q:VK)(E:XK):Prop
 |mk (nm:Str) (l:Addr) (ts:List Th):vs=[.str nm,.ref l]->Is H (.l (ts.map tgD)) (.ref l)->((∀ps,Th.m ps∈ts->∀p∈ps,OkL p))->nm≠Str.ofString "rows"->kdF nm ts<7->lT cB cE cD (kdF nm ts) H Q E->spTol cB cE cD vs H Q E
inductive spTolP(cB:Addr)(cE:Addr)(cD:Addr)(vs:List V)(H:Hp)(Q:VK)(E:XK):Prop
 |mk (nm:Str) (d k:Int):vs=[.str nm,.int d,.int k]->prF nm d k<7->lT cB cE cD (prF nm d k) H Q E->spTolP cB cE cD vs H Q E
inductive spMkT(cB:Addr)(cD:Addr)(vs:List V)(H:Hp)(E':VK)(E:XK):Prop
 |mk (d:Int) (v:V) (ps:List Lf):vs=[.int d,v]->Is H (lfs ps) v->((∀p∈ps,OkL p))->(((maF [.n d,.m ps]=1/\∀H',af H H'->E (.ref cB) none H')\/(maF [.n d,.m ps]=3/\∀H',af H H'->E (.ref cD) none H')))->spMkT cB cD vs H E' E
def Dsk(C:KP)(H:Hp)(a:KP)(n:Nat):Prop:=∃dx,H a=some (.ins C dx [(Str.ofString "answered",.int (n:Int))])
inductive spIni(C:Addr)(vs:List V)(H:Hp)(Q:VK)(E':XK):Prop
 |mk (a dx:Addr):vs=[.ref a]->H a=some (.ins C dx [])->Q .non (upd H a (.ins C dx [(Str.ofString "answered",.int 0)]))->spIni C vs H Q E'
inductive spSay(C:Addr)(cT:Addr)(cB:Addr)(cE:Addr)(cD:Addr)(vs:List V)(H:Hp)(Q:VK)(E:XK):Prop
 |mk (a:Addr) (t:Str) (n:Nat):vs=[.ref a,.str t]->Dsk C H a n->n<=10->Fit 100 t->cJ t<7->((cJ t=0->∀H',af H H'->E (.ref cT) none H'))->((cJ t=1->∀H',af H H'->E (.ref cB) none H'))->((cJ t=2->∀H',af H H'->E (.ref cE) none H'))->((cJ t=3->∀H',af H H'->E (.ref cD) none H'))->((3<cJ t->∀H',But a H H'->Dsk C H' a (n+1)->Q (.str (if cJ t=4 then Str.ofString "3" else if cJ t=5 then Str.ofString "12" else nS n)) H'))->spSay C cT cB cE cD vs H Q E
inductive spPick(vs:List V)(H:Hp)(Q:VK)(E':XK):Prop
 |mk (b l:Addr) (z:Int) (xs:List Str):vs=[.ref b,.ref l]->bN H b z->H l=some (.lst (xs.map V.str))->1<=xs.length->xs.length<=20->(∀u∈xs,∀z' H',But b H H'->bN H' b z'->Q (.str u) H')->spPick vs H Q E'
inductive spTx(L:List Str)(vs:List V)(H:Hp)(Q:VK)(E':XK):Prop
 |mk (b:Addr) (z:Int):vs=[.ref b]->bN H b z->(∀u∈L,∀z' H',But b H H'->bN H' b z'->Q (.str u) H')->spTx L vs H Q E'
inductive spFx(c:Nat)(vs:List V)(H:Hp)(Q:VK)(E':XK):Prop
 |mk (b:Addr) (z:Int):vs=[.ref b]->bN H b z->(∀u,aD c u=true->∀z' H',But b H H'->bN H' b z'->Q (.str u) H')->spFx c vs H Q E'
def fe(c:Nat):Str:=if c=0 then Str.ofString "text" else if c=1 then Str.ofString "bound" else if c=2 then Str.ofString "ends" else Str.ofString "drawing"
inductive spKnd(cT:Addr)(cB:Addr)(cE:Addr)(cD:Addr)(vs:List V)(H:Hp)(Q:VK)(E':XK):Prop
 |mk (e C:Addr) (c:Nat):vs=[.ref e]->H e=some (dm C e)->c<4->((C=if c=0 then cT else if c=1 then cB else if c=2 then cE else cD))->Q (.str (fe c)) H->spKnd cT cB cE cD vs H Q E'
inductive spRfs(C:Addr)(vs:List V)(H:Hp)(Q:VK)(E':XK):Prop
 |mk (a:Addr) (t:Str) (n c:Nat):vs=[.ref a,.str t,.str (fe c)]->Dsk C H a n->n<=10->Fit 100 t->cJ t=c->c<4->(∀H',af H H'->Q (.bl true) H')->spRfs C vs H Q E'
inductive spBad(vs:List V)(H:Hp)(Q:VK)(E':XK):Prop
 |mk (b:Addr) (z:Int):vs=[.ref b]->bN H b z->(∀t c p H',Fit 100 t->cJ t=c->c<4->But b H H'->H' p=some (.tup [.str t,.str (fe c)])->Q (.ref p) H')->spBad vs H Q E'
theorem tJ :bh vs (some (i:Int)) none=vs.drop i:=by
 by_cases h:i<=vs.length
 .exact m9 h
 .unfold bh;rw[HT.sIx_nat,HT.sIx_none,Nat.min_eq_right (by lia),Nat.sub_self,List.take_zero,C6 (by lia)]
theorem Fd :bh vs (some (i:Int)) (some ((i+1:Nat):Int))=(vs.drop i).take 1:=by
 unfold bh;rw[HT.sIx_nat,HT.sIx_nat];by_cases h:i+1<=vs.length
 .rw[show min i vs.length=i by lia,show min (i+1) vs.length=i+1 by lia,show i+1-i=1 by lia]
 .have:vs.length<=i:=by lia
  rw[show min i vs.length=vs.length by lia,show min (i+1) vs.length=vs.length by lia,Nat.sub_self,List.take_zero,C6 this];rfl
theorem tK{d k:Int}(hw:cN d k=false):¬Wd (.int d) (.int k):=λHv=>by
 obtain⟨a,b,e1,e2,hW⟩:=Hv;cases e1;cases e2;unfold cN at hw;unfold Wide at hW;simp only[Bool.and_eq_false_iff,Bool.or_eq_false_iff,decide_eq_false_iff_not] at hw;lia
theorem Fe{d k:Int}(hw:cN d k=true):Wd (.int d) (.int k):=by
 unfold cN at hw;simp only[AB,Bs,Aj] at hw;refine⟨d.toNat,k.toNat,?_,?_,by unfold Wide;lia⟩
 .rw[show((d.toNat:Nat):Int)=d by lia]
 .rw[show((k.toNat:Nat):Int)=k by lia]
theorem tL{a:KW Int}(h:lzB a=true)(hv:Is H (rwL a) v):kU H v:=by
 unfold lzB at h;rw[AB,BM] at h;obtain⟨ys,rfl⟩:=List.getLast?_eq_some_iff.mp h.2;obtain⟨x,rfl,hx⟩:=ni hv;refine .inr (.inr ⟨x,ys,rfl,hx,λi=>?_⟩);have:=sN h.1 i;rw[A7] at this⊢;by_cases c:i<ys.length
 .rwa [CP c] at this
 .rw[C8 (by lia)];exact Int.le_refl 0
theorem nk{a:KW Int}(h:inB a=true):gH a:=by
 unfold inB at h;rw[AB] at h;refine⟨sN h.1,?_⟩;cases e:a.getLast? with
 |none=>exact .inl (List.getLast?_eq_none_iff.mp e)
 |some x=>
  obtain⟨ys,rfl⟩:=List.getLast?_eq_some_iff.mp e;rw[e] at h;exact .inr ⟨ys,x,rfl,Au h.2⟩
theorem Ff{d:Int}{a b:KW Int}(h:kL d a b=true)(hu:Is H (rwL a) u)(hv:Is H (rwL b) v):Bad d H u v:=by
 unfold kL at h;simp only[Bs,AB,Aj,CC,BR] at h;rcases h with(h|⟨h1,h2⟩)|⟨⟨⟨⟨h1,h2⟩,h3⟩,h4⟩,h5⟩
 .exact .inl (tL h hu)
 .exact .inr (.inl ⟨a,hu,nk h1,tL h2 hv⟩)
 .exact .inr (.inr ⟨a,b,hu,hv,nk h1,nk h2,h3,h4,h5⟩)
theorem Fh:e9.all (λp=>decide (p.2.length<=9)&&p.2.cps.all (· <128))=true:=by ac_nf
theorem tM{α β:Type}[BEq α]{k:α}{v:β}:∀{l:KW (α×β)},l.lookup k=some v->∃k',(k',v)∈l
 |[],h=>by cases h
 |(a,b)::r,h=>by
  rw[BY] at h;cases e:k==a with
  |true=>
   rw[e] at h;exact⟨a,by rw[<-AL h];simp⟩
  |false=>
   rw[e] at h;obtain⟨k',h'⟩:=tM (l:=r) h;exact⟨k',AU _ h'⟩
theorem Fi{s:Str}(h:e9.lookup nm=some s):s.length<=9/\s.cps.all (· <128)=true:=by
 obtain⟨k',h'⟩:=tM h;have:=AG.mp Fh _ h';simpa using this
theorem tN{n c:Nat}:∀{ws:KW Str}{k:Nat},Fit n (Str.join ⟨#[c]⟩ ws)->Fit n (Str.join ⟨#[c]⟩ (ws.drop k))
 |ws,0,h=>h
 |[],k+1,h=>h
 |[x],k+1,h=>by
  rw[List.drop_succ_cons,List.drop_nil];exact⟨AR _,λc hc=>absurd hc (by simp[Str.join,Str.empty])⟩
 |x::y::r,k+1,h=>by
  rw[List.drop_succ_cons];refine tN ⟨?_,λc' hc=>h.2 c' ?_⟩
  .have:=Ah List.length (gF c x y r);rw[AX,AN,AV,AV] at this;have h1:=h.1;have e1:(Str.join ⟨#[c]⟩ (x::y::r)).length=(Str.join ⟨#[c]⟩ (x::y::r)).cps.size:=rfl;have e2:(Str.join ⟨#[c]⟩ (y::r)).length=(Str.join ⟨#[c]⟩ (y::r)).cps.size:=rfl;rw[AV] at this;lia
  .rw[gF];exact AQ _ (AU _ hc)
theorem Fj{t:Str}{r:KW Str}(ft:Fit 100 t)(h:Txt.split t (Str.ofString " ")=nm::r):Fit 100 (Txt.join (Str.ofString " ") ((nm::r).drop 3)):=by
 rw[dM] at h⊢;unfold Txt.join;rw[StrLaws.glued_eq_join];refine tN ?_;rw[<-h,Cq];exact ft
section
variable{P:KQ}{w:KS}{K:W.Frag}{mg:Str->K0 KN}{base:KZ}(T:Fns K mg w)
theorem tO:OKQ T.X50 P w base 1 (spCell K):=by
 refine FbO T.X50 zF λ_ _ _ _ H vs Q E hr h=>?_;obtain⟨a,ns,k,rfl,hS,h0,kk⟩:=h;refine⟨_,(ah (ay (az fg (pv 1) (aZ f' (by rfl) T.n_len boot_len (aa (pv 0) ae)) (aw _)) (ai (al (aE bp (pv 0) (pv 1) (λ_ _=>rfl)))) ax)
  (ai (al ag))),?_⟩
 refine⟨_,rfl,_,rfl,a,_,rfl,.inl hS,_,_,rfl,rfl,_,rfl,?_⟩;refine aF (λh=>?_) (λ_=>kk 0);rw[A3] at h;have hk:k.toNat<ns.length:=by lia
 refine⟨_,rfl,_,rfl,a,_,k,.int ns[k.toNat],rfl,rfl,hS,?_,kk _⟩;have e:((k.toNat:Nat):Int)=k:=by lia
 have:=oM (xs:=ns.map V.int) (j:=k.toNat) (v:= .int ns[k.toNat]) (by simp[hk]);rw[e] at this;exact this
theorem Fk:OKQ T.X51 P w base 1 spGreat:=by
 refine FbO T.X51 gu λ_ _ _ _ H vs Q E hr h=>?_;obtain⟨x,rfl,kk⟩:=h;refine⟨_,(ah (ay (az k9 (pv 0) (aj gR ag ag) (aw _)) (ai (al (aj bf (pv 0) (aj gR ag ag)))) ax)
  (ah (ay (az fh (pv 0) (aj bf ag (aj gR ag ag)) (aw _)) (ai (al (aj bf (aj bf ag (pv 0)) (aj gR ag ag)))) ax)
  (ah (pSA (i:=1) gu.nd (aj aV (aj gQ (pv 0) ag) ag))
  (ah (pSA (i:=2) gu.nd ag)
  (ah (bz Ac rfl (fW (by rfl) T.n_range (aa ag ae)) (pGA (i:=3) gu.nd) (ah (pSA (i:=1) gu.nd (aj gQ (aj aV (aj aV (aj aV (aj br (pv 1) ag) (aj br (aj br ag (pv 3)) (pv 3))) (aj k8 (pv 1) ag)) ag) ag))
  (ai (pSA (i:=2) gu.nd (aj aV (aj br (pv 2) ag) (aj gQ (aj br (pv 1) ag) ag))))))
  (ai (al (pv 2)))))))),?_⟩
 have e18:(10:Int)^(18:Int).toNat=10^18:=rfl;refine⟨_,rfl,10,18,rfl,rfl,⟨by decide,by decide,by decide⟩,_,_,rfl,rfl,_,rfl,aF (λh=>?_) (λh=>?_)⟩
 .exact⟨_,rfl,10,18,rfl,rfl,⟨by decide,by decide,by decide⟩,_,_,rfl,rfl,kk _ (by lia)⟩
 .refine⟨_,rfl,10,18,rfl,rfl,⟨by decide,by decide,by decide⟩,_,_,rfl,rfl,_,_,rfl,rfl,_,rfl,aF (λh2=>?_) (λh2=>?_)⟩
  .exact⟨_,rfl,_,_,rfl,rfl,10,18,rfl,rfl,⟨by decide,by decide,by decide⟩,_,_,rfl,rfl,kk _ (by lia)⟩
  .refine⟨_,rfl,_,_,rfl,rfl,(show(0:Int)<2147483629 by decide),_,_,rfl,rfl,?_⟩;refine⟨8,rfl,by decide,by decide,dg (n:=8) (λi σ H2=>(∃(y f:Int) (v3:K0 V),σ=[some (.int x),some (.int y),some (.int f),v3]/\0<=y/\0<=f)/\H2=H) ⟨⟨_,0,none,rfl,by lia,by decide⟩,rfl⟩ ?_ ?_⟩
   .rintro i σ H2 hi ⟨⟨y,f,v3,rfl,y0,f0⟩,rfl⟩;refine⟨_,rfl,_,_,rfl,rfl,.inr ⟨by decide,by decide⟩,_,rfl,_,_,rfl,rfl,.inl ⟨by decide,by decide⟩,_,rfl,_,_,rfl,rfl,.inr ⟨by lia,by lia⟩,_,_,rfl,rfl,_,rfl,_,_,rfl,rfl,⟨by decide,by decide⟩,_,_,rfl,rfl,_,_,rfl,rfl,_,_,rfl,rfl,(show(0:Int)<2147483647 by decide),?_⟩;refine⟨_,rfl,_,_,rfl,rfl,.inr ⟨by decide,by decide⟩,_,rfl,_,_,rfl,rfl,.inr ⟨by decide,by decide⟩,_,_,rfl,rfl,(show(0:Int)<2147483629 by decide),_,_,rfl,rfl,?_⟩;exact⟨⟨_,_,_,rfl,Int.emod_nonneg _ (by decide),Int.add_nonneg (Int.mul_nonneg f0 (by decide)) (Int.emod_nonneg _ (by decide))⟩,rfl⟩
   .rintro σ H2 ⟨⟨y,f,v3,rfl,y0,f0⟩,rfl⟩;exact⟨_,rfl,kk _ f0⟩
theorem cm:OKQ T.X52 P w base 1 spDig:=by
 refine FbO T.X52 rp λ_ _ _ _ H vs Q E hr h=>?_;obtain⟨b,m,z,rfl,hb,z0,m0,m1,kk⟩:=h;refine⟨_,(ah (pSA (i:=2) rp.nd (aj gQ (aE bp (pv 0) ag (λ_ _=>rfl)) (pv 1)))
  (ah (nL (aj wH (aE bp (pv 0) ag (λ_ _=>rfl)) (pv 1)) (uQ (pv 0) ag lq))
  (ai (al (pv 2))))),?_⟩
 refine⟨_,rfl,b,_,_,_,rfl,rfl,SqL.of hb,by rfl,_,rfl,_,_,rfl,rfl,m0,?_⟩;refine⟨_,rfl,b,_,_,_,rfl,rfl,SqL.of hb,by rfl,_,rfl,_,_,rfl,rfl,EO m0 m1,_,rfl,b,_,_,0,rfl,rfl,hb,by rfl,?_⟩;exact⟨_,rfl,kk _ _ (Int.emod_nonneg _ (by lia)) (Int.emod_lt_of_pos _ m0) (Int.fdiv_nonneg z0 (by lia))⟩
theorem tP:OKQ T.X0 P w base 1 sp_whole:=by
 refine FbO T.X0 y9 λ_ _ _ _ H vs Q E hr h=>?_;obtain⟨v,rfl,ht,kk⟩:=h;refine⟨_,(ai (al (gM (aZ lA (by rfl) T.n_isinstance Bq (aa (pv 0) (aa (iA (v:= .ty "int") (by rfl) T.n_int boot_int (by rfl)) ae))) (gL (uJ (aZ lA (by rfl) T.n_isinstance Bq (aa (pv 0) (aa (iA (v:= .ty "bool") (by rfl) T.n_bool boot_bool (by rfl)) ae)))))))),?_⟩;rcases ht with⟨i,rfl⟩|⟨b,rfl⟩|rfl|⟨x,rfl⟩|⟨a,xs,rfl,ha⟩|⟨a,xs,rfl,ha⟩
 .exact⟨_,rfl,_,"int",_,true,rfl,.int i,o7,true,rfl,aN ⟨_,rfl,_,"bool",_,false,rfl,.int i,wB,false,rfl,kk⟩⟩
 .exact⟨_,rfl,_,"int",_,true,rfl,.bl b,wC,true,rfl,aN ⟨_,rfl,_,"bool",_,true,rfl,.bl b,o7,true,rfl,kk⟩⟩
 .exact⟨_,rfl,_,"int",_,false,rfl,.non,w6,false,rfl,aH kk⟩
 .exact⟨_,rfl,_,"int",_,false,rfl,.str x,w8,false,rfl,aH kk⟩
 .exact⟨_,rfl,_,"int",_,false,rfl,.lst ha,w9,false,rfl,aH kk⟩
 .exact⟨_,rfl,_,"int",_,false,rfl,.tup ha,xa,false,rfl,aH kk⟩
theorem FnOk.quiet{fd:KR}{ps:KW Str}{sp:Sp}(F:FnOk P w K mg base (CX1 P w) k f fd ps sp):FnOk P w K mg base CX0 k f fd ps (λvs H Q _=>sp vs H Q E0):=
 ⟨λvs H Q E h=>F.len vs H Q E0 h,λA outer s H args us vs Q E hr he hb hv hs=>CD (F.run A outer s H args us vs Q E0 hr he hb hv hs) λr s' h=>by
  cases r with
  |ok r=>cases r<;>exact h
  |error e=>
   obtain⟨_,_,_,_,_,_,z,_⟩:=h;exact z.elim⟩
theorem fT:FnOk P w K mg base (CX1 P w) 2 T.f1 T.d1 ["thing","least","greatest"] (spBt T.c_NoBound):=by
 refine T.X1.F.okx za (λvs H Q E h=>?_) (λGu A outer s H vs Q E hr h hR hp=>?_)
 .obtain⟨_,_,_,rfl,_⟩:=h;rfl
 .obtain⟨v,lo,hi,rfl,ht,kk,ke⟩:=h;refine⟨_,(ai (ay (df (cZ (cc (pcq (tP T) hr T.X0 (aa (pv 0) ae)))) (df (az fg (pv 0) (pv 1) (aw _)) (eB (az fk (pv 0) (pv 2) (aw _))))).pt (ai (c9 hR (by rfl) T.m_NoBound T.x_NoBound rfl (aa (i8 (cH aq (cH (eJ (pv 1)) (cH aq (cH (eJ (pv 2)) i7))))) ae))) ax)),?_⟩;have no:¬Within lo hi v->∀D:Ends,pA T.c_NoBound E (ot (λσ H Q=>tJc (tC (.str "not a whole number from ")) (tJc (λσ H Q=>tVar 1 σ H λx H1=>∃i,x=.int i/\i.natAbs.log2<1920/\Q (.str (toString i)) H1) (tJc (tC (.str " to ")) (tJc (λσ H Q=>tVar 2 σ H λx H1=>∃i,x=.int i/\i.natAbs.log2<1920/\Q (.str (toString i)) H1) tJn)))
    Str.empty σ H Q) lg) D [some v,some (.int lo),some (.int hi)] H:=λhn D=>by
   obtain⟨⟨l1,l2,l3,l4⟩,he⟩:=ke hn;obtain⟨a,rfl⟩:=AK l1;obtain⟨b,rfl⟩:=AK l3;have y:=tG a (by lia) b (by lia);have z:=tG b (by lia) a (by lia);simp only[AB,Aj] at y z;obtain⟨⟨⟨⟨y1,y2⟩,y3⟩,y4⟩,y5⟩:=y;exact⟨_,rfl,y2,_,rfl,_,rfl,y1,_,rfl,y3,_,rfl,y4,_,rfl,_,rfl,z.1.1.1.1,_,rfl,y5,y5,(zB rfl),he⟩
  refine⟨v,rfl,v,rfl,ht,isI v,rfl,?_⟩;cases hv:isI v with
  |false=>exact aN (aN (no (λhw=>by rw[w5 hw] at hv;cases hv) _))
  |true=>
   obtain⟨i,rfl⟩:∃i,v=.int i:=by
    cases v<;>first|exact⟨_,rfl⟩|cases hv
   refine aH ⟨_,rfl,_,rfl,i,lo,rfl,rfl,_,rfl,aF (λhl=>?_) (λhl=>?_)⟩
   .exact aN (no (λ⟨j,e,h1,h2⟩=>by cases e;lia) _)
   .refine⟨_,rfl,_,rfl,i,hi,rfl,rfl,_,rfl,aF (λhg=>?_) (λhg=>?_)⟩
    .exact no (λ⟨j,e,h1,h2⟩=>by cases e;lia) _
    .exact kk ⟨i,rfl,by lia,by lia⟩
theorem tQ:FnOk P w K mg base (CX1 P w) 3 T.f4 T.d4 ["d"] (spDegX T.c_NoBound):=by
 refine T.X4.F.okx ze (λvs H Q E h=>?_) (λGu A outer s H vs Q E hr h hR hp=>?_)
 .obtain⟨_,rfl,_⟩:=h;rfl
 .obtain⟨v,rfl,ht,kk,ke⟩:=h;refine⟨_,(ai (bd (aA (fT T) (hr.mono (by decide)) (by rfl) T.X1.m T.X1.F.kp T.X1.B .nil hp (aa (pv 0) (aa ag (aa ag ae)))))),?_⟩;exact⟨_,rfl,v,1,5,rfl,ht,kk,λhn=>⟨by decide,ke hn⟩⟩
theorem nu:OKQ T.X4 P w base 3 spDegQ:=
 FnOk.imp (FnOk.quiet (tQ T)) λvs H Q E GB=>by obtain⟨i,e,h1,h2,q⟩:=GB;exact⟨.int i,e,.inl ⟨_,rfl⟩,λ_=>q,λh=>absurd ⟨i,rfl,h1,h2⟩ h⟩
theorem iy:FnOk P w K mg base (CX1 P w) 3 T.f3 T.d3 ["d","k"] (spWid T.c_NoBound):=by
 refine T.X3.F.okx zd (λvs H Q E h=>?_) (λGu A outer s H vs Q E hr h hR hp=>?_)
 .obtain⟨_,_,rfl,_⟩:=h;rfl
 .obtain⟨v,u,rfl,ht,hu,kk,ke⟩:=h;refine⟨_,(ah (bd (aA (fT T) (hr.mono (by decide)) (by rfl) T.X1.m T.X1.F.kp T.X1.B .nil hp (aa (pv 0) (aa ag (aa ag ae)))))
   (ai (bd (aA (fT T) (hr.mono (by decide)) (by rfl) T.X1.m T.X1.F.kp T.X1.B .nil hp (aa (pv 1) (aa ag (aa (pU (cO (v:= .ref T.a_WIDE) (by rfl) T.m_WIDE (by rfl)) (pv 0) (λ_ _=>rfl)) ae))))))),?_⟩
  refine⟨_,rfl,v,1,5,rfl,ht,λ⟨i,ei,i1,i2⟩=>?_,λhn=>⟨by decide,ke λGB=>by obtain⟨d,k,e1,_,hN⟩:=GB;exact hn ⟨_,e1,by unfold Wide at hN;lia,by unfold Wide at hN;lia⟩⟩⟩;subst ei;obtain⟨d,rfl⟩:=AK (show 0<=i by lia);have hd:d=1\/d=2\/d=3\/d=4\/d=5:=by lia
  obtain⟨hi,hl,hb,hN⟩:∃hi:Int,([(1,6),(2,6),(3,6),(4,6),(5,3)]:KW (Int×Int)).lookup (d:Int)=some hi/\(0<=hi/\hi<=20)/\∀k:Nat,Wide d k↔(k:Int)<=hi:=by
   rcases hd with rfl|rfl|rfl|rfl|rfl
   .exact⟨6,rfl,by decide,λk=>by unfold Wide;lia⟩
   .exact⟨6,rfl,by decide,λk=>by unfold Wide;lia⟩
   .exact⟨6,rfl,by decide,λk=>by unfold Wide;lia⟩
   .exact⟨6,rfl,by decide,λk=>by unfold Wide;lia⟩
   .exact⟨3,rfl,by decide,λk=>by unfold Wide;lia⟩
  refine⟨_,rfl,_,rfl,T.a_WIDE,_,d,hi,rfl,T.D_WIDE,rfl,hl,u,0,hi,rfl,hu,λ⟨j,ej,j1,j2⟩=>?_,λhn=>⟨⟨by decide,by decide,hb⟩,ke λ⟨d',k,e1,e2,hNk⟩=>?_⟩⟩
  .obtain⟨k,rfl⟩:=AK j1;exact kk ⟨d,k,rfl,ej,(hN k).mpr j2⟩
  .obtain rfl:d'=d:=by have:=V.int.inj e1;lia
   exact hn ⟨k,e2,by lia,(hN k).mp hNk⟩
theorem Fl:FnOk P w K mg base (CX1 P w) 3 T.f2 T.d2 ["d","k"] (spNar T.c_NoBound):=by
 refine T.X2.F.okx zc (λvs H Q E h=>?_) (λGu A outer s H vs Q E hr h hR hp=>?_)
 .obtain⟨_,_,rfl,_⟩:=h;rfl
 .obtain⟨v,u,rfl,ht,hu,kk,ke⟩:=h;refine⟨_,(ah (bd (aA (fT T) (hr.mono (by decide)) (by rfl) T.X1.m T.X1.F.kp T.X1.B .nil hp (aa (pv 0) (aa ag (aa ag ae)))))
   (ai (bd (aA (fT T) (hr.mono (by decide)) (by rfl) T.X1.m T.X1.F.kp T.X1.B .nil hp (aa (pv 1) (aa ag (aa (pU (cO (v:= .ref T.a_NARROW) (by rfl) T.m_NARROW (by rfl)) (pv 0) (λ_ _=>rfl)) ae))))))),?_⟩
  refine⟨_,rfl,v,1,4,rfl,ht,λ⟨i,ei,i1,i2⟩=>?_,λhn=>⟨by decide,ke λGB=>by obtain⟨d,k,e1,_,hN⟩:=GB;exact hn ⟨_,e1,by unfold du at hN;lia,by unfold du at hN;lia⟩⟩⟩;subst ei;obtain⟨d,rfl⟩:=AK (show 0<=i by lia);have hd:d=1\/d=2\/d=3\/d=4:=by lia
  obtain⟨hi,hl,hb,hN⟩:∃hi:Int,([(1,6),(2,6),(3,6),(4,2)]:KW (Int×Int)).lookup (d:Int)=some hi/\(0<=hi/\hi<=20)/\∀k:Nat,du d k↔(k:Int)<=hi:=by
   rcases hd with rfl|rfl|rfl|rfl
   .exact⟨6,rfl,by decide,λk=>by unfold du;lia⟩
   .exact⟨6,rfl,by decide,λk=>by unfold du;lia⟩
   .exact⟨6,rfl,by decide,λk=>by unfold du;lia⟩
   .exact⟨2,rfl,by decide,λk=>by unfold du;lia⟩
  refine⟨_,rfl,_,rfl,T.a_NARROW,_,d,hi,rfl,T.D_NARROW,rfl,hl,u,0,hi,rfl,hu,λ⟨j,ej,j1,j2⟩=>?_,λhn=>⟨⟨by decide,by decide,hb⟩,ke λ⟨d',k,e1,e2,hNk⟩=>?_⟩⟩
  .obtain⟨k,rfl⟩:=AK j1;exact kk ⟨d,k,rfl,ej,(hN k).mpr j2⟩
  .obtain rfl:d'=d:=by have:=V.int.inj e1;lia
   exact hn ⟨k,e2,by lia,(hN k).mp hNk⟩
theorem nv:OKQ T.X6 P w base 4 spEndQ:=by
 refine FbO T.X6 g9 λ_ _ _ _ H vs Q E hr h=>?_;obtain⟨n,dv,ps,rfl,n1',n5',hd,hok,k2⟩:=h;refine⟨_,(ah (bd (pcq (nu T) hr T.X4 (aa (pv 0) ae)))
  (ah (pSA (i:=2) g9.nd (aj lI (bX (aa ag ae)) (pv 0)))
  (ah (bz Ac rfl (cq (pv 1)) (eD rfl (bG (pGA (i:=3) g9.nd) (bG (pGA (i:=4) g9.nd) (bG (pGA (i:=5) g9.nd) dy)))) (ah (nO (pv 2) (aj bf (pv 3) ag) pi (pv 5) uT lq)
  (ai (nO (pv 2) (aj bf (pv 4) ag) pi (pv 5) nP lq))))
  (ai (al (pv 2)))))),?_⟩
 refine⟨_,rfl,n,rfl,by lia,by lia,?_⟩;refine⟨(zB rfl),λl1 H1 n1 s1 h1=>?_⟩;refine⟨_,rfl,.i 1,n,ba h1 (aT dj aM),rfl,by lia,by lia,Ar (bt (by lia)),λl H2 n2 s2 h2=>?_⟩;rw[B0] at h2;obtain⟨_,vs2,e2,HP,Ii⟩:=aP h2;cases e2;rw[<-List.map_replicate] at Ii;rw[i9 Ii] at HP;have s12:=s1.trans s2;obtain⟨da,GG,rfl,Ij,HR⟩:=aP hd;have Gv:GG.length=ps.length:=by rw[HR.length,A3]
 refine⟨_,rfl,da,rfl,⟨_,SqL.of (s12 _ _ Ij)⟩,dz (xs:=GG) (λi σ H3=>(∃v3 v4 v5,σ=[some (.int n),some (.ref da),some (.ref l),v3,v4,v5])/\af H H3/\H3 l=some (.lst (((ps.take i).foldl cS (List.replicate n 1)).map V.int)))
  ⟨⟨none,none,none,rfl⟩,s12,HP⟩ (λi σ H3 _ h=>SqL.of (h.2.1 _ _ Ij)) ?_ ?_⟩
 .rintro i y σ H3 hi ⟨⟨v3,v4,v5,rfl⟩,s3,hl3⟩;obtain⟨p,G2,hy⟩:=cj HR hi;obtain⟨t,rfl,hta⟩:=eW hy;obtain⟨o1,o2,o3,o4⟩:=hok p (Aa G2);have el:=(km (ps.take i) (List.replicate n 1) (by simp) λq hq=>hok q (List.mem_of_mem_take hq)).1;have en:(ps.take (i+1)).foldl cS (List.replicate n 1)=cS ((ps.take i).foldl cS (List.replicate n 1)) p:=by
   rw[Af,G2,List.foldl_append];rfl
  rw[en];generalize (ps.take i).foldl cS (List.replicate n 1)=e at hl3 el⊢;have nl:H l=none:=s1.free n2;refine⟨t,_,rfl,SqT.of (s3 _ _ hta),rfl,?_⟩;refine⟨_,_,rfl,_,_,rfl,_,_,rfl,rfl,?_⟩;have j1:(p.1-1).toNat<e.length:=by lia
  have j2:(p.2.1-1).toNat<e.length:=by lia
  have k1:p.1-1=((p.1-1).toNat:Int):=by lia
  have kq:p.2.1-1=((p.2.1-1).toNat:Int):=by lia
  have g1:(e.map V.int)[(p.1-1).toNat]? =some (.int (e.getD (p.1-1).toNat 0)):=by
   exact my j1
  refine⟨_,rfl,_,rfl,_,_,rfl,rfl,?_⟩;refine⟨l,_,(p.1-1).toNat,_,_,rfl,rfl,k1,SqL.of hl3,g1,?_⟩;refine⟨_,rfl,_,_,rfl,rfl,l,_,_,(p.1-1).toNat,rfl,rfl,hl3,by rw[k1,A3];exact pf j1,?_⟩;rw[<-map_set];have j2':(p.2.1-1).toNat<(e.set (p.1-1).toNat (e.getD (p.1-1).toNat 0-p.2.2)).length:=by rw[BU];exact j2
  have g2:((e.set (p.1-1).toNat (e.getD (p.1-1).toNat 0-p.2.2)).map V.int)[(p.2.1-1).toNat]? =some (.int ((e.set (p.1-1).toNat (e.getD (p.1-1).toNat 0-p.2.2)).getD (p.2.1-1).toNat 0)):=by
   exact my j2'
  refine⟨_,rfl,_,rfl,_,_,rfl,rfl,?_⟩;refine⟨l,_,(p.2.1-1).toNat,_,_,rfl,rfl,kq,SqL.of am,g2,?_⟩;refine⟨_,rfl,_,_,rfl,rfl,l,_,_,(p.2.1-1).toNat,rfl,rfl,am,by rw[kq,A3];exact pf j2',?_⟩;rw[<-map_set,ut];exact⟨⟨_,_,_,rfl⟩,s3.put nl,am⟩
 .rintro σ H3 ⟨⟨v3,v4,v5,rfl⟩,s3,hl3⟩;rw[Gv,Az] at hl3;exact⟨_,rfl,k2 l H3 s3 (s1.free n2) hl3⟩
theorem kX:OKQ T.X8 P w base 1 spLost:=by
 refine FbO T.X8 zh λ_ _ _ _ H vs Q E hr h=>?_;obtain⟨v,p,rfl,hv,⟨p1,p2,p3,p4⟩,kk⟩:=h;refine⟨_,(ai (al (aj bf (aj br (aj bf (aE cw (pv 0) ag (λ_ _=>rfl)) (aE cw (pv 0) ag (λ_ _=>rfl))) (aE cw (pv 0) ag (λ_ _=>rfl))) ag))),?_⟩;refine⟨_,rfl,_,1,_,hv,rfl,rfl,λu hu=>?_⟩;rw[aS hu];refine⟨_,rfl,_,0,_,hv,rfl,rfl,λu hu=>?_⟩;rw[aS hu];refine⟨_,_,rfl,rfl,_,rfl,_,2,_,hv,rfl,rfl,λu hu=>?_⟩;rw[aS hu];exact⟨_,_,rfl,rfl,.inr ⟨by lia,by lia⟩,_,_,rfl,rfl,kk⟩
theorem Fo:OKQ T.X9 P w base 2 spLfr:=by
 refine FbO T.X9 jy λ_ _ _ _ H vs Q E hr h=>?_;obtain⟨d,f,n,sp,rfl,fd,d5,n20,kk⟩:=h;refine⟨_,(ah (pSA (i:=4) jy.nd (bX ae))
  (ah (bz Ac rfl (gP (by rfl) T.n_range (aa (aj aV (pv 1) ag) (aa (aj aV (pv 0) ag) ae))) (pGA (i:=5) jy.nd) (ai (bz Ac rfl (gP (by rfl) T.n_range (aa ag (aa (aj aV (pv 2) ag) ae))) (pGA (i:=6) jy.nd) (ai (ay (az fh (pcq (kX T) hr T.X8 (aa (c8 (aa (pv 1) (aa (pv 5) (aa (pv 6) ae)))) ae)) (pv 3) (aw _)) (ai (bd (cu BC By Bx fx (pv 4) (aa (c8 (aa (pv 1) (aa (pv 5) (aa (pv 6) ae)))) ae)))) ax)))))
  (ai (al (pv 4))))),?_⟩
 refine⟨AR _,λfo H1 n1 s1 h1=>?_⟩;refine⟨_,rfl,_,_,rfl,rfl,_,rfl,_,_,rfl,rfl,_,_,rfl,⟨by lia,by lia,by lia,by lia⟩,?_⟩;rw[show((d:Int)+1-((f:Int)+1)).toNat=d-f by lia];refine dg (lo:=(f:Int)+1) (n:=d-f) (λi σ H2=>(∃v5 v6,σ=[some (.int d),some (.int f),some (.int n),some (.int sp),some (.ref fo),v5,v6])/\af H H2/\∃vs,H2 fo=some (.lst vs)/\Iss H2 ((cU f i n sp).map lf) vs) ⟨⟨none,none,rfl⟩,s1,[],h1,aM⟩ ?_ ?_
 .rintro i σ H2 hi ⟨⟨v5,v6,rfl⟩,s2,vs2,Kw,Kx⟩;refine⟨_,rfl,_,_,rfl,rfl,_,_,rfl,⟨by decide,by decide,by lia,by lia⟩,?_⟩;rw[show((n:Int)+1-1).toNat=n by lia];refine dg (lo:=1) (n:=n) (λj σ H3=>(∃v6,σ=[some (.int d),some (.int f),some (.int n),some (.int sp),some (.ref fo),some (.int ((f:Int)+1+(i:Int))),v6])/\af H H3/\∃vs,H3 fo=some (.lst vs)/\Iss H3 ((cU f i n sp++dJ f ((f:Int)+1+(i:Int)) j sp).map lf) vs) ⟨⟨v6,rfl⟩,s2,vs2,Kw,by simpa[dJ] using Kx⟩ ?_ ?_
  .rintro j σ H3 hj ⟨⟨v6,rfl⟩,s3,vs3,Hr,Ja⟩;have vl:vs3.length<=200:=by
    rw[Ja.length,A3,AX];have a:=mB f n sp i;have b:=rL f ((f:Int)+1+(i:Int)) j sp;have:i*n<=5*20:=Nat.mul_le_mul (by lia) n20;lia
   refine⟨_,rfl,_,rfl,_,rfl,(zB rfl),λt H4 nt s4 ht=>⟨.ref t,((f:Int),(f:Int)+1+(i:Int),1+(j:Int)),rfl,dI ht,⟨?_,?_,?_,?_⟩,_,rfl,_,_,rfl,rfl,_,rfl,aF (λc=>?_) (λc=>?_)⟩⟩
   .show 0<=(f:Int)+1+(i:Int)-(f:Int);lia
   .show(f:Int)+1+(i:Int)-(f:Int)<=10;lia
   .show 1<=1+(j:Int);lia
   .show 1+(j:Int)<=20;lia
   .refine⟨_,rfl,.inl ⟨rfl,_,SqL.of (s4 _ _ Hr)⟩,_,rfl,_,rfl,_,rfl,(zB rfl),λt2 H5 nt2 s5 ht2=>⟨fo,vs3,_,rfl,rfl,s5 _ _ (s4 _ _ Hr),bt (by lia),⟨_,rfl⟩,(s3.trans (s4.trans s5)).put n1,_,am,?_⟩⟩;rw[rJ,A9 c,<-Cm];refine ik (aX.upd (s5 _ _ (s4 _ _ Hr))) ?_;rw[AO];exact(Ja.mono (s4.trans s5)).append (aT (dI ht2) aM)
   .refine⟨⟨_,rfl⟩,s3.trans s4,vs3,s4 _ _ Hr,?_⟩;rw[rJ,A6 c,BW];exact Ja.mono s4
  .rintro σ H3 ⟨⟨v6,rfl⟩,s3,vs3,Hr,Ja⟩;exact⟨⟨_,_,rfl⟩,s3,vs3,Hr,by rw[rK];exact Ja⟩
 .rintro σ H2 ⟨⟨v5,v6,rfl⟩,s2,vs2,Kw,Kx⟩;exact⟨_,rfl,kk fo H2 s2 n1 (ba Kw Kx)⟩
theorem tR:∀n:Nat,FnOk P w K mg base CX0 (n+1) T.f10 T.d10 ["lifts","weight","spare"] (spLeav n K)
 |0=>⟨λvs H Q E h=>by obtain⟨_,_,_,_,_,_,_,h,h',_⟩:=h;lia,λA outer s H args us vs Q E _ _ _ _ h=>by obtain⟨_,_,_,_,_,_,_,h,h',_⟩:=h;lia⟩
 |n+1=>by
  have ih:=tR n;refine T.X10.F.ok hG (λvs H Q E h=>?_) (λGu A outer s H vs Q E hr h=>?_)
  .obtain⟨_,_,_,_,rfl,_⟩:=h;rfl
  .obtain⟨v,ls,wt,sp,rfl,hv,hok,w0,w1,hL,hl,hn,kk⟩:=h;refine⟨_,(ah (pSA (i:=3) hG.nd (bX (aa (bX ae) ae)))
   (ah (bz Ac rfl (lE (by rfl) T.n_enumerate (pv 0)) (eD rfl (bG (pGA (i:=4) hG.nd) (bG (pGA (i:=5) hG.nd) dy))) (ai (ay (nI (az fh (aE cw (pv 5) ag (λ_ _=>rfl)) (pv 1) (aw _)) (nH (az fh (pcq (kX T) hr T.X8 (aa (pv 5) ae) (by lia)) (pv 2) (aw _)))).pt (ai (bz Ac rfl (cq (aA ih hr (by rfl) T.X10.m T.X10.F.kp T.X10.B .nil iL (aa (fq iK (pv 0) (eE (pv 4)) fZ) (aa (aj bf (pv 1) (aE cw (pv 5) ag (λ_ _=>rfl))) (aa (aj bf (pv 2) (pcq (kX T) hr T.X8 (aa (pv 5) ae) (by lia))) ae))))) (pGA (i:=6) hG.nd) (ai (bd (cu BC By Bx fx (pv 3) (aa (aj lH (bX (aa (pv 5) ae)) (pv 6)) ae)))))) ax)))
   (ai (al (pv 3))))),?_⟩
   obtain⟨da,GG,rfl,Ij,HR⟩:=aP hv;have Jb:GG.length=ls.length:=by rw[HR.length,A3]
   refine⟨AR _,λe0 H1 ne s1 he=>⟨(zB rfl),λfo H2 nf s2 JV=>?_⟩⟩;have Jm:H fo=none:=s1.free nf;have e0fo:e0≠fo:=by rintro rfl;rw[he] at nf;cases nf
   have acc0:Acc H H2 fo (([[]]:KW (KW Lf)).map lfs):=⟨[.ref e0],JV,aT (ba (vs:=[]) (by rw[lG e0fo,dZ ne];exact s2 _ _ he) aM) aM⟩;have tot:∀i:Nat,i<ls.length->1+((List.range i).flatMap (cV n ls wt sp)).length+(cV n ls wt sp i).length<=1000:=λi hi=>by
    have:=ku (cV n ls wt sp) hi;rw[mz,AX,Cs] at hL;lia
   refine⟨_,rfl,da,rfl,⟨_,SqL.of (s2 _ _ (s1 _ _ Ij))⟩,ph (xs:=GG) (λi σ H3=>(∃v4 v5 v6,σ=[some (.ref da),some (.int wt),some (.int sp),some (.ref fo),v4,v5,v6])/\af H H3/\Acc H H3 fo (([[]]++(List.range i).flatMap (cV n ls wt sp)).map lfs)) ⟨⟨none,none,none,rfl⟩,s1.trans s2,by simpa using acc0⟩ (λi σ H3 _ h=>SqL.of (h.2.1 _ _ Ij)) ?_ ?_⟩
   .rintro i y σ H3 pa hi ⟨⟨v4,v5,v6,rfl⟩,s3,Gr⟩ np;obtain⟨p,G2,hy⟩:=cj HR hi;have hil:i<ls.length:=(AJ.mp G2).1;obtain⟨p1,p2,p3,p4⟩:=id (hok p (Aa G2));have tt:=tot i hil;have s34:af H3 (upd H3 pa (.tup [.int i,y])):=af.new np;have Iw:=Gr.mono s34;have stay:cV n ls wt sp i=[]->Acc H (upd H3 pa (.tup [.int i,y])) fo (([[]]++(List.range (i+1)).flatMap (cV n ls wt sp)).map lfs):=λe=>by
     rw[gw,e,BW];exact Iw
    have Ky:Is (upd H3 pa (.tup [.int i,y])) (lf p) y:=(hy.mono s3).mono s34;refine⟨pa,_,rfl,SqT.of am,rfl,_,_,rfl,_,_,rfl,rfl,?_⟩;generalize upd H3 pa (.tup [.int i,y])=H4 at s34 Iw stay Ky⊢;have s4:af H H4:=s3.trans s34;refine⟨_,rfl,_,2,_,Ky,rfl,rfl,λu hu=>?_⟩;rw[aS hu];refine⟨_,rfl,_,_,rfl,rfl,_,rfl,aF (λc1=>?_) (λc1=>?_)⟩
    .refine⟨_,rfl,y,p,rfl,Ky,⟨p1,p2,p3,p4⟩,_,rfl,_,_,rfl,rfl,_,rfl,aF (λc2=>?_) (λc2=>?_)⟩
     .have eG:cV n ls wt sp i=(cz n (ls.drop i) (wt-p.2.2) (sp-bY p)).map (p:: ·):=by
       unfold cV;rw[G2];exact A9 ⟨c1,c2⟩
      rw[eG,A3] at tt;refine⟨_,rfl,_,rfl,i,rfl,da,_,rfl,SqL.of (s4 _ _ Ij),?_⟩;rw[m9 (by lia)];intro l2 n2;have s45:af H4 (upd H4 l2 (.lst (GG.drop i))):=af.new n2;have HP:(upd H4 l2 (.lst (GG.drop i))) l2=some (.lst (GG.drop i)):=am;generalize upd H4 l2 (.lst (GG.drop i))=H5 at s45 HP⊢;have s5:=s4.trans s45;have hdr:Is H5 (lfs (ls.drop i)) (.ref l2):=ba HP (by rw[List.map_drop];exact(HR.drop i).mono s5);refine⟨_,rfl,_,rfl,_,2,_,Ky.mono s45,rfl,rfl,λu hu=>?_⟩;rw[aS hu];refine⟨_,_,rfl,rfl,_,rfl,_,rfl,y,p,rfl,Ky.mono s45,⟨p1,p2,p3,p4⟩,_,_,rfl,rfl,?_⟩;refine⟨.ref l2,ls.drop i,wt-p.2.2,sp-bY p,rfl,hdr,λq hq=>hok q (CI hq),by lia,by lia,by lia,by rw[CN];lia,by lia,λrl H6 s6 Jc Jn=>?_⟩;obtain⟨JB,HW,Jo⟩:=Iw.mono s45;have hfo6:H6 fo=some (.lst JB):=s6 _ _ HW;obtain⟨_,HX,e,Kz,IC⟩:=aP Jn;cases e;have hrl6:H6 rl=some (.lst HX):=dq _ _ Kz;have Jd:rl≠fo:=by rintro rfl;rw[HW] at Jc;cases Jc
      have Im:HX.length=(cz n (ls.drop i) (wt-p.2.2) (sp-bY p)).length:=by rw[IC.length,A3]
      have KA:Iss (hid H6 fo) ((cz n (ls.drop i) (wt-p.2.2) (sp-bY p)).map lfs) HX:=(IC.mono (kt (af.refl H5) HW)).mono (gd dq);have s56:=s5.trans s6;refine⟨rl,rfl,⟨_,SqL.of hrl6⟩,dz (xs:=HX) (λj σ H7=>(∃v6,σ=[some (.ref da),some (.int wt),some (.int sp),some (.ref fo),some (.int i),some y,v6])/\af H H7/\But fo H6 H7/\Acc H H7 fo (([[]]++(List.range i).flatMap (cV n ls wt sp)++((cz n (ls.drop i) (wt-p.2.2) (sp-bY p)).take j).map (p:: ·)).map lfs)) ⟨⟨_,rfl⟩,s56,λ_ _ e _=>e,by simpa using (Iw.mono s45).mono s6⟩ (λj σ H7 _ h=>SqL.of (h.2.2.1 _ _ hrl6 Jd)) ?_ ?_⟩
      .rintro j x σ H7 hj ⟨⟨v6,rfl⟩,s7,but7,vs7,KB,hi7⟩;obtain⟨r,IH,hx⟩:=cj KA hj;have hjl:j<(cz n (ls.drop i) (wt-p.2.2) (sp-bY p)).length:=(AJ.mp IH).1;have hx7:Is H7 (lfs r) x:=hx.mono (sX but7);have ritem:=(mD (λq hq=>(hok q (CI hq)).2.2.1) (by lia) (Aa IH)).1;have vl:vs7.length<=999:=by
        rw[hi7.length,A3,AX,AX,A3,Ao,Cs];lia
       have hy7:Is H7 (lf p) y:=hy.mono s7;refine⟨_,rfl,.inl ⟨rfl,_,SqL.of KB⟩,_,rfl,(zB rfl),λq1 H8 n8 s8 h8=>⟨_,rfl,[lf p],r.map lf,ba h8 (aT (hy7.mono s8) aM),hx7.mono s8,Ar (bt (by rw[A3];show 1+r.length<=1000;lia)),λq2 H9 n9 s9 h9=>?_⟩⟩;have s79:=s8.trans s9;refine⟨fo,vs7,_,rfl,rfl,s79 _ _ KB,bt (by lia),⟨_,rfl⟩,(s7.trans s79).put Jm,but7.trans ((But.of_same s79).trans But.upd),?_⟩;rw[Af,IH];have:=Acc.add s7 s79 KB hi7 (rG (ps:=p::r) s79 (s8.free n9) h9);simpa using this
      .rintro σ H7 ⟨⟨v6,rfl⟩,s7,_,JW⟩;refine⟨⟨_,_,_,rfl⟩,s7,?_⟩;rw[Im,Az,<-eG,Cm,<-gw] at JW;exact JW
     .refine⟨⟨_,_,_,rfl⟩,s4,stay ?_⟩;unfold cV;rw[G2];exact A6 λz=>c2 z.2
    .refine aH ⟨⟨_,_,_,rfl⟩,s4,stay ?_⟩;unfold cV;rw[G2];exact A6 λz=>c1 z.1
   .rintro σ H3 ⟨⟨v4,v5,v6,rfl⟩,s3,Gr⟩;rw[Jb,<-mz] at Gr;exact⟨_,rfl,kk fo H3 s3 Jm (Gr.is Jm)⟩
theorem Fp:OKQ T.X11 P w base 10 spWith:=by
 refine FbO T.X11 gp λGu A outer s H vs Q E hr h=>?_;obtain⟨d,f,v,x,rfl,fd,d5,hv,Hw,kk⟩:=h;refine⟨_,(ah (pSA (i:=4) gp.nd (aE bp (pcq (nv T) hr T.X6 (aa (pv 0) (aa (pv 2) ae))) (aj bf (pv 1) ag) (λ_ _=>rfl)))
  (ah (pSA (i:=5) gp.nd (bX ae))
  (ah (bz Ac rfl (cq (pcq (tR T 8) hr T.X10 (aa (pcq (Fo T) hr T.X9 (aa (pv 0) (aa (pv 1) (aa (pv 4) (aa (pv 3) ae))))) (aa (pv 4) (aa (pv 3) ae))))) (pGA (i:=6) gp.nd) (ah (pSA (i:=7) gp.nd (aj bf (pv 4) (aZ (iV rfl) (by rfl) T.n_sum boot_sum (aa (fC (XN:=["d","floor","drawing","spare","there","found","lifts","ends","left"]) (sc:=ak gm) (N:=["lift"]) (own:=1) (js:=[]) rfl (by ac_nf) rfl rfl (cq (pv 6)) (λ_ _ _ _=>(cK (i:=0) (show List.Nodup (["lift"]:KW Str) by ac_nf) rfl (Or.inl rfl) (.inr rfl))) (fB (by decide)) (λ_ _ _ _=>dS) (λ_ _ _ _=>(aE cw (pv 0) ag (λ_ _=>rfl)))) ae))))
  (ah (pSA (i:=8) gp.nd (aj bf (aj bf (pv 3) (aZ (iV rfl) (by rfl) T.n_sum boot_sum (aa (fC (XN:=["d","floor","drawing","spare","there","found","lifts","ends","left"]) (sc:=ak gm) (N:=["lift"]) (own:=1) (js:=[]) rfl (by ac_nf) rfl rfl (cq (pv 6)) (λ_ _ _ _=>(cK (i:=0) (show List.Nodup (["lift"]:KW Str) by ac_nf) rfl (Or.inl rfl) (.inr rfl))) (fB (by decide)) (λ_ _ _ _=>dS) (λ_ _ _ _=>(pcq (kX T) hr T.X8 (aa (pv 0) ae)))) ae))) (aj br (pv 7) (aj bf (pv 0) (pv 1)))))
  (ai (ay (az k9 (pv 8) ag (aw _)) (ai (bd (cu BC By Bx fx (pv 5) (aa (c8 (aa (aj lH (pv 2) (pv 6)) (aa (pv 8) ae))) ae)))) ax)))))
  (ai (al (pv 5)))))),?_⟩
 obtain⟨b1,b2,b3,b4,b5,b6,b7⟩:=zZ Hw;have okl:∀p∈x.1,Okl d p:=λp hp=>by
  obtain⟨o1,o2,o3,o4,o5⟩:=mE.mp (b1 p hp);exact⟨o1,by lia,by lia,o3⟩
 have elen:=ko d x.1 okl;refine⟨_,rfl,_,rfl,d,v,x.1,rfl,by lia,d5,hv,okl,λel H1 s1 nel hel=>?_⟩;refine⟨_,rfl,_,_,rfl,rfl,el,_,_,.int (thF d (f+1) x.1),rfl,rfl,SqL.of hel,aW (j:=f) (by lia) (by rw[my (by lia)];rfl),?_⟩;unfold dr at kk;generalize thF d (f+1) x.1=th at b3 b4 b7 kk⊢;obtain⟨n,rfl⟩:=AK b3;refine⟨AR _,λfo H2 nf s2 JV=>?_⟩;have Jm:H fo=none:=s1.free nf;have JC:=s1.trans s2;refine⟨_,rfl,_,rfl,_,rfl,_,rfl,d,f+1,n,x.2,rfl,by lia,d5,by lia,λl0 H3 s3 nl0 hl0=>?_⟩;refine⟨_,rfl,_,rfl,.ref l0,cU ((f+1:Nat):Int) (d-(f+1)) n x.2,(n:Int),x.2,rfl,hl0,λp hp=>?_,by lia,by lia,?_,?_,by decide,λrl H4 s4 Jc Jn=>?_⟩
 .obtain⟨e1,e2,e3,e4,e5⟩:=mC hp;exact⟨by lia,by lia,by lia,by lia⟩
 .exact Am b7 (by decide)
 .have:=mB ((f+1:Nat):Int) n x.2 (d-(f+1));have:(d-(f+1))*n<=5*8:=Nat.mul_le_mul (by lia) (by lia);lia
 have eL:cz 8 (cU ((f+1:Nat):Int) (d-(f+1)) n x.2) (n:Int) x.2=fP d (f+1) n x.2:=by unfold fP;rw[B0]
 have JX:∀r∈fP d (f+1) n x.2,r.length<=8/\0<=(r.map (·.2.2)).sum/\(r.map (·.2.2)).sum<=(n:Int)/\∀p∈r,Lok p:=λr hr=>by
  rw[<-eL] at hr;obtain⟨i1,i2,i3,i4⟩:=mD (λq hq=>(mC hq).2.2.2.1) (by lia) hr;exact⟨i1,i2,i3,λp hp=>by
   obtain⟨e1,e2,e3,e4,e5⟩:=mC (i4 p hp);exact⟨by lia,by lia,by lia,by lia⟩⟩
 rw[eL] at Jn;generalize fP d (f+1) n x.2=L at Jn JX kk b7;have JD:=JC.trans s3;have Hr:H3 fo=some (.lst []):=s3 _ _ JV;have hfo4:H4 fo=some (.lst []):=s4 _ _ Hr;obtain⟨_,HX,e,Kz,IC⟩:=aP Jn;cases e;have Je:H4 rl=some (.lst HX):=dq _ _ Kz;have Jd:rl≠fo:=by rintro rfl;rw[Hr] at Jc;cases Jc
 have Im:HX.length=L.length:=by rw[IC.length,A3]
 have KA:Iss (hid H4 fo) (L.map lfs) HX:=(IC.mono (kt (af.refl H3) Hr)).mono (gd dq);have s04:=JD.trans s4;refine⟨rl,rfl,⟨_,SqL.of Je⟩,dz (xs:=HX) (λj σ H5=>(∃v6 v7 v8,σ=[some (.int d),some (.int ((f+1:Nat):Int)),some v,some (.int x.2),some (.int n),some (.ref fo),v6,v7,v8])/\af H H5/\But fo H4 H5/\Acc H H5 fo ((((L.take j).filter λls=>decide (0<=et d (f+1) n x.2 ls)).map λls=>(x.1++ls,et d (f+1) n x.2 ls)).map stD)) ⟨⟨none,none,none,rfl⟩,s04,λ_ _ e _=>e,Acc.start hfo4⟩ (λj σ H5 _ h=>SqL.of (h.2.2.1 _ _ Je Jd)) ?_ ?_⟩
 .rintro j y σ H5 hj ⟨⟨v6,v7,v8,rfl⟩,s5,Io,JB,HW,Jo⟩;obtain⟨r,IH,hy⟩:=cj KA hj;have hy5:Is H5 (lfs r) y:=hy.mono (sX Io);obtain⟨i1,i2,i3,i4⟩:=JX r (Aa IH);obtain⟨ya,ys,rfl,hya,hyi⟩:=aP hy5;have ylen:ys.length=r.length:=by rw[hyi.length,A3]
  have vl:JB.length<=200:=by
   rw[Jo.length,A3,A3];refine Am (List.length_filter_le _ _) ?_;rw[Ao];lia
  refine⟨_,rfl,_,rfl,ya,rfl,⟨_,SqL.of hya⟩,λacc na=>?_⟩;refine fD (xs:=ys) (own:=1) (js:=[]) (λi H6=>af H5 H6/\H6 acc=some (.lst (((r.take i).map (·.2.2)).map V.int))) ⟨af.new na,am⟩ (λi H6 _ h=>SqL.of (h.1 _ _ hya)) ?_ ?_ fE dW ?_
  .rintro i z H6 hz ⟨s6,Gr⟩;obtain⟨p,G2,hzi⟩:=cj hyi hz;refine fF ?_;refine⟨_,rfl,_,2,_,hzi.mono s6,rfl,rfl,λu hu=>?_⟩;rw[aS hu];refine⟨acc,_,_,rfl,rfl,Gr,bt ?_,s6.put na,?_⟩
   .rw[A3,A3,Ao];lia
   .rw[am,Af,G2,AO,AO];rfl
  .rintro H6 ⟨s6,Gr⟩;rw[ylen,Az] at Gr;refine⟨acc,_,rfl,SqL.of Gr,_,_,rfl,rfl,?_⟩;clear Gr;refine⟨_,rfl,_,rfl,ya,rfl,⟨_,SqL.of (s6 _ _ hya)⟩,λac2 na2=>?_⟩;refine fD (xs:=ys) (own:=1) (js:=[]) (λi H7=>af H6 H7/\H7 ac2=some (.lst (((r.take i).map bY).map V.int))) ⟨af.new na2,am⟩ (λi H7 _ h=>SqL.of (h.1 _ _ (s6 _ _ hya))) ?_ ?_ fE dW ?_
   .rintro i z H7 hz ⟨s7,Gr⟩;obtain⟨p,G2,hzi⟩:=cj hyi hz;refine fF ?_;refine⟨_,rfl,z,p,rfl,(hzi.mono s6).mono s7,i4 p (Aa G2),ac2,_,_,rfl,rfl,Gr,bt ?_,s7.put na2,?_⟩
    .rw[A3,A3,Ao];lia
    .rw[am,Af,G2,AO,AO];rfl
   .rintro H7 ⟨s7,Gr⟩;rw[ylen,Az] at Gr;have JE:=s6.trans s7;refine⟨ac2,_,rfl,SqL.of Gr,_,_,rfl,rfl,_,rfl,_,rfl,_,rfl,_,_,rfl,rfl,_,_,rfl,rfl,.inr ⟨by lia,by lia⟩,_,_,rfl,rfl,?_⟩;refine⟨_,rfl,_,_,rfl,rfl,_,rfl,aF (λc=>?_) (λc=>?_)⟩
    .have hv7:Is H7 (lfs x.1) v:=(hv.mono s5).mono JE;refine⟨_,rfl,.inl ⟨rfl,_,SqL.of (JE _ _ HW)⟩,_,rfl,_,rfl,x.1.map lf,r.map lf,hv7,hy5.mono JE,Ar (bt (by rw[A3,A3];lia)),λq1 H8 n8 s8 h8=>⟨_,rfl,(zB rfl),λt H9 nt s9 ht=>?_⟩⟩;have s59:=JE.trans (s8.trans s9);refine⟨fo,JB,_,rfl,rfl,s59 _ _ HW,bt (by lia),⟨_,_,_,rfl⟩,(s5.trans s59).put Jm,Io.trans ((But.of_same s59).trans But.upd),?_⟩;rw[Af,IH,Cb];have ef:(Option.toList (some r)).filter (λls=>decide (0<=et d (f+1) n x.2 ls))=[r]:=by
      have c':0<=et d (f+1) n x.2 r:=c;simp[c']
     rw[ef,AO,AO];rw[<-AO] at h8;have isx:Is (nw H5 H9) (stD (x.1++r,et d (f+1) n x.2 r)) (.ref t):=dB (by rw[dZ ((JE.trans s8).free nt)];exact ht) (aT (rG s59 (JE.free n8) (Is.mono (s:=s9) h8)) (aT dj aM));exact Acc.add s5 s59 HW Jo isx
    .refine⟨⟨_,_,_,rfl⟩,s5.trans JE,Io.trans (But.of_same JE),?_⟩;rw[Af,IH,Cb];have ef:(Option.toList (some r)).filter (λls=>decide (0<=et d (f+1) n x.2 ls))=[]:=by
      have c':¬0<=et d (f+1) n x.2 r:=c;simp[c']
     rw[ef,BW];exact Acc.mono JE ⟨JB,HW,Jo⟩
   .rintro σ H R R' k ⟨v1,e1,v2,p,e2,h1,h2,h⟩;exact⟨v1,e1,v2,p,e2,h1,h2,k _ _ h⟩
  .rintro σ H R R' k ⟨v1,e1,xs,i,d,h1,e2,e3,h⟩;exact⟨v1,e1,xs,i,d,h1,e2,e3,λu hu=>k _ _ (h u hu)⟩
 .rintro σ H5 ⟨⟨v6,v7,v8,rfl⟩,s5,_,Gr⟩;rw[Im,Az] at Gr;exact⟨_,rfl,kk fo H5 s5 Jm (Gr.is Jm)⟩
theorem tS:FnOk P w K mg base (CX1 P w) 11 T.f12 T.d12 ["d","k"] (spDrw T.c_NoBound):=by
 refine T.X12.F.okx fK (λvs H Q E h=>?_) (λGu A outer s H vs Q E hr h hR hp=>?_)
 .obtain⟨_,_,rfl,_⟩:=h;rfl
 .obtain⟨v,u,rfl,ht,hu,kk,ke⟩:=h;refine⟨_,(ah (bd (aA (iy T) (hr.mono (by decide)) (by rfl) T.X3.m T.X3.F.kp T.X3.B .nil hp (aa (pv 0) (aa (pv 1) ae))))
   (ah (pSA (i:=2) fK.nd (bX (aa (c8 (aa (bX ae) (aa (pv 1) ae))) ae)))
   (ah (PS.quiet (bz Ac rfl (gP (by rfl) T.n_range (aa ag (aa (aj aV (pv 0) ag) ae))) (pGA (i:=3) fK.nd) (ah (pSA (i:=4) fK.nd (bX ae))
   (ah (bz Ac rfl (cq (pv 2)) (eD rfl (bG (pGA (i:=5) fK.nd) (bG (pGA (i:=6) fK.nd) dy))) (ai (bd (cu BC PySem.F.slot_list_extend PySem.F.type_list_extend oR (pv 4) (aa (pcq (Fp T) hr T.X11 (aa (pv 0) (aa (pv 3) (aa (pv 5) (aa (pv 6) ae))))) ae)))))
   (ai (pSA (i:=2) fK.nd (pv 4)))))))
   (ai (al (aZ (xr hr) (by rfl) T.n_sorted boot_sorted (aa (fC (XN:=["d","k","begun","floor","longer","drawing","spare"]) (sc:=ak hJ) (N:=["drawing","spare"]) (own:=2) (js:=[]) rfl (by ac_nf) rfl rfl (cq (pv 2)) (λ_ _ _ _=>(lN (K:=K) rfl rfl (bG (cK (i:=0) (show List.Nodup (["drawing","spare"]:KW Str) by ac_nf) rfl (Or.inl rfl) (.inr rfl)) (bG (cK (i:=1) (show List.Nodup (["drawing","spare"]:KW Str) by ac_nf) rfl (Or.inl rfl) (.inr rfl)) dy)))) lL (λ_ _ _ _=>(wD (az aI (pv 1) ag (aw _)))) (λ_ _ _ _=>(pv 0))) ae))))))),?_⟩
  refine⟨_,rfl,_,rfl,v,u,rfl,ht,hu,λzu86=>?_,ke⟩;obtain⟨d,k,e1,e2,hW⟩:=zu86;subst e1 e2;obtain⟨hW4,kk⟩:=kk d k rfl rfl hW;clear ke;have g1:okB d k=true:=by obtain⟨rfl,rfl⟩:=hW4;ac_nf
  have g3:(dt d k).length<64:=by obtain⟨rfl,rfl⟩:=hW4;ac_nf
  obtain⟨gA,gB⟩:=Da g1;have d15:1<=d/\d<=5:=by unfold Wide at hW;lia
  refine⟨AR _,λe0 H1 ne0 s1 Hj=>⟨_,rfl,(zB rfl),λt0 H2 nt0 s2 ht0=>⟨(zB rfl),λbg H3 nb s3 KC=>?_⟩⟩⟩;have JD:=(s1.trans s2).trans s3;have nbH:H bg=none:=(s1.trans s2).free nb;have is0:Is (nw H H3) (.l ((bI d k 0).map stD)) (.ref bg):=ba (by rw[dZ nbH];exact KC) (aT (dB (by rw[dZ (s1.free nt0)];exact s3 _ _ ht0) (aT (ba (vs:=[]) (by rw[dZ ne0];exact s3 _ _ (s2 _ _ Hj)) aM) (aT dj aM))) aM);refine⟨_,rfl,_,_,rfl,rfl,_,_,rfl,⟨by decide,by decide,by lia,by lia⟩,?_⟩;rw[show((d:Int)+1-1).toNat=d by lia];refine dg (lo:=1) (n:=d) (λf σ H4=>∃bg,(∃v3 v4 v5 v6,σ=[some (.int d),some (.int k),some (.ref bg),v3,v4,v5,v6])/\af H H4/\Is (nw H H4) (.l ((bI d k f).map stD)) (.ref bg)) ⟨bg,⟨none,none,none,none,rfl⟩,JD,is0⟩ ?_ ?_
  .clear is0 JD nbH KC;rintro f σ H4 hf ⟨bg,⟨v3,v4,v5,v6,rfl⟩,s4,KC⟩;obtain⟨Hw,Gv⟩:=gA f hf;refine⟨AR _,λlo H5 nlo s5 hlo=>?_⟩;have hbg4:=KC.mono dq;obtain⟨_,bvs,e,GW,hbi⟩:=aP hbg4;cases e;have KD:bvs.length=(bI d k f).length:=by rw[hbi.length,A3]
   refine⟨_,rfl,bg,rfl,⟨_,SqL.of (s5 _ _ GW)⟩,dz (xs:=bvs) (λj σ H6=>(∃v5 v6,σ=[some (.int d),some (.int k),some (.ref bg),some (.int (1+(f:Int))),some (.ref lo),v5,v6])/\af H4 H6/\Acc H4 H6 lo ((((bI d k f).take j).flatMap λx=>dr d (f+1) x.1 x.2).map stD)) ⟨⟨_,_,rfl⟩,s5,Acc.start hlo⟩ (λj σ H6 _ h=>SqL.of (h.2.1 _ _ GW)) ?_ ?_⟩
   .rintro j y σ H6 hj ⟨⟨v5,v6,rfl⟩,s6,vs6,KE,hi6⟩;obtain⟨x,HE,hy⟩:=cj hbi hj;obtain⟨t,u,rfl,ht,hu⟩:=sW (hy.mono s6);have e1:(1+(f:Int))=((f+1:Nat):Int):=by lia
    have tk:(((bI d k f).take (j+1)).flatMap λx=>dr d (f+1) x.1 x.2)=(((bI d k f).take j).flatMap λx=>dr d (f+1) x.1 x.2)++dr d (f+1) x.1 x.2:=by
     rw[Af,HE,CS];simp
    have vl:vs6.length+(dr d (f+1) x.1 x.2).length<=900:=by
     rw[hi6.length,A3];have hjl:j<(bI d k f).length:=(AJ.mp HE).1;have:(((bI d k f).take (j+1)).flatMap λx=>dr d (f+1) x.1 x.2).length<=(bI d k (f+1)).length:=by
      show _<=((bI d k f).flatMap λx=>dr d (f+1) x.1 x.2).length
      conv=>rhs;rw[<-List.take_append_drop (j+1) (bI d k f)]
      rw[CS,AX];lia
     rw[tk,AX] at this;lia
    refine⟨t,_,rfl,SqT.of ht,rfl,_,_,rfl,_,_,rfl,rfl,?_⟩;refine⟨_,rfl,.inl ⟨rfl,_,SqL.of KE⟩,_,rfl,_,rfl,_,rfl,_,rfl,d,f,u,x,by rw[e1];rfl,hf,d15.2,hu,Hw x (Aa HE),λwl H7 s7 nwl HQ=>?_⟩;obtain⟨_,us,e,hwl',hwi⟩:=aP HQ;cases e;have ul:us.length=(dr d (f+1) x.1 x.2).length:=by rw[hwi.length,A3]
    refine⟨lo,wl,vs6,us,rfl,rfl,s7 _ _ KE,dq _ _ hwl',Ar (bt (by lia)),⟨_,_,rfl⟩,(s6.trans s7).put nlo,?_⟩;rw[tk,AO];exact Acc.adds s6 s7 KE hi6 hwi
   .rintro σ H6 ⟨⟨v5,v6,rfl⟩,s6,Gr⟩;rw[KD,Az] at Gr;exact⟨_,rfl,lo,⟨_,_,_,_,rfl⟩,s4.trans s6,(Gr.is nlo).mono (rF s4)⟩
  .clear is0 JD nbH KC;rintro σ H4 ⟨bg,⟨v3,v4,v5,v6,rfl⟩,s4,KC⟩;obtain⟨_,bvs,e,GW,hbi⟩:=aP KC;cases e;have hb4':=dq _ _ GW;have KD:bvs.length=(bI d k d).length:=by rw[hbi.length,A3]
   refine⟨_,rfl,bg,rfl,⟨_,SqL.of hb4'⟩,λacc na=>?_⟩;refine fD (xs:=bvs) (own:=2) (js:=[]) (λj H5=>af H4 H5/\∃vs,H5 acc=some (.lst vs)/\Iss (nw H H4) (((((bI d k d).take j).filter λx=>decide (x.2=0)).map (·.1)).map lfs) vs) ⟨af.new na,[],am,aM⟩ (λj H5 _ h=>SqL.of (h.1 _ _ hb4')) ?_ ?_ lM ?_ ?_
   .rintro j y H5 hj ⟨s5,vs,Gr,hi⟩;obtain⟨x,HE,hy⟩:=cj hbi hj;obtain⟨t,u,rfl,ht,hu⟩:=sW hy;have vl:vs.length<=900:=by
     rw[hi.length,A3,A3];refine Am (List.length_filter_le _ _) ?_;rw[Ao];obtain⟨d',rfl⟩:∃d',d=d'+1:=⟨d-1,by lia⟩;have:=(gA d' (by lia)).2;lia
    refine⟨t,_,rfl,SqT.of (s5 _ _ (dq _ _ ht)),rfl,_,_,rfl,_,_,rfl,rfl,?_⟩;refine⟨_,rfl,rfl,_,rfl,bD (λc=>?_) (λc=>?_)⟩
    .refine⟨_,rfl,acc,vs,_,rfl,rfl,Gr,bt (by lia),s5.put na,_,am,?_⟩;rw[Af,HE,Cb];have ef:(Option.toList (some x)).filter (λx=>decide (x.2=0))=[x]:=by simp[c]
     rw[ef,AO,AO];exact hi.append (aT hu aM)
    .refine⟨s5,vs,Gr,?_⟩;rw[Af,HE,Cb];have ef:(Option.toList (some x)).filter (λx=>decide (x.2=0))=[]:=by simp[c]
     rw[ef,BW];exact hi
   .rintro H5 ⟨s5,vs,Gr,hi⟩;rw[KD,Az] at hi;have hi:Iss (nw H H4) ((dt d k).map lfs) vs:=hi;have s05:=s4.trans s5;have hv5:Iss H5 ((dt d k).map lfs) vs:=(hi.mono dq).mono s5;have vlen:vs.length=(dt d k).length:=by rw[hi.length,A3]
    refine⟨acc,vs,rfl,SqL.of Gr,by lia,λr IH=>?_,λx hx y hy=>?_,λp q pp nq=>?_⟩
    .obtain⟨i,hi,rfl⟩:=Bu.mp IH;obtain⟨w,_,hy⟩:=cj hv5 (A1 hi);obtain⟨a,ys,e1,e2,_⟩:=aP hy;exact⟨a,ys,e1,SqL.of e2⟩
    .obtain⟨i,hi,rfl⟩:=Bu.mp hx;obtain⟨j,hj,rfl⟩:=Bu.mp hy;obtain⟨w1,_,HE⟩:=cj hv5 (A1 hi);obtain⟨w2,_,hy'⟩:=cj hv5 (A1 hj);exact⟨_,zV HE hy'⟩
    .have G5:∀i∈p,i<(dt d k).length:=λi hi=>by
      have:=Ak.mp (pp.mem_iff.mp hi);lia
     refine kk (p.map λi=>(dt d k).getD i []) q _ ?_ (s05.put (s05.free nq)) (s05.free nq) ?_
     .have:=pp.map λi=>(dt d k).getD i [];have er:(List.range vs.length).map (λi=>(dt d k).getD i [])=dt d k:=by
       rw[vlen];refine Cv (by simp) λi h1 h2=>?_;simp[List.getD,h2]
      rw[er] at this;exact this
     .exact ba (by rw[dZ (s05.free nq)];exact am) ((sV hi p G5).mono (im (s5.trans (af.new nq))))
   .rintro σ H R R' k' ⟨v1,e1,e2,b,e3,h⟩;exact⟨v1,e1,e2,b,e3,k' _ _ h⟩
   .rintro σ H R R' k' ⟨v1,e1,h⟩;exact⟨v1,e1,k' _ _ h⟩
theorem tT:OKQ T.X7 P w base 5 spSouA:=by
 refine FbO T.X7 zg λ_ _ _ _ H vs Q E hr h=>?_;obtain⟨n,dv,ps,rfl,n1,n5,hd,hs,kk⟩:=h;refine⟨_,(ai (al (dQ k9 (aZ (xf rfl) (by rfl) T.n_min boot_min (aa (pcq (nv T) hr T.X6 (aa (pv 0) (aa (pv 1) ae))) ae)) ag (aw _)))),?_⟩;refine⟨_,rfl,_,rfl,n,dv,ps,rfl,n1,n5,hd,hs,λl H1 s1 nl hl=>?_⟩;exact⟨l,_,rfl,SqL.of hl,by rw[ko n ps hs];lia,_,_,rfl,rfl,kk H1 s1⟩
theorem Fq:OKQ T.X7 P w base 5 spSou:=
 FnOk.imp (tT T) λvs H Q E GB=>by obtain⟨n,dv,ps,e,n1,n5,hd,hs,kk⟩:=GB;exact⟨n,dv,ps,e,n1,n5,hd,hs.okl,λH' s'=>by rw[B3 (ES hs.ends)];exact kk H' s'⟩
theorem Fs:OKQ T.X15 P w base 6 spNeS:=by
 refine FbO T.X15 rc λ_ _ _ _ H vs Q E hr h=>?_;obtain⟨n,dv,ps,rfl,n1,n5,hd,hs,kk⟩:=h;refine⟨_,(ah (bd (pcq (nu T) hr T.X4 (aa (pv 0) ae)))
  (ai (ay (cZ (cc (pcq (Fq T) hr T.X7 (aa (pv 0) (aa (pv 1) ae))))) (ai bJ) ax))),?_⟩
 exact⟨_,rfl,n,rfl,by lia,by lia,_,rfl,_,rfl,n,dv,ps,rfl,n1,n5,hd,hs,λH1 s1=>⟨true,rfl,aH (kk H1 s1)⟩⟩
theorem Ft:FnOk P w K mg base (CX1 P w) 6 T.f15 T.d15 ["d","drawing"] (spNeX2 T.c_NoDrawing):=by
 refine T.X15.F.okx rc (λvs H Q E h=>?_) (λGu A outer s H vs Q E hr h hR hp=>?_)
 .obtain⟨_,_,_,rfl,_⟩:=h;rfl
 .obtain⟨n,dv,ps,rfl,n1,n5,hd,hs,hm,ke⟩:=h;refine⟨_,(ah (bd (pcq (nu T) hr T.X4 (aa (pv 0) ae)))
   (ai (ay (cZ (cc (pcq (tT T) hr T.X7 (aa (pv 0) (aa (pv 1) ae))))) (ai (c9 hR (by rfl) T.m_NoDrawing T.x_NoDrawing rfl (aa aq ae))) ax))),?_⟩
  refine⟨_,rfl,n,rfl,by lia,by lia,_,rfl,_,rfl,n,dv,ps,rfl,n1,n5,hd,hs,λH1 s1=>⟨_,rfl,?_⟩⟩;rw[Al (by lia)];exact aN ⟨(zB rfl),ke H1 s1⟩
theorem Fu:OKQ T.X16 P w base 5 spEnM:=by
 refine FbO T.X16 jF λ_ _ _ _ H vs Q E hr h=>?_;obtain⟨n,dv,ps,rfl,n1,n5,hd,hs,Gv,kk⟩:=h;refine⟨_,(ah (pSA (i:=2) jF.nd (bX ae))
  (ah (bz Ac rfl (lE (by rfl) T.n_enumerate (pcq (nv T) hr T.X6 (aa (pv 0) (aa (pv 1) ae)))) (eD rfl (bG (pGA (i:=3) jF.nd) (bG (pGA (i:=4) jF.nd) dy))) (ai (bd (cu BC PySem.F.slot_list_extend PySem.F.type_list_extend oR (pv 2) (aa (aj lI (bX (aa (c8 (aa (aj aV (pv 3) ag) (aa (aj aV (pv 0) ag) (aa ag ae)))) ae)) (pv 4)) ae)))))
  (ai (al (pv 2))))),?_⟩
 refine⟨AR _,λfo H1 nf s1 JV=>?_⟩;refine⟨_,rfl,_,rfl,n,dv,ps,rfl,n1,n5,hd.mono s1,hs.okl,λe H2 s2 ne he=>?_⟩;have el:=ko n ps hs.okl;have efo:e≠fo:=by rintro rfl;rw[JV] at ne;cases ne
 refine⟨e,rfl,⟨_,SqL.of he⟩,ph (xs:=(bi n ps).map V.int) (λi σ H3=>(∃v3 v4,σ=[some (.int n),some dv,some (.ref fo),v3,v4])/\af H H3/\H3 e=some (.lst ((bi n ps).map V.int))/\∃vs,H3 fo=some (.lst vs)/\Iss H3 (((List.range i).flatMap (eY n (bi n ps))).map lf) vs)
  ⟨⟨none,none,rfl⟩,s1.trans s2,he,[],s2 _ _ JV,aM⟩ (λi σ H3 _ h=>SqL.of h.2.2.1) ?_ ?_⟩
 .rintro i x σ H3 p hx ⟨⟨v3,v4,rfl⟩,s3,JY,vs,hf3,hi3⟩ np;rw[AF] at hx;obtain⟨x,HE,rfl⟩:=AY.mp hx;have hi:i<n:=by have:=(AJ.mp HE).1;lia
  have ex:(bi n ps).getD i 0=x:=by rw[List.getD,HE];rfl
  have x0:0<=x:=by rw[<-ex];exact hs.ends i
  have pre:((List.range i).flatMap (eY n (bi n ps))).length+x.toNat<=20:=by
   have:=ku (eY n (bi n ps)) hi;have e2:(eY n (bi n ps) i).length=x.toNat:=by unfold eY;rw[Ct,ex]
   unfold eu at Gv;lia
  refine⟨p,_,rfl,SqT.of am,rfl,_,_,rfl,_,_,rfl,rfl,?_⟩;have s4:af H3 (upd H3 p (.tup [.int i,.int x])):=af.new np;generalize upd H3 p (.tup [.int i,.int x])=H4 at s4⊢;refine⟨_,rfl,.inl ⟨rfl,_,SqL.of (s4 _ _ hf3)⟩,_,rfl,_,_,rfl,rfl,_,rfl,_,_,rfl,rfl,(zB rfl),λt H5 nt s5 ht=>⟨(zB rfl),λl1 H6 n6 s6 h6=>?_⟩⟩;have htl:Is H6 (lf (1+(i:Int),(n:Int)+1,1)) (.ref t):=dI (s6 _ _ (by rw[ht];show some (HO.tup [V.int ((i:Int)+1),_,_])=_;rw[Int.add_comm]));refine⟨_,rfl,lf (1+(i:Int),(n:Int)+1,1),x,ba h6 (aT htl aM),rfl,by lia,by lia,Ar (bt (by lia)),λl2 H7 n7 s7 h7=>?_⟩;obtain⟨_,us,e2,HP,Ii⟩:=aP h7;cases e2;have s47:af H3 H7:=((s4.trans s5).trans s6).trans s7;have hf7:=s47 _ _ hf3;have ul:us.length=x.toNat:=by rw[Ii.length,Ct]
  have vl:=hi3.length;rw[A3] at vl;refine⟨fo,l2,vs,us,rfl,rfl,hf7,HP,Ar (bt (by lia)),⟨_,_,rfl⟩,(s3.trans s47).put nf,by rw[au efo];exact s47 _ _ JY,_,am,?_⟩;rw[gw,AO];refine(sY s47 hf3 hi3).append (sY (af.refl H7) hf7 ?_);have:(eY n (bi n ps) i).map lf=List.replicate x.toNat (lf (1+(i:Int),(n:Int)+1,1)):=by unfold eY;rw[ex,List.map_replicate]
  rw[this];exact Ii
 .rintro σ H3 ⟨⟨v3,v4,rfl⟩,s3,JY,vs,hf3,hi3⟩;rw[A3,el] at hi3;exact⟨_,rfl,kk fo H3 s3 nf (ba hf3 hi3)⟩
theorem tU:OKQ T.X14 P w base 1 spChA:=by
 refine FbO T.X14 eP λ_ _ _ _ H vs Q E hr h=>?_;obtain⟨n,k,rfl,n0,n1,kk⟩:=h;refine⟨_,(ah (ay (df (az fg (pv 1) ag (aw _)) (eB (az fk (pv 1) (pv 0) (aw _)))).pt (ai (al ag)) ax)
  (ah (pSA (i:=2) eP.nd ag)
  (ah (bz Ac rfl (fW (by rfl) T.n_range (aa (pv 1) ae)) (pGA (i:=3) eP.nd) (ai (pSA (i:=2) eP.nd (aj k8 (aj br (pv 2) (aj bf (pv 0) (pv 3))) (aj aV (pv 3) ag)))))
  (ai (al (pv 2)))))),?_⟩
 refine⟨_,rfl,_,_,rfl,rfl,_,rfl,aF (λh=>aN ?_) (λh=>?_)⟩
 .rw[show cho n k=0 from A9 (.inl h)] at kk;exact kk
 .refine⟨_,rfl,_,rfl,_,_,rfl,rfl,_,rfl,aF (λh2=>?_) (λh2=>?_)⟩
  .rw[show cho n k=0 from A9 (.inr h2)] at kk;exact kk
  .rw[show cho n k=chG n k.toNat from A6 (by lia)] at kk;refine⟨_,rfl,_,rfl,by lia,by lia,dg (n:=k.toNat) (λi σ H2=>(∃v3,σ=[some (.int n),some (.int k),some (.int (chG n i)),v3])/\H2=H) ⟨⟨none,rfl⟩,rfl⟩ ?_ ?_⟩
   .rintro i σ H2 hi ⟨⟨v3,rfl⟩,rfl⟩;exact⟨_,rfl,_,rfl,_,rfl,_,_,rfl,rfl,_,_,rfl,rfl,.inr ⟨by lia,by lia⟩,_,rfl,_,_,rfl,rfl,_,_,rfl,rfl,⟨by lia,by lia⟩,⟨_,rfl⟩,rfl⟩
   .rintro σ H2 ⟨⟨v3,rfl⟩,rfl⟩;exact⟨_,rfl,kk⟩
theorem tV:OKQ T.X14 P w base 1 spCho:=by
 refine FbO T.X14 eP λ_ _ _ _ H vs Q E hr h=>?_;obtain⟨n,k,rfl,h1,h2,kk⟩:=h;refine⟨_,(ah (ay (df (az fg (pv 1) ag (aw _)) (eB (az fk (pv 1) (pv 0) (aw _)))).pt (ai (al ag)) ax)
  (ah (pSA (i:=2) eP.nd ag)
  (ah (bz Ac rfl (fW (by rfl) T.n_range (aa (pv 1) ae)) (pGA (i:=3) eP.nd) (ai (pSA (i:=2) eP.nd (aj k8 (aj br (pv 2) (aj bf (pv 0) (pv 3))) (aj aV (pv 3) ag)))))
  (ai (al (pv 2)))))),?_⟩
 refine⟨_,rfl,_,_,rfl,rfl,_,rfl,aF (λh=>absurd h (by lia)) (λ_=>?_)⟩;refine⟨_,rfl,_,rfl,_,_,rfl,rfl,_,rfl,aF (λh=>absurd h (by lia)) (λ_=>?_)⟩;refine⟨_,rfl,(k:Int),rfl,by lia,by lia,dg (lo:=0) (n:=(k:Int).toNat) (λi σ H2=>(∃v3,σ=[some (.int n),some (.int k),some (.int (chF n i)),v3])/\H2=H) ⟨⟨none,rfl⟩,rfl⟩ ?_ ?_⟩
 .rintro i σ H2 hi ⟨⟨v3,rfl⟩,rfl⟩;refine⟨_,rfl,_,rfl,_,rfl,_,_,rfl,rfl,_,_,rfl,rfl,.inr ⟨by lia,by lia⟩,_,rfl,_,_,rfl,rfl,_,_,rfl,rfl,⟨by lia,by lia⟩,⟨some (.int (0+(i:Int))),?_⟩,rfl⟩;rw[show chF n (i+1)=chF n i*(n-(0+(i:Int)))/((0+(i:Int))+1) by rw[Int.zero_add];rfl];rfl
 .rintro σ H2 ⟨⟨v3,rfl⟩,rfl⟩;rw[B0];exact⟨_,rfl,kk⟩
theorem tW:OKQ T.X5 P w base 1 spWm:=by
 refine FbO T.X5 zf λ_ _ _ _ H vs Q E hr h=>?_;obtain⟨v,t,p,m,rfl,hv,hp,hl,kk⟩:=h;refine⟨_,(ai (al (aj qP (aj qP (fq qQ (pv 0) fZ (eE (pv 1))) (c8 (aa (aj aV (aE cw (pv 0) (pv 1) (λ_ _=>rfl)) (pv 2)) ae))) (fq qQ (pv 0) (eE (aj aV (pv 1) ag)) fZ)))),?_⟩;have Gv:∀vs:KW V,vs.length=(t.map D.i).length->vs.length=t.length:=λvs e=>by rw[e,A3]
 refine⟨_,rfl,_,rfl,(p:Int),rfl,t.map .i,(t.take p).map .i,hv,EX,λvs e h=>?_,λu1 H1 s1 Hq=>?_⟩
 .have e:=Gv vs e;rw[HT.sIx_nat] at h;lia
 refine⟨_,rfl,_,rfl,t.map .i,(p:Int),.i (t.getD p 0),hv.mono s1,rfl,?_,λu hu=>?_⟩
 .refine aW (j:=p) rfl ?_;rw[AF,A1 hp];simp[List.getD,hp]
 rw[aS hu];refine⟨_,rfl,_,_,rfl,rfl,(zB rfl),λq2 H2 n2 s2 h2=>?_⟩;have HZ:Is H2 (.t [.i (t.getD p 0+m)]) (.ref q2):=dB h2 (aT dj aM);refine⟨_,_,Hq.mono s2,HZ,Ar (bt (by rw[A3,Ao];show _+1<=1000;lia)),λu3 H3 s3 hu3=>?_⟩;refine⟨_,rfl,_,rfl,_,_,rfl,rfl,(p:Int)+1,rfl,t.map .i,(t.drop (p+1)).map .i,((hv.mono s1).mono s2).mono s3,?_,λvs e h=>?_,λu4 H4 s4 hu4=>?_⟩
 .rw[show((p:Int)+1)=((p+1:Nat):Int) by lia];exact EY (by lia)
 .have e:=Gv vs e;rw[show((p:Int)+1)=((p+1:Nat):Int) by lia,HT.sIx_nat] at h;lia
 refine⟨_,_,hu3.mono s4,hu4,Ar (bt (by rw[AX,A3,A3,Ao,CN];show _+1+_<=1000;lia)),λu5 H5 s5 hu5=>?_⟩;refine kk u5 H5 ((((s1.trans s2).trans s3).trans s4).trans s5) ?_;have e:(t.take p).map D.i++[D.i (t.getD p 0+m)]++(t.drop (p+1)).map D.i=(wmF t p m).map D.i:=by
  unfold wmF;rw[<-Df hp,AO,AO];rfl
 rw[e] at hu5;exact hu5
theorem tX:∀n:Nat,FnOk P w K mg base CX0 (n+2) T.f17 T.d17 ["numbers","first","last","alike"] (spPB n K)
 |0=>⟨λvs H Q E h=>(by obtain⟨_,_,_,_,_,_,_,h,_⟩:=h;exact absurd h (Nat.not_lt_zero _)),λA outer s H args us vs Q E _ _ _ _ h=>(by obtain⟨_,_,_,_,_,_,_,h,_⟩:=h;exact absurd h (Nat.not_lt_zero _))⟩
 |n+1=>by
  have ih:=tX n;refine T.X17.F.ok gq (λvs H Q E h=>?_) (λGu A outer s H vs Q E hr h=>?_)
  .obtain⟨_,_,_,_,_,rfl,_⟩:=h;rfl
  .obtain⟨v,t,p,g,a,rfl,hv,hg,hn,hp,⟨kl,kn,ks⟩,kk⟩:=h;refine⟨_,(ah (ay (az aI (pv 1) (pv 2) (aw _)) (ai (al (bX (aa (c8 (aa (pcq (tW T) hr T.X5 (aa (pv 0) (aa (pv 1) (aa (pv 3) ae))) (by lia)) (aa (pcq (tV T) hr T.X14 (aa (aj aV (aE cw (pv 0) (pv 1) (λ_ _=>rfl)) (pv 3)) (aa (pv 3) ae)) (by lia)) ae))) ae)))) ax)
   (ah (pSA (i:=4) gq.nd (bX ae))
   (ah (bz Ac rfl (fW (by rfl) T.n_range (aa (aj aV (pv 3) ag) ae)) (pGA (i:=5) gq.nd) (ah (pSA (i:=6) gq.nd (pcq (tV T) hr T.X14 (aa (aj aV (aE cw (pv 0) (pv 1) (λ_ _=>rfl)) (pv 5)) (aa (pv 5) ae)) (by lia)))
   (ai (bz Ac rfl (cq (aA ih hr (by rfl) T.X17.m T.X17.F.kp T.X17.B .nil iL (aa (pcq (tW T) hr T.X5 (aa (pv 0) (aa (pv 1) (aa (pv 5) ae))) (by lia)) (aa (aj aV (pv 1) ag) (aa (pv 2) (aa (aj bf (pv 3) (pv 5)) ae)))))) (eD rfl (bG (pGA (i:=7) gq.nd) (bG (pGA (i:=8) gq.nd) dy))) (ai (bd (cu BC By Bx fx (pv 4) (aa (c8 (aa (pv 7) (aa (aj br (pv 6) (pv 8)) ae))) ae))))))))
   (ai (al (pv 4)))))),?_⟩
   have kp:=(gz kn).2 p;have kp0:=kn p;have at_p:∀{H':Hp},af H H'->∀{v':V},Is H' (tI t) v'->atI (t.map D.i) (p:Int)=some (.i (t.getD p 0)):=λ_ _ _=>by
    refine aW (j:=p) rfl ?_;rw[AF,A1 (by lia)];simp[List.getD,show p<t.length by lia]
   refine⟨_,rfl,_,rfl,rfl,_,rfl,bD (λe=>?_) (λe=>?_)⟩
   .have hg0:g=0:=by lia
    subst hg0;refine⟨_,rfl,_,rfl,_,rfl,v,t,p,a,rfl,hv,by lia,kl,λu1 H1 s1 Hq=>?_⟩;refine⟨_,rfl,_,rfl,t.map .i,(p:Int),_,hv.mono s1,rfl,at_p s1 (hv.mono s1),λu hu=>?_⟩;rw[aS hu];refine⟨_,rfl,_,_,rfl,rfl,_,rfl,t.getD p 0+a,a,rfl,by lia,by lia,?_⟩;refine⟨(zB rfl),λq2 H2 n2 s2 h2=>⟨(zB rfl),λq3 H3 n3 s3 h3=>?_⟩⟩;have JC:=s1.trans s2;refine kk q3 H3 (JC.trans s3) (JC.free n3) (ba h3 (aT ((ng (x:=(wmF t p (a:Int),chF (t.getD p 0+(a:Int)) a)) h2 (Hq.mono s2)).mono s3) aM))
   .obtain⟨g,rfl⟩:∃g',g=g'+1:=⟨g-1,by lia⟩;refine⟨AR _,λfo H1 nf s1 JV=>?_⟩;have big:=EZ (g:=g+1) (t:=t) (p:=p) (a:=a) (by lia) (by have:=(gz kn).1;lia);have a15:(a:Int)<=15:=by have:=(gz kn).1;lia
    refine⟨_,rfl,_,_,rfl,rfl,_,rfl,by lia,by lia,?_⟩;rw[show((a:Int)+1).toNat=a+1 by lia];refine dg (lo:=0) (n:=a+1) (λh σ H2=>(∃v5 v6 v7 v8,σ=[some v,some (.int p),some (.int ((p:Int)+((g+1:Nat):Int))),some (.int a),some (.ref fo),v5,v6,v7,v8])/\af H H2/\∃vs,H2 fo=some (.lst vs)/\Iss H2 (((List.range h).flatMap λh:Nat=>(pbF g (wmF t p (h:Int)) (p+1) (a-h)).map λx=>(x.1,chF (t.getD p 0+(h:Int)) h*x.2)).map prD) vs) ⟨⟨none,none,none,none,rfl⟩,s1,[],JV,aM⟩ ?_ ?_
    .rintro h σ H2 hh ⟨⟨v5,v6,v7,v8,rfl⟩,s2,vs2,hf2,Ii⟩;rw[Int.zero_add];have hb:∀j,j<=(pbF g (wmF t p (h:Int)) (p+1) (a-h)).length->((List.range h).flatMap λh:Nat=>(pbF g (wmF t p (h:Int)) (p+1) (a-h)).map λx=>(x.1,chF (t.getD p 0+(h:Int)) h*x.2)).length+j<=1048576:=λj hj=>by
      have:=ku (λh:Nat=>(pbF g (wmF t p (h:Int)) (p+1) (a-h)).map λx=>(x.1,chF (t.getD p 0+(h:Int)) h*x.2)) hh;rw[A3] at this;unfold pbF at big;lia
     rw[gw];generalize ((List.range h).flatMap λh:Nat=>(pbF g (wmF t p (h:Int)) (p+1) (a-h)).map λx=>(x.1,chF (t.getD p 0+(h:Int)) h*x.2))=pr at Ii hb⊢;obtain⟨c1,c2⟩:=rR (n:=t.getD p 0+(h:Int)) (k:=h) (by lia) (by lia);refine⟨_,rfl,_,rfl,t.map .i,(p:Int),_,hv.mono s2,rfl,at_p s2 (hv.mono s2),λu hu=>?_⟩;rw[aS hu];refine⟨_,rfl,_,_,rfl,rfl,_,rfl,t.getD p 0+(h:Int),h,rfl,by lia,by lia,?_⟩;refine⟨_,rfl,_,rfl,_,rfl,v,t,p,(h:Int),rfl,hv.mono s2,by lia,kl,λu3 H3 s3 hu3=>?_⟩;refine⟨_,rfl,_,_,rfl,rfl,_,rfl,_,rfl,_,rfl,_,_,rfl,rfl,u3,wmF t p (h:Int),p+1,g,a-h,?_,hu3,by lia,by lia,by rw[ip];lia,⟨by rw[ip];exact kl,λi=>?_,?_⟩,λrl H4 s4 Jc Jn=>?_⟩
     .have e1:((p:Int)+1)=((p+1:Nat):Int):=by lia
      have e2:(p:Int)+((g+1:Nat):Int)=((p+1:Nat):Int)+(g:Int):=by lia
      have e3:(a:Int)-(h:Int)=((a-h:Nat):Int):=by lia
      show [u3,V.int ((p:Int)+1),V.int ((p:Int)+((g+1:Nat):Int)),V.int ((a:Int)-(h:Int))]=_;rw[e1,e2,e3]
     .rw[mJ (by lia)];have:=kn i;split<;>lia
     .rw[mL (by lia)];lia
     obtain⟨_,HX,e,Je,IC⟩:=aP Jn;cases e;generalize pbF g (wmF t p (h:Int)) (p+1) (a-h)=O at IC hb⊢;have Im:HX.length=O.length:=by rw[IC.length,A3]
     have s24:=s3.trans s4;have hf4:=s24 _ _ hf2;have Jd:rl≠fo:=by rintro rfl;rw[s3 _ _ hf2] at Jc;cases Jc
     refine⟨rl,rfl,⟨_,SqL.of Je⟩,dz (xs:=HX) (λj σ H5=>(∃v7 v8,σ=[some v,some (.int p),some (.int ((p:Int)+((g+1:Nat):Int))),some (.int a),some (.ref fo),some (.int h),some (.int (chF (t.getD p 0+(h:Int)) h)),v7,v8])/\af H H5/\H5 rl=some (.lst HX)/\aX H4 H5/\∃vs,H5 fo=some (.lst vs)/\Iss H5 ((pr++(O.take j).map λx=>(x.1,chF (t.getD p 0+(h:Int)) h*x.2)).map prD) vs) ⟨⟨_,_,rfl⟩,s2.trans s24,Je,aX.of_same (af.refl H4),vs2,hf4,by simpa using Ii.mono s24⟩ (λj σ H5 _ h=>SqL.of h.2.2.1) ?_ ?_⟩
     .rintro j y σ H5 hj ⟨⟨v7,v8,rfl⟩,s5,hrl5,t5,JB,KG,Jo⟩;obtain⟨x,HE,hy⟩:=cj IC hj;have hjl:j<O.length:=(AJ.mp HE).1;obtain⟨q,u6,rfl,hq,hu6⟩:=nh (kS t5 hy);have vl:=Jo.length;rw[A3,AX,A3,Ao] at vl;have hbj:=hb (j+1) (by lia);refine⟨q,_,rfl,SqT.of hq,rfl,_,_,rfl,_,_,rfl,rfl,?_⟩;refine⟨_,rfl,.inl ⟨rfl,_,SqL.of KG⟩,_,rfl,_,rfl,_,rfl,_,_,rfl,rfl,.inl ⟨by lia,by lia⟩,(zB rfl),λq6 H6 n6 s6 h6=>?_⟩;refine⟨fo,JB,_,rfl,rfl,s6 _ _ KG,tq (by lia),⟨_,_,rfl⟩,(s5.trans s6).put nf,by rw[au Jd];exact s6 _ _ hrl5,(t5.trans (aX.of_same s6)).trans (aX.upd (s6 _ _ KG)),_,am,?_⟩;have ez:(pr++(O.take (j+1)).map λx=>(x.1,chF (t.getD p 0+(h:Int)) h*x.2))=(pr++(O.take j).map λx=>(x.1,chF (t.getD p 0+(h:Int)) h*x.2))++[(x.1,chF (t.getD p 0+(h:Int)) h*x.2)]:=by
       rw[Af,HE,Option.toList_some,AO,Cm];rfl
      rw[ez,AO];refine(tz ((aX.of_same s6).trans (aX.upd (s6 _ _ KG))) Jo).append ?_;exact aT (kS (aX.upd (s6 _ _ KG)) (ng (x:=(x.1,chF (t.getD p 0+(h:Int)) h*x.2)) h6 (hu6.mono s6))) aM
     .rintro σ H5 ⟨⟨v7,v8,rfl⟩,s5,hrl5,t5,JB,KG,Jo⟩;rw[Im,Az] at Jo;exact⟨⟨_,_,_,_,rfl⟩,s5,JB,KG,Jo⟩
    .rintro σ H2 ⟨⟨v5,v6,v7,v8,rfl⟩,s2,vs2,hf2,Ii⟩;exact⟨_,rfl,kk fo H2 s2 nf (ba hf2 Ii)⟩
theorem Fv:OKQ T.X18 P w base 9 spHMO:=by
 refine FbO T.X18 eQ λ_ _ _ _ H vs Q E hr h=>?_;obtain⟨d,v,mk,rfl,d1,d5,hv,⟨mok,mlen⟩,Kr,kk⟩:=h;refine⟨_,(ah (pSA (i:=2) eQ.nd (yx (iM hr) (bH wP (by rfl) T.n_tuple boot_tuple (aa (aj lI (bX (aa ag ae)) (pv 0)) ae)) ag))
  (ah (bz Ac rfl (cq (yg (yb hr) hr.hd (by rfl) T.n_sorted (by rfl) T.n_set (aa (pv 1) ae))) (pGA (i:=3) eQ.nd) (ah (pSA (i:=4) eQ.nd wx)
  (ah (bz Ac rfl (yt (pv 2)) (pGA (i:=5) eQ.nd) (ai (bz Ac rfl (cq (pcq (tX T 6) hr T.X17 (aa (pv 5) (aa (aj bf (aE cw (pv 3) ag (λ_ _=>rfl)) ag) (aa (aj bf (aE cw (pv 3) ag (λ_ _=>rfl)) ag) (aa (cu BC PySem.F.slot_list_count PySem.F.type_list_count (xG hr) (pv 1) (aa (pv 3) ae)) ae)))))) (eD rfl (bG (pGA (i:=6) eQ.nd) (bG (pGA (i:=7) eQ.nd) dy))) (ai (wo (iM hr) (pv 4) (pv 6) (aj aV (wA (iM hr) (pv 4) (pv 6) ag ⟨rfl,rfl,rfl,rfl⟩) (aj br (wn (iM hr) (pv 2) (pv 5) (λ_ _=>rfl)) (pv 7))) rfl)))))
  (ai (pSA (i:=2) eQ.nd (pv 4))))))
  (ai (al (yz rfl (by rfl) T.n_sum (pv 2)))))),?_⟩
 obtain⟨wa,JA,rfl,hwa,hwi⟩:=aP hv;have wlen:JA.length=mk.length:=by rw[hwi.length,A3]
 refine λkd nkd=>?_;have s0:af H (upd H kd (.dT [])):=af.new nkd;have KH:upd H kd (.dT []) kd=some (.dT []):=am;generalize upd H kd (.dT [])=H0 at s0 KH⊢;refine⟨(zB rfl),λl1 H1 n1 s1 h1=>?_⟩;refine⟨_,rfl,.i 0,d,ba h1 (aT dj aM),rfl,by lia,by lia,Ar (bt (by lia)),λl2 H2 n2 s2 h2=>?_⟩;refine⟨.ref l2,_,rfl,h2,λt3 H3 n3 s3 h3=>?_⟩;have JD:=(s1.trans s2).trans s3;have hkd3:=JD _ _ KH;rw[B0] at h3;have ht3:H3 t3=some (.tup ((bA (List.replicate d 0)).map kV)):=by
  rw[<-List.map_replicate] at h3;obtain⟨a,e,ha⟩:=eM (xs:=List.replicate d 0) h3;cases e;rw[ky];exact ha
 refine⟨hkd3,bA (List.replicate d 0),t3,rfl,ht3,?_⟩;have e0:cg ([]:KW (KW Key×V)) (bA (List.replicate d 0)) (.int 1)=aY [(List.replicate d 0,1)]:=si [] _ _;rw[e0];have sH:af H (upd H3 kd (.dT (aY [(List.replicate d 0,1)]))):=(s0.trans JD).put nkd;have IG:upd H3 kd (.dT (aY [(List.replicate d 0,1)])) kd=some (.dT (aY [(List.replicate d 0,1)])):=am;generalize upd H3 kd (.dT (aY [(List.replicate d 0,1)]))=H4 at sH IG⊢;clear h1 h2 h3 ht3 hkd3 JD s1 s2 s3 n1 n2 n3 KH s0 e0 H0 H1 H2 H3;have tab0:TabOk d 0 [(List.replicate d 0,(1:Int))]:=by
  refine⟨by simp,λx hx=>?_⟩;rw[An.mp hx];refine⟨by simp,by simp,λi=>?_⟩;rw[A7,List.getElem?_replicate];split<;>simp
 refine⟨_,rfl,.ref wa,mk.map aO,3,rfl,by rw[<-kr];exact hv.mono sH,by decide,mW,Kr,λGF l0 H5 nd mem so nl0 s5 hq=>?_⟩;have ey:=Dd nd mem so;subst ey;rw[<-kr] at hq;clear nd mem so;have hhm:bw [(List.replicate d 0,(1:Int))] (TF (λm=>mk.count m) (cW mk))=hmF d mk:=by
  simp[bw,hmF]
 have hS:∀m∈cW mk,m∈mk:=λm hm=>mH.mp hm;have hSn:=E5 mk;generalize hcn:(λm=>mk.count m)=cnt at hhm;generalize hmF d mk=tot at hhm kk;generalize cW mk=S at hq hhm hS hSn;obtain⟨_,lvs,e,hl0,GN⟩:=aP hq;cases e;have llen:lvs.length=S.length:=by rw[GN.length,A3]
 refine⟨l0,rfl,⟨_,SqL.of hl0⟩,dz (xs:=lvs) (λi σ H6=>(∃kd D n,(∃v3 v4 v5 v6 v7,σ=[some (.int d),some (.ref wa),some (.ref kd),v3,v4,v5,v6,v7])/\H6 kd=some (.dT (aY D))/\TabOk d n D/\n=((S.take i).map cnt).sum/\bw D (TF cnt (S.drop i))=tot/\H kd=none)/\af H H6/\H6 l0=some (.lst lvs)/\aX H5 H6) ⟨⟨kd,_,0,⟨none,none,none,none,none,rfl⟩,s5 _ _ IG,tab0,rfl,hhm,nkd⟩,sH.trans s5,hl0,aX.of_same (af.refl H5)⟩ (λi σ H6 _ h=>SqL.of h.2.2.1) ?_ ?_⟩
 .rintro i y σ H6 hi ⟨⟨kd,D,n,⟨v3,v4,v5,v6,v7,rfl⟩,Jf,tab,hn,ID,nkd⟩,s6,hl6,t6⟩;obtain⟨x,HE,hy⟩:=cj GN hi;have hil:i<S.length:=(AJ.mp HE).1;have exi:S[i]=x:=(AJ.mp HE).2;obtain⟨ya,rfl,hya⟩:=eW hy;obtain⟨o1,o2,o3⟩:=mok x (hS x (Aa HE));have JL:((S.take (i+1)).map cnt).sum=n+cnt x:=by
   rw[Af,HE,AO,List.sum_append,<-hn];simp
  have hn15:n+cnt x<=15:=by
   have:=sk mk (S.take (i+1)) (hSn.sublist (List.take_sublist _ _));rw[hcn,JL] at this;lia
  rw[BX hil,exi,E6] at ID;obtain⟨p,hp⟩:∃p:Nat,x.1-1=(p:Int):=⟨(x.1-1).toNat,by lia⟩;obtain⟨g,hg⟩:∃g:Nat,x.2.1-x.1-1=(g:Int):=⟨(x.2.1-x.1-1).toNat,by lia⟩;rw[hp,hg,B0,B0] at ID;have rok:mM p d n (n+cnt x) (spR g (cnt x)):=λr hr=>by
   obtain⟨e1,e2⟩:=mK hr;exact⟨by lia,by lia⟩
  obtain⟨tab',sum'⟩:=mP rok (TF cnt (S.drop (i+1))) tab.key (acc:=[]) ⟨by simp,λx hx=>nomatch hx⟩;refine λf nf=>?_;have s7:af H6 (upd H6 f (.dT [])):=af.new nf;have hf7:upd H6 f (.dT []) f=some (.dT (aY [])):=am;have Jm:H f=none:=s6.free nf;have fkd:f≠kd:=by rintro rfl;rw[Jf] at nf;cases nf
  generalize upd H6 f (.dT [])=H7 at s7 hf7⊢;refine⟨_,rfl,kd,aY D,rfl,.inl (s7 _ _ Jf),λo H8 hk8 Jg=>?_⟩;have l8:LTS H7 H8:=LTS.rd (.inl (s7 _ _ Jf)) Jg;have s8:af H H8:=λb u e=>by rw[Jg b (by rintro rfl;rw[nkd] at e;cases e)];exact s7 _ _ (s6 _ _ e)
  refine yu (λj σ H9=>(∃v5 v6 v7,σ=[some (.int d),some (.ref wa),some (.ref kd),some (.ref ya),some (.ref f),v5,v6,v7])/\af H H9/\H9 kd=some (.frz o (.dT (aY D)))/\H9 l0=some (.lst lvs)/\aX H5 H9/\H9 f=some (.dT (aY (stP p (spR g (cnt x)) (D.take j) [])))) ⟨⟨_,_,_,rfl⟩,s8,hk8,l8.1 _ _ (s7 _ _ hl6),(t6.trans (aX.of_same s7)).trans l8.2,by rw[Jg f fkd];exact hf7⟩ (λj σ H9 _ h=>h.2.2.1) ?_ ?_
  .rintro j k c b σ H9 hj ⟨⟨v5,v6,v7,rfl⟩,s9,hk9,hl9,t9,JZ⟩ hb;unfold aY at hj;rw[AF] at hj;obtain⟨⟨t,cv⟩,hD,ekc⟩:=AY.mp hj;simp only[Prod.mk.injEq] at ekc;obtain⟨rfl,rfl⟩:=ekc;rw[ky] at hb;have hDm:(t,cv)∈D:=Aa hD;obtain⟨k1,k2,k3⟩:t.length=d/\t.sum=(n:Int)/\∀i:Nat,0<=t.getD i 0:=tab.key _ hDm;have hx9:Is H9 (lf x) (.ref ya):=dI (t9 _ _ hya);have hw9:=hwi.mono s9;rw[E7 hD];have J0:=(mP rok (λ_=>0) (xs:=D.take j) (λy hy=>tab.key y (List.mem_of_mem_take hy)) (acc:=[]) ⟨by simp,λx hx=>nomatch hx⟩).1;generalize stP p (spR g (cnt x)) (D.take j) []=ac at JZ J0⊢;refine⟨_,rfl,_,rfl,_,0,_,hx9,rfl,rfl,λu1 Hq=>?_⟩;rw[aS Hq];refine⟨_,_,rfl,rfl,_,rfl,_,1,_,hx9,rfl,rfl,λu2 HZ=>?_⟩;rw[aS HZ];refine⟨_,_,rfl,rfl,_,rfl,.inl ⟨rfl,_,SqL.of (s9 _ _ hwa)⟩,_,rfl,wa,JA,.ref ya,1,_,rfl,rfl,SqL.of (s9 _ _ hwa),E4 hw9 hx9,?_⟩;rw[wlen,Dp];refine⟨.ref b,t,p,g,cnt x,?_,ja hb,by lia,by decide,by lia,⟨by lia,k3,by lia⟩,λrl H10 s10 Jc Jn=>?_⟩
   .show [V.ref b,V.int (x.1-1),V.int (x.2.1-2),V.int (mk.count x:Nat)]=_;rw[hp,show x.2.1-2=(p:Int)+(g:Int) by lia,<-hcn]
   rw[rV (by lia),BA] at Jn;obtain⟨_,HX,e,J1,IC⟩:=aP Jn;cases e;have Jw:∀r∈spR g (cnt x),r.length=g+1/\r.sum=cnt x:=λr hr=>mK hr;generalize spR g (cnt x)=rs at IC rok Jw⊢;have Im:HX.length=rs.length:=by rw[IC.length,A3]
   have hk10:=s10 _ _ hk9;have hf10:=s10 _ _ JZ;have rlf:rl≠f:=by rintro rfl;rw[JZ] at Jc;cases Jc
   have l0f:l0≠f:=by rintro rfl;rw[hl9] at JZ;cases JZ
   refine⟨rl,rfl,⟨_,SqL.of J1⟩,dz (xs:=HX) (λm σ H11=>(∃v6 v7,σ=[some (.int d),some (.ref wa),some (.ref kd),some (.ref ya),some (.ref f),some (.ref b),v6,v7])/\af H H11/\H11 kd=some (.frz o (.dT (aY D)))/\H11 l0=some (.lst lvs)/\aX H10 H11/\H11 rl=some (.lst HX)/\H11 f=some (.dT (aY (inP t cv p (rs.take m) ac)))) ⟨⟨_,_,rfl⟩,s9.trans s10,hk10,s10 _ _ hl9,aX.of_same (af.refl H10),J1,hf10⟩ (λm σ H11 _ h=>SqL.of h.2.2.2.2.2.1) ?_ ?_⟩
   .rintro m z σ H11 hm ⟨⟨v6,v7,rfl⟩,s11,JF,KI,t11,J2,Ip⟩;obtain⟨r,IH,hz⟩:=cj IC hm;obtain⟨q,u6,rfl,hq,hu6⟩:=nh (kS t11 hz);obtain⟨ua,rfl,hua⟩:=eM hu6;obtain⟨r1,r2⟩:=Jw r (Aa IH);have hua':H11 ua=some (.tup ((bA (ck t p r)).map kV)):=by rw[ky];exact hua
    have hb11:H11 b=some (.tup ((bA t).map kV)):=by rw[ky];exact t11 _ _ (s10 _ _ hb)
    have tabm:=(mO (v:=cv) ⟨k1,k2,k3⟩ (λ_=>0) (rs:=rs.take m) (λr hr=>rok r (List.mem_of_mem_take hr)) J0).1;refine⟨q,_,rfl,SqT.of hq,rfl,_,_,rfl,_,_,rfl,rfl,?_⟩;refine⟨_,rfl,f,rfl,.inr ⟨_,.inl Ip⟩,_,rfl,_,eI.t Ip hua',?_⟩;rw[Dl];refine⟨_,rfl,_,rfl,kd,.int cv,rfl,.inr ⟨aY D,bA t,b,.inr ⟨o,JF⟩,rfl,hb11,(Dm tab.nd hDm).symm⟩,_,rfl,_,_,rfl,rfl,.inr (E3 k3 (by lia) (by lia)),_,_,rfl,rfl,_,rfl,_,rfl,f,_,rfl,gW.t Ip hua' ?_,?_⟩
    .rw[sf];exact tq (tabm.size d5 hn15)
    .rw[show inP t cv p (rs.take (m+1)) ac=gC (inP t cv p (rs.take m) ac) (ck t p r) (cv*bZ t p r) from tD _ _ rs m r IH];rw[si];exact⟨⟨_,_,rfl⟩,s11.put Jm,by rw[au fkd.symm];exact JF,by rw[au l0f];exact KI,t11.trans (E8 Ip),by rw[au rlf];exact J2,am⟩
   .rintro σ H11 ⟨⟨v6,v7,rfl⟩,s11,JF,KI,t11,J2,Ip⟩;rw[Im,Az] at Ip;exact⟨⟨_,_,_,rfl⟩,s11,JF,KI,(t9.trans (aX.of_same s10)).trans t11,Ip⟩
  .rintro σ H9 ⟨⟨v5,v6,v7,rfl⟩,s9,hk9,hl9,t9,JZ⟩;rw[sf,Az] at JZ;refine⟨_,rfl,⟨f,_,n+cnt x,⟨_,_,_,_,_,rfl⟩,JZ,tab',JL.symm,?_,Jm⟩,s9,hl9,t9⟩;rw[sum',ID];simp[bw]
 .rintro σ H6 ⟨⟨kd,D,n,⟨v3,v4,v5,v6,v7,rfl⟩,Jf,tab,hn,ID,nkd⟩,s6,hl6,t6⟩;refine⟨_,rfl,kd,aY D,D.map (·.2),rfl,.inl Jf,Do D,?_⟩;rw[llen,List.drop_length] at ID;have:(D.map (·.2)).sum=tot:=by rw[<-Dk,<-ID];rfl
  rw[this];exact kk H6 s6
theorem Fw:OKQ T.X19 P w base 10 spHM:=by
 refine FbO T.X19 rf λ_ _ _ _ H vs Q E hr h=>?_;obtain⟨d,dv,ps,rfl,d1,d5,hd,hs,Kr,kk⟩:=h;refine⟨_,(ah (bd (pcq (Fs T) hr T.X15 (aa (pv 0) (aa (pv 1) ae))))
  (ai (al (pcq (Fv T) hr T.X18 (aa (pv 0) (aa (aj lH (pv 1) (pcq (Fu T) hr T.X16 (aa (pv 0) (aa (pv 1) ae)))) ae)))))),?_⟩
 obtain⟨hM,Kr⟩:=EW Kr;have pl:=hM.2;rw[AX] at pl;refine⟨_,rfl,_,rfl,d,dv,ps,rfl,d1,d5,hd,hs,λH1 s1=>?_⟩;refine⟨_,rfl,_,rfl,_,rfl,_,rfl,d,dv,ps,rfl,d1,d5,hd.mono s1,hs,by lia,λl2 H2 s2 n2 h2=>?_⟩;refine⟨_,_,(hd.mono s1).mono s2,h2,Ar (bt (by rw[A3,A3];lia)),λl3 H3 n3 s3 h3=>?_⟩;rw[<-AO] at h3;refine⟨d,.ref l3,_,rfl,d1,d5,h3,hM,Kr,λH4 s4=>kk H4 (((s1.trans s2).trans s3).trans s4)⟩
theorem Fx:FnOk P w K mg base (CX1 P w) 11 T.f19 T.d19 ["d","drawing"] (spNeX2 T.c_NoDrawing):=by
 refine T.X19.F.okx rf (λvs H Q E h=>?_) (λGu A outer s H vs Q E hr h hR hp=>?_)
 .obtain⟨_,_,_,rfl,_⟩:=h;rfl
 .obtain⟨n,dv,ps,rfl,n1,n5,hd,hs,hm,ke⟩:=h;refine⟨_,(ah (bd (aA (Ft T) (hr.mono (by decide)) (by rfl) T.X15.m T.X15.F.kp T.X15.B .nil hp (aa (pv 0) (aa (pv 1) ae)))) (ai bJ)),?_⟩;exact⟨_,rfl,_,rfl,n,dv,ps,rfl,n1,n5,hd,hs,hm,ke⟩
theorem Fy:OKQ T.X13 P w base 1 spWorth:=by
 refine FbO T.X13 jB λ_ _ _ _ H vs Q E hr h=>?_;obtain⟨dv,ps,d,rfl,hd,hok,kk⟩:=h;refine⟨_,(ah (pSA (i:=1) jB.nd ag)
  (ah (bz Ac rfl (cq (pv 0)) (pGA (i:=2) jB.nd) (ai (nM (i:=1) jB.nd rfl (by trivial) (aj gR (aE cw (pv 2) ag (λ_ _=>rfl)) ag) xk)))
  (ai (al (pv 1))))),?_⟩
 obtain⟨da,GG,rfl,Ij,HR⟩:=aP hd;have Jb:GG.length=ps.length:=by rw[HR.length,A3]
 refine⟨_,rfl,da,rfl,⟨_,SqL.of Ij⟩,dz (xs:=GG) (λi σ H2=>(∃v2,σ=[some (.ref da),some (.int (eZ (ps.take i))),v2])/\H2=H) ⟨⟨none,rfl⟩,rfl⟩ (λi σ H2 _ h=>by rw[h.2];exact SqL.of Ij) ?_ ?_⟩
 .rintro i x σ H2 hi ⟨⟨v2,rfl⟩,rfl⟩;obtain⟨p,G2,hy⟩:=cj HR hi;obtain⟨_,w1,w2⟩:=hok p (Aa G2);have b1:p.2.2.natAbs<2^64:=by lia
  have b2:p.2.2^(2:Int).toNat<2^64:=by
   show p.2.2^2<2^64;have:p.2.2*p.2.2<=2^20*2^20:=Int.mul_le_mul w2 w2 (by lia) (by decide);rw[Int.pow_succ,Int.pow_succ,Int.pow_zero,Int.one_mul];lia
  have b3: -(2^64)<p.2.2^(2:Int).toNat:=by
   show _<p.2.2^2;have h0:0<=p.2.2*p.2.2:=Int.mul_nonneg (by lia) (by lia);have h1:p.2.2^2=p.2.2*p.2.2:=by rw[Int.pow_succ,Int.pow_succ,Int.pow_zero,Int.one_mul]
   rw[h1];lia
  refine⟨_,rfl,_,rfl,_,2,_,hy,rfl,rfl,λu hu=>?_⟩;rw[aS hu];refine⟨_,_,rfl,rfl,⟨by decide,by decide,b1⟩,_,_,rfl,rfl,.inr ⟨b3,b2⟩,⟨some x,?_⟩,rfl⟩;rw[Af,G2];unfold eZ;rw[List.foldl_append];rfl
 .rintro σ H2 ⟨⟨v2,rfl⟩,rfl⟩;rw[Jb,Az];exact⟨_,rfl,kk⟩
theorem Fz:FnOk P w K mg base (CX1 P w) 12 T.f20 T.d20 ["d","k"] (spCnt T.c_NoBound):=by
 refine T.X20.F.okx zi (λvs H Q E h=>?_) (λGu A outer s H vs Q E hr h hR hp=>?_)
 .obtain⟨_,_,rfl,_⟩:=h;rfl
 .obtain⟨v,u,rfl,ht,hu,h⟩:=h;refine⟨_,(ah (bd (aA (iy T) (hr.mono (by decide)) (by rfl) T.X3.m T.X3.F.kp T.X3.B .nil hp (aa (pv 0) (aa (pv 1) ae))))
   (ai (al (aZ (iV rfl) (by rfl) T.n_sum boot_sum (aa (fC (XN:=["d","k"]) (sc:=ak hU) (N:=["drawing","d"]) (own:=1) (js:=[0]) rfl (by ac_nf) rfl rfl (cq (aA (tS T) (hr.mono (by decide)) (by rfl) T.X12.m T.X12.F.kp T.X12.B .nil hp (aa (pv 0) (aa (pv 1) ae)))) (λ_ _ _ _=>(cK (i:=0) (show List.Nodup (["drawing","d"]:KW Str) by ac_nf) rfl (Or.inl rfl) (.inr rfl))) (fB (by decide)) (λ_ _ _ _=>dS) (λ_ _ _ _=>(aj br (pcq (Fy T) hr T.X13 (aa (pv 0) ae)) (pcq (Fw T) hr T.X19 (aa (pv 1) (aa (pv 0) ae)))))) ae))))),?_⟩
  rcases h with⟨rfl,rfl,kk⟩|⟨hn,ke⟩;case inr=>exact⟨_,rfl,_,rfl,v,u,rfl,ht,hu,λh=>absurd h hn,λ_=>ke⟩
  have hW:Wide 2 1:=by unfold Wide;lia
  have hWd:Wd (.int 2) (.int 1):=⟨2,1,rfl,rfl,hW⟩;refine⟨_,rfl,_,rfl,_,_,rfl,ht,hu,λ_=>?_,λhn=>absurd hWd hn⟩;refine⟨_,rfl,_,rfl,_,_,rfl,ht,hu,λd' k' e1 e2 _=>?_,λhn=>absurd hWd hn⟩;obtain rfl:2=d':=by have:=V.int.inj e1;lia
  obtain rfl:1=k':=by have:=V.int.inj e2;lia
  refine⟨⟨rfl,rfl⟩,λL l H1 pL s1 nl hl=>?_⟩;obtain rfl:L=[[]]:=by
   rw[show dt 2 1=[[]] by ac_nf] at pL;exact List.perm_singleton.mp pL
  have hl:=hl.mono dq;obtain⟨_,lvs,e,Ia,GN⟩:=aP hl;cases e;obtain⟨x0,us,rfl,hx0,GN⟩:=aU GN;obtain rfl:=bP GN;refine⟨l,rfl,⟨_,SqL.of Ia⟩,λacc na=>?_⟩;refine fD (xs:=[x0]) (own:=1) (js:=[0]) (λi H3=>af H1 H3/\H3 acc=some (.lst (([(3:Int)].take i).map V.int))) ⟨af.new na,am⟩ (λi H3 _ h=>SqL.of (h.1 _ _ Ia)) ?_ ?_ fE dW ?_
  .rintro i y H3 hi ⟨s3,Gr⟩;obtain rfl:i=0:=by have:=(AJ.mp hi).1;simpa using this
   obtain rfl:x0=y:=by simpa using hi
   obtain⟨o1,o2,_⟩:=Dr (show mR 2 []=true by ac_nf);have hy3:=hx0.mono s3;refine fF ?_;refine⟨_,rfl,x0,[],2,rfl,hy3,o2,_,rfl,_,rfl,2,x0,[],rfl,by decide,by decide,hy3,o1,by ac_nf,λH4 s4=>?_⟩;rw[show hmF 2 ([]++eu 2 (bi 2 []))=3 by ac_nf,show eZ []=1 by ac_nf];exact⟨_,_,rfl,rfl,.inl ⟨by decide,by decide⟩,acc,_,_,rfl,rfl,s4 _ _ Gr,bt (by decide),(s3.trans s4).put na,am⟩
  .rintro H3 ⟨s3,Gr⟩;exact⟨acc,[3],rfl,SqL.of Gr,kk H3 (s1.trans s3)⟩
  .rintro σ H R R' k' ⟨v1,e1,dv,ps,d',e2,i1,o1,v2,e3,v3,e4,n,dv2,ps2,e5,a1,a2,i2,sn,sm,kk2⟩;exact⟨v1,e1,dv,ps,d',e2,i1,o1,v2,e3,v3,e4,n,dv2,ps2,e5,a1,a2,i2,sn,sm,λH' s'=>let ⟨i,j,x1,x2,x3,x4⟩:=kk2 H' s';⟨i,j,x1,x2,x3,k' _ _ x4⟩⟩
theorem FA:FnOk P w K mg base (CX1 P w) 12 T.f21 T.d21 ["d","k"] (spOut T.c_NoBound):=by
 refine T.X21.F.okx zj (λvs H Q E h=>?_) (λGu A outer s H vs Q E hr h hR hp=>?_)
 .obtain⟨_,_,rfl,_⟩:=h;rfl
 .obtain⟨v,u,rfl,ht,hu,hn,ke⟩:=h;refine⟨_,(ah (bd (aA (iy T) (hr.mono (by decide)) (by rfl) T.X3.m T.X3.F.kp T.X3.B .nil hp (aa (pv 0) (aa (pv 1) ae)))) (ah bJ (ai bJ))),?_⟩;exact⟨_,rfl,_,rfl,v,u,rfl,ht,hu,λh=>absurd h hn,λ_=>ke⟩
theorem FB:FnOk P w K mg base (CX1 P w) 12 T.f30 T.d30 ["d","k"] (spOut T.c_NoBound):=by
 refine T.X30.F.okx zt (λvs H Q E h=>?_) (λGu A outer s H vs Q E hr h hR hp=>?_)
 .obtain⟨_,_,rfl,_⟩:=h;rfl
 .obtain⟨v,u,rfl,ht,hu,hn,ke⟩:=h;refine⟨_,(ah (bd (aA (iy T) (hr.mono (by decide)) (by rfl) T.X3.m T.X3.F.kp T.X3.B .nil hp (aa (pv 0) (aa (pv 1) ae)))) (ah bJ (ah bJ (ai bJ)))),?_⟩;exact⟨_,rfl,_,rfl,v,u,rfl,ht,hu,λh=>absurd h hn,λ_=>ke⟩
theorem FC:FnOk P w K mg base (CX1 P w) 12 T.f29 T.d29 ["d","k"] (spOutN T.c_NoBound):=by
 refine T.X29.F.okx zr (λvs H Q E h=>?_) (λGu A outer s H vs Q E hr h hR hp=>?_)
 .obtain⟨_,_,rfl,_⟩:=h;rfl
 .obtain⟨v,u,rfl,ht,hu,hn,ke⟩:=h;refine⟨_,(ah (bd (aA (Fl T) (hr.mono (by decide)) (by rfl) T.X2.m T.X2.F.kp T.X2.B .nil hp (aa (pv 0) (aa (pv 1) ae)))) (ah bJ (ah bJ (ah bJ (ah bJ (ai bJ)))))),?_⟩;exact⟨_,rfl,_,rfl,v,u,rfl,ht,hu,λh=>absurd h hn,λ_=>ke⟩
theorem FD:FnOk P w K mg base (CX1 P w) 12 T.f22 T.d22 ["k"] (spPol T.c_NoBound):=by
 refine T.X22.F.okx zm (λvs H Q E h=>?_) (λGu A outer s H vs Q E hr h hR hp=>?_)
 .obtain⟨_,rfl,_⟩:=h;rfl
 .obtain⟨v,rfl,ht,hn,ke⟩:=h;refine⟨_,(ah (bd (aA (fT T) (hr.mono (by decide)) (by rfl) T.X1.m T.X1.F.kp T.X1.B .nil hp (aa (pv 0) (aa ag (aa ag ae))))) (ah bJ (ai bJ))),?_⟩;exact⟨_,rfl,v,0,3,rfl,ht,λh=>absurd h hn,λ_=>⟨by decide,ke⟩⟩
def ny{d:KR}{ps:KW Str}:FnOk P w K mg base CX0 1 f d ps kW:=⟨λ_ _ _ _ h=>False.elim h,λ_ _ _ _ _ _ _ _ _ _ _ _ _ h=>False.elim h⟩
abbrev FE:OKQ T.X26 P w base 1 kW:=ny
abbrev FF:OKQ T.X34 P w base 1 kW:=ny
abbrev FG:OKQ T.X35 P w base 1 kW:=ny
theorem FH{s:KW Int}{x:Int}:atI ((s++[x]).map V.int) (-1)=some (.int x):=by
 unfold atI ixN;rw[A3,AX,A6 (by decide),A9 (by simp;lia)];show((s++[x]).map V.int)[((-1:Int)+((s.length+1:Nat):Int)).toNat]? =_;rw[show((-1:Int)+((s.length+1:Nat):Int)).toNat=s.length by lia,AF,CJ (A8 _),Nat.sub_self];rfl
theorem tY:OKQ T.X23 P w base 2 spIsX:=by
 refine FbO T.X23 rg λGu A outer s H vs Q E hr h=>?_;obtain⟨r,rfl,h⟩:=h;refine⟨_,(ah (ay (cZ (cc (aZ lA (by rfl) T.n_isinstance Bq (aa (pv 0) (aa (iA (v:= .ty "list") (by rfl) T.n_list boot_list (by rfl)) ae))))) (ai (al gK)) ax)
  (ah (bz Ac rfl (cq (pv 0)) (pGA (i:=1) rg.nd) (ai (ay (df (cZ (cc (pcq (tP T) hr T.X0 (aa (pv 1) ae)))) (eB (az fg (pv 1) ag (aw _)))).pt (ai (al gK)) ax)))
  (ai (al (uI (yC (pv 0)) (gL (dQ fk (aE bp (pv 0) (nR nU ag) (λ_ _=>rfl)) ag (aw _)))))))),?_⟩
 have key:(∃a t b,r=.ref a/\H a=some (.lst (t.map V.int))/\Nn t/\Q (.bl b) H/\(t=[]/\b=true\/∃s x,t=s++[x]/\b=decide (0<x)))\/(tE H r/\Q (.bl false) H)\/(tF H r/\Q (.bl false) H):=by
  rcases h with⟨t,hv,⟨tn,tt⟩,kk⟩|⟨hn|hn|⟨a,t,rfl,ha,tn⟩,kk⟩
  .obtain⟨a,rfl,ha⟩:=ni hv;refine .inl ⟨a,t,true,rfl,ha,tn,kk,?_⟩;rcases tt with e|⟨s,x,e,x0⟩
   .exact .inl ⟨e,rfl⟩
   .exact .inr ⟨s,x,e,(B3 x0).symm⟩
  .exact .inr (.inl ⟨hn,kk⟩)
  .exact .inr (.inr ⟨hn,kk⟩)
  .exact .inl ⟨a,t++[0],false,rfl,ha,Dx tn (by decide),kk,.inr ⟨t,0,rfl,rfl⟩⟩
 clear h;rcases key with⟨a,t,b,rfl,ha,tn,kk,tt⟩|⟨hn,kk⟩|⟨⟨a,xs,i,x,rfl,ha,hx,pre,tx,neg⟩,kk⟩
 .refine⟨_,rfl,_,"list",_,true,rfl,.lst ha,sU,true,rfl,aH ?_⟩;refine⟨_,rfl,a,rfl,⟨_,SqL.of ha⟩,dz (xs:=t.map V.int) (λi σ H2=>(∃v1,σ=[some (.ref a),v1])/\H2=H) ⟨⟨none,rfl⟩,rfl⟩ (λi σ H2 _ h=>by rw[h.2];exact SqL.of ha) ?_ ?_⟩
  .rintro i y σ H2 hi ⟨⟨v1,rfl⟩,rfl⟩;rw[AF] at hi;obtain⟨x,hx,rfl⟩:=AY.mp hi;have x0:0<=x:=by
    have:=tn i;rw[A7,hx] at this;exact this
   refine⟨_,rfl,_,rfl,.inl ⟨_,rfl⟩,true,rfl,aH ⟨_,rfl,_,_,rfl,rfl,_,rfl,aF (λh=>absurd h (by lia)) (λ_=>⟨⟨_,rfl⟩,rfl⟩)⟩⟩
  .rintro σ H2 ⟨⟨v1,rfl⟩,rfl⟩;refine⟨_,rfl,a,_,rfl,SqL.of ha,_,rfl,?_⟩;rcases tt with⟨rfl,rfl⟩|⟨s,x,rfl,rfl⟩
   .exact aN kk
   .have e0:((s++[x]).map V.int).isEmpty=false:=by
     cases s<;>rfl
    rw[e0];exact aH ⟨_,rfl,1,rfl,a,_,-1,.int x,rfl,rfl,SqL.of ha,FH,_,_,rfl,rfl,kk⟩
 .rcases hn with⟨ht,Hi⟩|⟨a,rfl,ha⟩
  .rcases ht with⟨i,rfl⟩|⟨b,rfl⟩|rfl|⟨x,rfl⟩|⟨a,xs,rfl,ha⟩|⟨a,xs,rfl,ha⟩
   .exact⟨_,rfl,_,"list",_,false,rfl,.int i,rfl,false,rfl,aN kk⟩
   .exact⟨_,rfl,_,"list",_,false,rfl,.bl b,rfl,false,rfl,aN kk⟩
   .exact⟨_,rfl,_,"list",_,false,rfl,.non,rfl,false,rfl,aN kk⟩
   .exact⟨_,rfl,_,"list",_,false,rfl,.str x,rfl,false,rfl,aN kk⟩
   .exact absurd ha (Hi a xs rfl)
   .exact⟨_,rfl,_,"list",_,false,rfl,.tup ha,rfl,false,rfl,aN kk⟩
  .exact⟨_,rfl,_,"list",_,false,rfl,.dK ha,rfl,false,rfl,aN kk⟩
 .refine⟨_,rfl,_,"list",_,true,rfl,.lst ha,sU,true,rfl,aH ?_⟩;refine⟨_,rfl,a,rfl,⟨_,SqL.of ha⟩,dz (xs:=xs) (λj σ H2=>(∃v1,σ=[some (.ref a),v1])/\H2=H/\j<=i) ⟨⟨none,rfl⟩,rfl,AR _⟩ (λi σ H2 _ h=>by rw[h.2.1];exact SqL.of ha) ?_ ?_⟩
  .rintro j y σ H2 hj ⟨⟨v1,rfl⟩,rfl,ji⟩;by_cases e:j=i
   .subst e;rw[hx] at hj;cases hj;refine⟨_,rfl,x,rfl,tx,isI x,rfl,?_⟩;cases hv:isI x with
    |false=>exact aN (aN kk)
    |true=>
     obtain⟨n,rfl⟩:∃n,x=.int n:=by
      cases x<;>first|exact⟨_,rfl⟩|cases hv
     have:=neg n rfl;exact aH ⟨_,rfl,_,_,rfl,rfl,_,rfl,aF (λ_=>kk) (λh=>absurd this (by lia))⟩
   .obtain⟨n,hn,n0⟩:=pre j (by lia);rw[hn] at hj;cases hj;exact⟨_,rfl,_,rfl,.inl ⟨_,rfl⟩,true,rfl,aH ⟨_,rfl,_,_,rfl,rfl,_,rfl,aF (λh=>absurd h (by lia)) (λ_=>⟨⟨_,rfl⟩,rfl,by lia⟩)⟩⟩
  .rintro σ H2 ⟨_,_,ji⟩;exact absurd (AJ.mp hx).1 (by lia)
theorem FI{t:KW Int}{x:Int}(h:t[i]? =some x):((List.range (i+1)).map λj:Nat=>((j:Int)+1)*t.getD j 0)=((List.range i).map λj:Nat=>((j:Int)+1)*t.getD j 0)++[((i:Int)+1)*x]:=by
 rw[List.range_succ,AO,AM,List.map_nil,A7,h];rfl
theorem FJ(t:KW Int):((List.range t.length).map λj:Nat=>((j:Int)+1)*t.getD j 0).sum=wtF t:=by
 have go:∀(t:KW Int) (i:Int),((List.range t.length).map λj:Nat=>((j:Int)+i)*t.getD j 0).sum=wtG i t:=λt=>by
  induction t with
  |nil=>intro i;rfl
  |cons x t ih=>
   intro i;rw[AN,List.range_succ_eq_map,AM,BA,B5];unfold wtG;rw[<-ih (i+1)];congr 1
   .simp
   .refine Ah List.sum (Bf λj _=>?_);show(((j+1:Nat):Int)+i)*t.getD j 0=_;rw[show((j+1:Nat):Int)+i=(j:Int)+(i+1) by lia]
 exact go t 1
theorem tZ:OKQ T.X24 P w base 1 spRwL:=by
 refine FbO T.X24 zn λ_ _ _ _ H vs Q E hr h=>?_;obtain⟨v,t,rfl,hv,tl,kk⟩:=h;refine⟨_,(ai (al (aZ (iV rfl) (by rfl) T.n_sum boot_sum (aa (fC (XN:=["row"]) (sc:=ak ia) (N:=["place","number"]) (own:=2) (js:=[]) rfl (by ac_nf) rfl rfl (lE (by rfl) T.n_enumerate (pv 0)) (λ_ _ _ _=>(lN (K:=K) rfl rfl (bG (cK (i:=0) (show List.Nodup (["place","number"]:KW Str) by ac_nf) rfl (Or.inl rfl) (.inr rfl)) (bG (cK (i:=1) (show List.Nodup (["place","number"]:KW Str) by ac_nf) rfl (Or.inl rfl) (.inr rfl)) dy)))) lL (λ_ _ _ _=>dS) (λ_ _ _ _=>(aj br (aj aV (pv 0) ag) (pv 1)))) ae)))),?_⟩;obtain⟨a,rfl,ha⟩:=ni hv;refine⟨_,rfl,a,rfl,⟨_,SqL.of ha⟩,λacc na=>?_⟩;refine yA (xs:=t.map V.int) (own:=2) (js:=[]) (λi H2=>af H H2/\H2 acc=some (.lst (((List.range i).map λj:Nat=>((j:Int)+1)*t.getD j 0).map V.int))) ⟨af.new na,am⟩ (λi H2 _ h=>SqL.of (h.1 _ _ ha)) ?_ ?_ lM dW ?_
 .rintro i y H2 p hi ⟨s2,Gr⟩ np;rw[AF] at hi;obtain⟨x,hx,rfl⟩:=AY.mp hi;have il:i<t.length:=(AJ.mp hx).1;have s3:af H2 (upd H2 p (.tup [.int i,.int x])):=af.new np;refine⟨p,_,rfl,SqT.of am,rfl,_,_,rfl,_,_,rfl,rfl,?_⟩;refine⟨_,rfl,_,_,rfl,rfl,_,rfl,_,_,rfl,rfl,.inl ⟨by lia,by lia⟩,acc,_,_,rfl,rfl,s3 _ _ Gr,bt (by rw[A3,A3,List.length_range];lia),(s2.trans s3).put na,?_⟩;rw[am,FI hx,AO];rfl
 .rintro H2 ⟨s2,Gr⟩;rw[A3] at Gr;refine⟨acc,_,rfl,SqL.of Gr,?_⟩;rw[FJ];exact kk H2 s2
 .rintro σ H R R' k ⟨v1,e1,i1,i2,e2,e3,v2,e4,i3,i4,e5,e6,c,h⟩;exact⟨v1,e1,i1,i2,e2,e3,v2,e4,i3,i4,e5,e6,c,k _ _ h⟩
theorem FK:FnOk P w K mg base (CX1 P w) 3 T.f25 T.d25 ["d","held","free"] (spNeX T.c_NoEnds):=by
 refine T.X25.F.okx zo (λvs H Q E h=>?_) (λGu A outer s H vs Q E hr h hR hp=>?_)
 .obtain⟨_,_,_,rfl,_⟩:=h;rfl
 .obtain⟨d,r1,r2,rfl,h⟩:=h;refine⟨_,(ah (ay (df (cZ (cc (pcq (tY T) hr T.X23 (aa (pv 1) ae)))) (eB (cZ (cc (pcq (tY T) hr T.X23 (aa (pv 2) ae)))))).pt (ai (c9 hR (by rfl) T.m_NoEnds T.x_NoEnds rfl (aa aq ae))) ax)
   (ai (ay (az ff (aj aV (pcq (tZ T) hr T.X24 (aa (pv 1) ae)) (pcq (tZ T) hr T.X24 (aa (pv 2) ae))) (pv 0) (aw _)) (ai (c9 hR (by rfl) T.m_NoEnds T.x_NoEnds rfl (aa aq ae))) ax))),?_⟩
  rcases h with⟨a,b,h1,h2,ra,rb,e,kk⟩|⟨bad,ke⟩
  .refine⟨_,rfl,r1,rfl,.inl ⟨a,h1,ra.inn,true,rfl,aH ⟨_,rfl,r2,rfl,.inl ⟨b,h2,rb.inn,true,rfl,aH ?_⟩⟩⟩⟩;refine⟨_,rfl,r1,a,rfl,h1,ra.2.1,λH1 s1=>⟨_,rfl,r2,b,rfl,h2.mono s1,rb.2.1,λH2 s2=>?_⟩⟩;exact⟨_,_,rfl,rfl,_,rfl,rfl,_,rfl,gX (λhz=>absurd e hz) λ_=>kk H2 (s1.trans s2)⟩
  .rcases bad with hn|⟨a,h1,ra,hn⟩|⟨a,b,h1,h2,ra,rb,la,lb,ne⟩
   .exact⟨_,rfl,r1,rfl,.inr ⟨hn,false,rfl,aN (aN ⟨(zB rfl),ke H (af.refl _)⟩)⟩⟩
   .exact⟨_,rfl,r1,rfl,.inl ⟨a,h1,ra,true,rfl,aH ⟨_,rfl,r2,rfl,.inr ⟨hn,false,rfl,aN ⟨(zB rfl),ke H (af.refl _)⟩⟩⟩⟩⟩
   .refine⟨_,rfl,r1,rfl,.inl ⟨a,h1,ra,true,rfl,aH ⟨_,rfl,r2,rfl,.inl ⟨b,h2,rb,true,rfl,aH ?_⟩⟩⟩⟩;refine⟨_,rfl,r1,a,rfl,h1,la,λH1 s1=>⟨_,rfl,r2,b,rfl,h2.mono s1,lb,λH2 s2=>?_⟩⟩;exact⟨_,_,rfl,rfl,_,rfl,rfl,_,rfl,gX (λ_=>⟨(zB rfl),ke H2 (s1.trans s2)⟩) λe=>absurd e ne⟩
theorem FL:FnOk P w K mg base (CX1 P w) 12 T.f27 T.d27 ["d","k","held","free"] (spAsR T.c_NoBound T.c_NoEnds):=by
 refine T.X27.F.okx zp (λvs H Q E h=>?_) (λGu A outer s H vs Q E hr h hR hp=>?_)
 .obtain⟨_,_,_,_,rfl,_⟩:=h;rfl
 .obtain⟨d,k,r1,r2,rfl,h⟩:=h;refine⟨_,(ah (bd (aA (iy T) (hr.mono (by decide)) (by rfl) T.X3.m T.X3.F.kp T.X3.B .nil hp (aa (pv 0) (aa (pv 1) ae))))
   (ah (bd (aA (FK T) (hr.mono (by decide)) (by rfl) T.X25.m T.X25.F.kp T.X25.B .nil hp (aa (pv 0) (aa (pv 2) (aa (pv 3) ae)))))
   (ai bJ))),?_⟩
  refine⟨_,rfl,_,rfl,_,_,rfl,aK.int,aK.int,λhW=>?_,λhn=>?_⟩
  .rcases h with⟨hn,_⟩|⟨_,bad,ke⟩
   .exact absurd hW hn
   .exact⟨_,rfl,_,rfl,_,rfl,d,r1,r2,rfl,.inr ⟨bad,ke⟩⟩
  .rcases h with⟨_,ke⟩|⟨hW,_⟩
   .exact ke
   .exact absurd hW hn
theorem FM:FnOk P w K mg base (CX1 P w) 13 T.f28 T.d28 ["d","k","held","free"] (spAsR T.c_NoBound T.c_NoEnds):=by
 refine T.X28.F.okx zq (λvs H Q E h=>?_) (λGu A outer s H vs Q E hr h hR hp=>?_)
 .obtain⟨_,_,_,_,rfl,_⟩:=h;rfl
 .obtain⟨d,k,r1,r2,rfl,h⟩:=h;refine⟨_,(ai (al (pcq (FE T) hr T.X26 (aa (aA (FL T) (hr.mono (by decide)) (by rfl) T.X27.m T.X27.F.kp T.X27.B .nil hp (aa (pv 0) (aa (pv 1) (aa (pv 2) (aa (pv 3) ae))))) (aa ww ae))))),?_⟩;exact⟨_,rfl,_,rfl,_,rfl,_,rfl,d,k,r1,r2,rfl,h⟩
theorem FN:OKQ T.X31 P w base 2 (spSpl K):=by
 refine FbO T.X31 gr λ_ _ _ _ H vs Q E hr h=>?_;obtain⟨a,d,ws,rfl,hS,d2,d8,hl,hw,kk⟩:=h;refine⟨_,(ah (pSA (i:=2) gr.nd ag)
  (ah (bz Ac rfl (gP (by rfl) T.n_range (aa ag (aa (pv 0) ae))) (pGA (i:=3) gr.nd) (ah (pSA (i:=4) gr.nd (aj bf (pv 0) (pv 3)))
  (ah (pSA (i:=5) gr.nd (aj bf (aj br (pv 4) (pcq (tU T) hr T.X14 (aa (aj bf (aj br ag (pv 0)) ag) (aa (aj bf (aj br ag (pv 3)) ag) ae)))) (aj br (pv 3) (pcq (tU T) hr T.X14 (aa (aj bf (aj br ag (pv 0)) ag) (aa (aj bf (aj br ag (pv 3)) ag) ae))))))
  (ai (nM (i:=2) gr.nd rfl (by trivial) (aj br (aj br (aj br (aj br (aj br (aE bp (pv 1) (pv 3) (λ_ _=>rfl)) (aE bp (pv 1) (pv 4) (λ_ _=>rfl))) (pv 3)) (pv 3)) (pv 4)) (pv 5)) nP)))))
  (ai (al (pv 2))))),?_⟩
 refine⟨_,rfl,1,_,rfl,⟨by decide,by decide,by lia,by lia⟩,?_⟩;have en:((d:Int)-1).toNat=d-1:=by lia
 rw[en];refine dg (lo:=1) (n:=d-1) (λi σ H2=>(∃v3 v4 v5,σ=[some (.int d),some (.ref a),some (.int (kC d i)),v3,v4,v5])/\H2=H) ⟨⟨none,none,none,rfl⟩,rfl⟩ ?_ ?_
 .rintro i σ H2 hi ⟨⟨v3,v4,v5,rfl⟩,rfl⟩;refine⟨_,rfl,_,rfl,_,_,rfl,rfl,?_⟩;refine⟨_,rfl,_,rfl,_,_,rfl,rfl,.inl ⟨by decide,by decide⟩,_,_,rfl,rfl,_,rfl,_,_,rfl,rfl,.inl ⟨by decide,by decide⟩,_,_,rfl,rfl,_,_,rfl,by lia,by lia,_,_,rfl,rfl,.inl ⟨by lia,by lia⟩,?_⟩;refine⟨_,rfl,_,rfl,_,_,rfl,rfl,.inl ⟨by decide,by decide⟩,_,_,rfl,rfl,_,rfl,_,_,rfl,rfl,.inl ⟨by decide,by decide⟩,_,_,rfl,rfl,_,_,rfl,by lia,by lia,_,_,rfl,rfl,.inl ⟨by lia,by lia⟩,_,_,rfl,rfl,?_⟩;have oc:=Dv (n:=d) (m:=i) d8 (by lia);unfold gE at oc;refine⟨_,rfl,_,rfl,_,rfl,a,_,_,_,rfl,rfl,hS,m8 hw (by lia) (by lia),_,rfl,_,rfl,a,_,_,_,rfl,rfl,hS,m8 hw (by lia) (by lia),_,_,rfl,rfl,.inl (Dw _),_,rfl,_,_,rfl,rfl,.inr ⟨by lia,by lia⟩,_,rfl,_,_,rfl,rfl,.inr ⟨by lia,by lia⟩,_,rfl,_,_,rfl,rfl,.inr ⟨by lia,by lia⟩,_,rfl,_,_,rfl,rfl,.inr oc,_,_,rfl,rfl,⟨_,_,_,rfl⟩,rfl⟩
 .rintro σ H2 ⟨⟨v3,v4,v5,rfl⟩,rfl⟩;rw[<-Dt d2 d8] at kk;exact⟨_,rfl,kk⟩
theorem FO:FnOk P w K mg base (CX1 P w) 4 T.f32 T.d32 ["d"] (spWh T.c_NoBound):=by
 refine T.X32.F.okx ml (λvs H Q E h=>?_) (λGu A outer s H vs Q E hr h hR hp=>?_)
 .obtain⟨_,rfl,_⟩:=h;rfl
 .obtain⟨v,rfl,ht,kk,ke⟩:=h;refine⟨_,(ah (bd (aA (fT T) (hr.mono (by decide)) (by rfl) T.X1.m T.X1.F.kp T.X1.B .nil hp (aa (pv 0) (aa ag (aa ag ae)))))
   (ah (pSA (i:=1) ml.nd (iH (aa ag (aa ag ae))))
   (ah (PS.quiet (bz Ac rfl (gP (by rfl) T.n_range (aa ag (aa (aj aV (pv 0) ag) ae))) (pGA (i:=2) ml.nd) (ai (bd (cu BC By Bx fx (pv 1) (aa (pcq (FN T) hr T.X31 (aa (pv 2) (aa (pv 1) ae))) ae))))))
   (ai (al (aE bp (pv 1) (pv 0) (λ_ _=>rfl))))))),?_⟩
  refine⟨v,rfl,v,1,8,rfl,ht,λzu87=>?_,λhn=>⟨by decide,ke hn⟩⟩;obtain⟨i,ei,i1,i2⟩:=zu87;subst ei;obtain⟨d,rfl⟩:=AK (show 0<=i by lia);have kk:=kk d rfl (by lia) (by lia);refine⟨(zB rfl),λl nl=>?_⟩;refine⟨_,rfl,_,_,rfl,rfl,2,_,rfl,⟨by decide,by decide,by lia,by lia⟩,?_⟩;have en:((d:Int)+1-2).toNat=d-1:=by lia
  rw[en];refine dg (lo:=2) (n:=d-1) (λi σ H2=>(∃v2,σ=[some (.int d),some (.ref l),v2])/\af H H2/\∃ws:KW Int,H2 l=some (.lst (ws.map V.int))/\ws.length=i+2/\∀j:Nat,j<i+2->ws[j]? =some (wh j)) ⟨⟨none,rfl⟩,af.new nl,[0,1],am,rfl,λj hj=>?_⟩ ?_ ?_
  .have:j=0\/j=1:=by lia
   rcases this with rfl|rfl<;>rfl
  .rintro i σ H2 hi ⟨⟨v2,rfl⟩,s2,ws,HP,Gv,hw⟩;refine⟨_,rfl,.inl ⟨rfl,_,SqL.of HP⟩,_,rfl,_,rfl,l,i+2,ws,?_,SqL.of HP,by lia,by lia,Gv,hw,?_⟩
   .show [V.int (2+(i:Int)),V.ref l]=[V.int ((i+2:Nat):Int),V.ref l];rw[show(2+(i:Int))=((i+2:Nat):Int) by lia]
   .refine⟨l,ws.map V.int,_,rfl,rfl,HP,bt (by rw[A3];lia),⟨_,rfl⟩,s2.put nl,ws++[wh ((i+2:Nat):Int)],by rw[am,AO];rfl,by rw[AX,Gv];rfl,λj hj=>?_⟩;by_cases Jp:j<i+2
    .rw[CP (by lia)];exact hw j Jp
    .obtain rfl:j=i+2:=by lia
     rw[CJ (by lia),Gv,Nat.sub_self];rfl
  .rintro σ H2 ⟨⟨v2,rfl⟩,s2,ws,HP,Gv,hw⟩;exact⟨_,rfl,_,rfl,l,_,_,_,rfl,rfl,SqL.of HP,m8 (d:=d-1+2) hw (by lia) (by lia),kk H2 s2⟩
theorem FP:OKQ T.X33 P w base 1 spShL:=by
 refine FbO T.X33 jU λ_ _ _ _ H vs Q E hr h=>?_;obtain⟨v,p,rfl,hv,hp,kk⟩:=h;refine⟨_,(ah (pSA (i:=1) jU.nd (aE cw (pv 0) ag (λ_ _=>rfl)))
  (ah (pSA (i:=2) jU.nd (aE cw (pv 0) ag (λ_ _=>rfl)))
  (ah (pSA (i:=3) jU.nd (aE cw (pv 0) ag (λ_ _=>rfl)))
  (ai (al (iB (az aI (pv 3) ag (aw _)) (i8 (cH (eJ (pv 1)) (cH aq (cH (eJ (pv 2)) i7)))) (i8 (cH (eJ (pv 1)) (cH aq (cH (eJ (pv 2)) (cH aq (cH (eJ (pv 3)) i7)))))))))))),?_⟩
 have sz:=cX;obtain⟨h1,h2,h3,h4,h5⟩:=id hp;obtain⟨a1,a2,_⟩:=cM h1 (by lia);obtain⟨b1,b2,_⟩:=cM (n:=p.2.1) (by lia) (by lia);obtain⟨c1,c2,_⟩:=cM h4 h5;refine⟨_,rfl,_,0,_,hv,rfl,rfl,λu hu=>?_⟩;rw[aS hu];refine⟨_,rfl,_,1,_,hv,rfl,rfl,λu hu=>?_⟩;rw[aS hu];refine⟨_,rfl,_,2,_,hv,rfl,rfl,λu hu=>?_⟩;rw[aS hu];unfold wrd at kk;refine⟨_,rfl,rfl,_,rfl,bD (λe=>?_) (λe=>?_)⟩
 .rw[A9 e] at kk;refine⟨_,rfl,_,rfl,ir h1 (by lia),_,rfl,?_,_,rfl,?_,_,rfl,_,rfl,ir (by lia) (by lia),_,rfl,?_,?_⟩
  .rw[A5,e7];show _+(S1 p.1).length<=_;lia
  .rw[A5,A5,e7,dh];show _+(S1 p.1).length+1<=_;lia
  .rw[A5,A5,A5,e7,dh];show _+(S1 p.1).length+1+(S1 p.2.1).length<=_;lia
  .rw[Str.empty_append];exact⟨by rw[A5,A5,dh];show(S1 p.1).length+1+(S1 p.2.1).length<=_;lia,kk⟩
 .rw[A6 e] at kk;refine⟨_,rfl,_,rfl,ir h1 (by lia),_,rfl,?_,_,rfl,?_,_,rfl,_,rfl,ir (by lia) (by lia),_,rfl,?_,_,rfl,?_,_,rfl,_,rfl,ir h4 h5,_,rfl,?_,?_⟩
  .rw[A5,e7];show _+(S1 p.1).length<=_;lia
  .rw[A5,A5,e7,dh];show _+(S1 p.1).length+1<=_;lia
  .rw[A5,A5,A5,e7,dh];show _+(S1 p.1).length+1+(S1 p.2.1).length<=_;lia
  .rw[A5,A5,A5,A5,e7,dh,iq];show _+(S1 p.1).length+1+(S1 p.2.1).length+1<=_;lia
  .rw[A5,A5,A5,A5,A5,e7,dh,iq];show _+(S1 p.1).length+1+(S1 p.2.1).length+1+(S1 p.2.2).length<=_;lia
  .rw[Str.empty_append];exact⟨by rw[A5,A5,A5,A5,dh,iq];show(S1 p.1).length+1+(S1 p.2.1).length+1+(S1 p.2.2).length<=_;lia,kk⟩
theorem gI:FnOk P w K mg base (CX1 P w) 1 T.f36 T.d36 ["word","most"] (spNoR T.c_NoText):=by
 refine T.X36.F.okx rh (λvs H Q E h=>?_) (λGu A outer s H vs Q E hr h hR hp=>?_)
 .obtain⟨_,_,rfl,_⟩:=h;rfl
 .obtain⟨z,m,rfl,fz,hm,kk⟩:=h;refine⟨_,(ah (pSA (i:=2) rh.nd (gM (dQ ff (pv 0) aq (aw _)) (gL (aZ (xg rfl) (by rfl) T.n_all boot_all (aa (fC (XN:=["word","most","in_figures"]) (sc:=ak ib) (N:=["sign"]) (own:=1) (js:=[]) rfl (by ac_nf) rfl rfl (xD (pv 0)) (λ_ _ _ _=>(cK (i:=0) (show List.Nodup (["sign"]:KW Str) by ac_nf) rfl (Or.inl rfl) (.inr rfl))) (fB (by decide)) (λ_ _ _ _=>dS) (λ_ _ _ _=>(dQ va (pv 0) (cO (v:= .str (Str.ofString "0123456789")) (by rfl) T.m_FIGURES ⟨_,rfl⟩) rfl))) ae)))))
   (ah (ay (df (cZ (cc (pv 2))) (df (az fk (aZ oN (by rfl) T.n_len boot_len (aa (pv 0) ae)) (pv 1) (aw _)) (eB (nI (cc (cu B4 PySem.F.slot_str_startswith PySem.F.type_str_startswith qm (pv 0) (aa aq ae))) (nH (az ff (pv 0) aq (aw _)))).pt))).pt (ai (c9 hR (by rfl) T.m_NoText T.x_NoText rfl (aa (i8 (cH aq (cH (eJ (pv 1)) (cH aq i7)))) ae))) ax)
   (ai (al (bH xz (by rfl) T.n_int boot_int (aa (pv 0) ae)))))),?_⟩
  have sz:=cX;have kR:(∀n,¬de z m n)->∀H',af H H'->E (.ref T.c_NoText) none H':=λhn H' s'=>by
   rcases kk with⟨n,hk,_⟩|⟨_,ke⟩
   .exact absurd hk (hn n)
   .exact ke H' s'
  have JG:((m:Int)).natAbs.log2<1920:=by rcases hm with rfl|rfl|rfl<;>decide
  have hsay:∀H':Hp,(Str.empty++Str.ofString "not a whole number from 0 on, of at most ").length<=sizeLine/\(Str.empty++Str.ofString "not a whole number from 0 on, of at most "++Str.ofString (toString (m:Int))).length<=sizeLine/\(Str.empty++Str.ofString "not a whole number from 0 on, of at most "++Str.ofString (toString (m:Int))++Str.ofString " figures").length<=sizeLine:=λ_=>by
   rcases hm with rfl|rfl|rfl<;>ac_nf
  by_cases h0:z=Str.ofString ""
  .refine⟨_,rfl,rfl,false,by rw[B3 (Ah V.str h0)];rfl,aH ?_⟩;refine⟨_,rfl,false,rfl,aN ?_⟩;obtain⟨y1,y2,y3⟩:=hsay H;exact⟨_,rfl,y1,_,rfl,_,rfl,JG,_,rfl,y2,_,rfl,y3,y3,(zB rfl),kR (λn hn=>hn.1 h0) H (af.refl _)⟩
  .have l1:=sI h0;refine⟨_,rfl,rfl,true,by rw[Al (λe=>h0 (V.str.inj e))];rfl,aN ⟨_,rfl,z,rfl,fz.asc,λacc na=>?_⟩⟩;refine xE (x:=z) (own:=1) (js:=[]) (λi H3=>af H H3/\i<=z.cps.size/\H3 acc=some (.lst (((z.cps.toList.take i).map dig).map V.bl))) ⟨af.new na,AR _,am⟩ ?_ ?_ fE dW ?_
   .rintro i c H3 hc ⟨s3,hi,Gr⟩;obtain⟨HB,Ka⟩:=BQ.mp hc;have hsz:z.cps.size<=100:=fz.1;have cl:c<128:=fz.2 c (by rw[<-Ka];exact CL.mpr (Array.getElem_mem HB));refine fF ?_;refine⟨_,rfl,_,_,rfl,rfl,acc,_,_,rfl,rfl,Gr,bt (by rw[A3,A3,Ao];lia),s3.put na,HB,?_⟩;have ht:z.cps.toList[i]? =some c:=by rw[B9];exact hc
    rw[am,DP c cl,Bool.not_not,Af,ht,AO,AO];rfl
   .rintro H3 ⟨s3,_,Gr⟩;rw[Cj (by rw[AV];exact A8 _)] at Gr;obtain⟨y1,y2,y3⟩:=hsay H3;refine⟨acc,_,rfl,SqL.of Gr,?_⟩;by_cases hd:((z.cps.toList.map dig).all id)=true
    .have Ib:∀c∈z.cps.toList,48<=c/\c<58:=λc hc=>by
      rw[List.all_map,AG] at hd;have:=hd c hc;unfold dig at this;simpa using this
     rw[hd];refine⟨_,rfl,true,rfl,aH ⟨_,rfl,_,rfl,by have:=fz.1;lia,_,rfl,_,_,rfl,rfl,_,rfl,aF (λh=>?_) (λh=>?_)⟩⟩
     .exact aN ⟨_,rfl,y1,_,rfl,_,rfl,JG,_,rfl,y2,_,rfl,y3,y3,(zB rfl),kR (λn hn=>by have:=hn.2.2.1;lia) H3 s3⟩
     .have l2:z.length<=m:=by lia
      refine⟨_,rfl,rfl,_,_,rfl,rfl,_,rfl,?_⟩;obtain⟨n,_,hn⟩:=DU l1 (by rcases hm with rfl|rfl|rfl<;>lia) Ib
      by_cases hs:Txt.startswith z (Str.ofString "0")=true
      .rw[hs];refine aN ⟨_,rfl,rfl,_,rfl,ci (λhe=>?_) (λhe=>?_)⟩
       .exact⟨_,rfl,y1,_,rfl,_,rfl,JG,_,rfl,y2,_,rfl,y3,y3,(zB rfl),kR (λn hn=>hn.2.2.2.1 ⟨hs,λe=>he (Ah V.str e)⟩) H3 s3⟩
       .have ok:de z m n:=⟨h0,Ib,l2,(λGB=>by obtain⟨_,e⟩:=GB;exact e (V.str.inj he)),hn⟩;refine⟨_,rfl,_,_,rfl,hn,by have:=fz.1;lia,?_⟩;rcases kk with⟨n',hk,kk⟩|⟨hk,_⟩
        .have:n'=n:=by have:=hk.2.2.2.2;rw[hn] at this;exact(AL this).symm
         rw[<-this];exact kk H3 s3
        .exact absurd ok (hk _)
      .have Jv:Txt.startswith z (Str.ofString "0")=false:=by simpa using hs
       have ok:de z m n:=⟨h0,Ib,l2,(λGB=>by obtain⟨e,_⟩:=GB;exact hs e),hn⟩;rw[Jv];refine aH (aH ⟨_,rfl,_,_,rfl,hn,by have:=fz.1;lia,?_⟩);rcases kk with⟨n',hk,kk⟩|⟨hk,_⟩
       .have:n'=n:=by have:=hk.2.2.2.2;rw[hn] at this;exact(AL this).symm
        rw[<-this];exact kk H3 s3
       .exact absurd ok (hk _)
    .have Ib:((z.cps.toList.map dig).all id)=false:=by simpa using hd
     rw[Ib];refine⟨_,rfl,false,rfl,aN ?_⟩;refine⟨_,rfl,y1,_,rfl,_,rfl,JG,_,rfl,y2,_,rfl,y3,y3,(zB rfl),kR (λn hn=>hd ?_) H3 s3⟩;rw[List.all_map,AG];intro c hc;have:=hn.2.1 c hc;show dig c=true;unfold dig;simpa using this
   .rintro σ H R R' k ⟨v1,e1,i,j,e2,e3,h⟩;exact⟨v1,e1,i,j,e2,e3,k _ _ h⟩
theorem FQ:FnOk P w K mg base (CX1 P w) 2 T.f38 T.d38 ["word"] (spRdR T.c_NoText):=by
 refine T.X38.F.okx gs (λvs H Q E h=>?_) (λGu A outer s H vs Q E hr h hR hp=>?_)
 .obtain⟨_,rfl,_⟩:=h;rfl
 .obtain⟨z,rfl,fz,kk⟩:=h;refine⟨_,(ah (pSA (i:=1) gs.nd (cu B4 C3 C2 g7 (pv 0) (aa aq ae)))
   (ah (ay (az ff (aZ f' (by rfl) T.n_len boot_len (aa (pv 1) ae)) ag (aw _)) (ai (c9 hR (by rfl) T.m_NoText T.x_NoText rfl (aa aq ae))) ax)
   (ah (pSA (i:=2) gs.nd (cu B4 C3 C2 g7 (aE bp (pv 1) ag (λ_ _=>rfl)) (aa aq ae)))
   (ah (pSA (i:=3) gs.nd (aA (gI T) (hr.mono (by decide)) (by rfl) T.X36.m T.X36.F.kp T.X36.B .nil hp (aa (aE bp (pv 1) ag (λ_ _=>rfl)) (aa ag ae))))
   (ah (pSA (i:=4) gs.nd (aA (gI T) (hr.mono (by decide)) (by rfl) T.X36.m T.X36.F.kp T.X36.B .nil hp (aa (aE bp (pv 2) ag (λ_ _=>rfl)) (aa ag ae))))
   (ah (pSA (i:=5) gs.nd (iB (az fk (aZ f' (by rfl) T.n_len boot_len (aa (pv 2) ae)) ag (aw _)) (aA (gI T) (hr.mono (by decide)) (by rfl) T.X36.m T.X36.F.kp T.X36.B .nil hp (aa (aE bp (pv 2) ag (λ_ _=>rfl)) (aa ag ae))) ag))
   (ah (ay (df (cZ (oa fh fg ag (pv 3) (pv 4))) (df (cZ (oa fh fh ag (pv 5) ag)) (eB (az ff (pcq (FP T) hr T.X33 (aa (c8 (aa (pv 3) (aa (pv 4) (aa (pv 5) ae)))) ae)) (pv 0) (aw _))))).pt (ai (c9 hR (by rfl) T.m_NoText T.x_NoText rfl (aa aq ae))) ax)
   (ai (al (c8 (aa (pv 3) (aa (pv 4) (aa (pv 5) ae))))))))))))),?_⟩
  have sz:=cX;have d1:0<(Str.ofString "-").length:=by rw[dh];decide
  have x1:0<(Str.ofString "x").length:=by rw[iq];decide
  rcases kk with⟨p,hp,rfl,kk⟩|⟨Iv,ke⟩
  .obtain⟨h1,h2,h3,h4,h5⟩:=id hp;have wl:=sy hp;have ul:=sx hp;have fw:∀v∈Txt.split (wrd p) (Str.ofString "-"),Fit 100 v:=λv hv=>by rw[eA] at hv;exact fR fz hv
   have f1:Fit 100 (S1 p.1):=fw _ (by rw[kG hp];simp);have fu:Fit 100 (uw p):=fw _ (by rw[kG hp];simp);have fu':∀v∈Txt.split (uw p) (Str.ofString "x"),Fit 100 v:=λv hv=>by rw[s_x] at hv;exact fR fu hv
   refine⟨_,rfl,rfl,wrd p,_,rfl,rfl,d1,by lia,by rw[kG hp];show 2<=sizeLine;decide,λfl H1 n1 s1 JH=>?_⟩;rw[kG hp] at JH;refine⟨_,rfl,fl,_,rfl,.inl (SqL.of JH),rfl,_,rfl,gX (λh=>absurd rfl h) (λ_=>?_)⟩;refine⟨_,rfl,fl,_,_,.str (uw p),rfl,rfl,SqL.of JH,aW (j:=1) rfl rfl,rfl,uw p,_,rfl,rfl,x1,by lia,?_,λup H2 n2 s2 II=>?_⟩
   .by_cases hw:p.2.2=1
    .rw[mT hp hw];show 1<=sizeLine;decide
    .rw[kH hp hw];show 2<=sizeLine;decide
   have s2':=s1.trans s2;refine⟨_,rfl,fl,_,_,.str (S1 p.1),rfl,rfl,SqL.of (s2 _ _ JH),aW (j:=0) rfl rfl,S1 p.1,1,rfl,f1,.inl rfl,.inl ⟨p.1,kJ h1 (by lia) (by decide) (.inl (by lia)),λH3 s3=>?_⟩⟩;by_cases hw:p.2.2=1
   .have f2:Fit 100 (S1 p.2.1):=fu' _ (by rw[mT hp hw];simp);rw[mT hp hw] at II;refine⟨_,rfl,up,_,_,.str (S1 p.2.1),rfl,rfl,SqL.of (s3 _ _ II),aW (j:=0) rfl rfl,S1 p.2.1,1,rfl,f2,.inl rfl,.inl ⟨p.2.1,kJ (by lia) (by lia) (by decide) (.inl (by lia)),λH4 s4=>?_⟩⟩;refine⟨_,rfl,up,_,rfl,.inl (SqL.of (s4 _ _ (s3 _ _ II))),_,_,rfl,rfl,_,rfl,aF (λh=>absurd h (show¬(1:Int)<1 by decide)) (λ_=>?_)⟩;refine⟨_,rfl,_,_,rfl,rfl,_,rfl,aF (λ_=>⟨_,rfl,_,_,rfl,rfl,_,rfl,ci (λh=>absurd h2 h) (λ_=>?_)⟩) (λh=>absurd h1 h)⟩;refine⟨_,rfl,_,_,rfl,rfl,_,rfl,aF (λ_=>⟨_,_,rfl,rfl,_,rfl,ci (λh=>absurd (show(1:Int)<=60 by decide) h) (λ_=>?_)⟩) (λh=>absurd (show(1:Int)<=1 by decide) h)⟩;refine⟨_,rfl,_,rfl,_,rfl,(zB rfl),λt H6 n6 s6 ht=>⟨_,p,rfl,dI (by rw[ht];rw[hw]),hp,_,rfl,rfl,_,rfl,ci (λh=>absurd rfl h) (λ_=>?_)⟩⟩;exact⟨_,rfl,_,rfl,_,rfl,(zB rfl),λt2 H7 n7 s7 ht2=>kk t2 H7 (((s2'.trans (s3.trans s4)).trans s6).trans s7) (by rw[ht2];rw[hw])⟩
   .have f2:Fit 100 (S1 p.2.1):=fu' _ (by rw[kH hp hw];simp);have f3:Fit 100 (S1 p.2.2):=fu' _ (by rw[kH hp hw];simp);rw[kH hp hw] at II;refine⟨_,rfl,up,_,_,.str (S1 p.2.1),rfl,rfl,SqL.of (s3 _ _ II),aW (j:=0) rfl rfl,S1 p.2.1,1,rfl,f2,.inl rfl,.inl ⟨p.2.1,kJ (by lia) (by lia) (by decide) (.inl (by lia)),λH4 s4=>?_⟩⟩;refine⟨_,rfl,up,_,rfl,.inl (SqL.of (s4 _ _ (s3 _ _ II))),_,_,rfl,rfl,_,rfl,aF (λ_=>?_) (λh=>absurd (show(1:Int)<2 by decide) h)⟩;refine⟨_,rfl,up,_,_,.str (S1 p.2.2),rfl,rfl,SqL.of (s4 _ _ (s3 _ _ II)),aW (j:=1) rfl rfl,S1 p.2.2,2,rfl,f3,.inr (.inl rfl),.inl ⟨p.2.2,kJ h4 h5 (by decide) (.inr (by decide)),λH5 s5=>?_⟩⟩;refine⟨_,rfl,_,_,rfl,rfl,_,rfl,aF (λ_=>⟨_,rfl,_,_,rfl,rfl,_,rfl,ci (λh=>absurd h2 h) (λ_=>?_)⟩) (λh=>absurd h1 h)⟩;refine⟨_,rfl,_,_,rfl,rfl,_,rfl,aF (λ_=>⟨_,_,rfl,rfl,_,rfl,ci (λh=>absurd h5 h) (λ_=>?_)⟩) (λh=>absurd h4 h)⟩;refine⟨_,rfl,_,rfl,_,rfl,(zB rfl),λt H6 n6 s6 ht=>⟨_,p,rfl,dI (by rw[ht]),hp,_,rfl,rfl,_,rfl,ci (λh=>absurd rfl h) (λ_=>?_)⟩⟩;exact⟨_,rfl,_,rfl,_,rfl,(zB rfl),λt2 H7 n7 s7 ht2=>kk t2 H7 (((s2'.trans ((s3.trans s4).trans s5)).trans s6).trans s7) (by rw[ht2])⟩
  .have Gw:∀H',af H H'->1<=sizeLine/\E (.ref T.c_NoText) none H':=λH' s'=>⟨by decide,ke H' s'⟩;have sl:=iw (c:=45) fz;have fw:∀v∈Txt.split z (Str.ofString "-"),Fit 100 v:=λv hv=>by rw[eA] at hv;exact fR fz hv
   rw[<-eA] at sl;refine⟨_,rfl,rfl,z,_,rfl,rfl,d1,by have:=fz.1;lia,by lia,λfl H1 n1 s1 JH=>?_⟩;refine⟨_,rfl,fl,_,rfl,.inl (SqL.of JH),rfl,_,rfl,gX (λh=>Gw H1 s1) (λh2=>?_)⟩;obtain⟨f0,f1,hf⟩:∃f0 f1,Txt.split z (Str.ofString "-")=[f0,f1]:=by
    rw[A3] at h2
    match hq:Txt.split z (Str.ofString "-"),h2 with
    |[a,b],_=>exact⟨a,b,rfl⟩
    |[],h2=>exact absurd h2 (by simp)
    |[a],h2=>exact absurd h2 (by simp)
    |a::b::c::r,h2=>exact absurd h2 (by simp only[AN];lia)
   rw[hf] at JH;have q0:Fit 100 f0:=fw _ (by rw[hf];simp);have q1:Fit 100 f1:=fw _ (by rw[hf];simp);have ul:=iw (c:=120) q1;have fu:∀v∈Txt.split f1 (Str.ofString "x"),Fit 100 v:=λv hv=>by rw[s_x] at hv;exact fR q1 hv
   rw[<-s_x] at ul;refine⟨_,rfl,fl,_,_,.str f1,rfl,rfl,SqL.of JH,aW (j:=1) rfl rfl,rfl,f1,_,rfl,rfl,x1,by have:=q1.1;lia,by lia,λup H2 n2 s2 II=>?_⟩;have s2':=s1.trans s2;refine⟨_,rfl,fl,_,_,.str f0,rfl,rfl,SqL.of (s2 _ _ JH),aW (j:=0) rfl rfl,f0,1,rfl,q0,.inl rfl,?_⟩;by_cases hi:∃n,de f0 1 n;case neg=>exact .inr ⟨λn hn=>hi ⟨n,hn⟩,λH3 s3=>ke H3 (s2'.trans s3)⟩
   obtain⟨i,hi⟩:=hi;refine .inl ⟨i,hi,λH3 s3=>?_⟩;have s3':=s2'.trans s3;obtain⟨u0,us,hu⟩:∃u0 us,Txt.split f1 (Str.ofString "x")=u0::us:=by
    have:=iu f1 120;rw[<-s_x] at this
    match Txt.split f1 (Str.ofString "x"),this with
    |[],h=>exact absurd rfl h
    |a::r,_=>exact⟨a,r,rfl⟩
   rw[hu] at II fu;refine⟨_,rfl,up,_,_,.str u0,rfl,rfl,SqL.of (s3 _ _ II),aW (j:=0) rfl rfl,u0,1,rfl,fu _ (by simp),.inl rfl,?_⟩;by_cases hj:∃n,de u0 1 n;case neg=>exact .inr ⟨λn hn=>hj ⟨n,hn⟩,λH4 s4=>ke H4 (s3'.trans s4)⟩
   obtain⟨j,hj⟩:=hj;refine .inl ⟨j,hj,λH4 s4=>?_⟩;have KJ:=s3'.trans s4;have j9:=DO hj;refine⟨_,rfl,up,_,rfl,.inl (SqL.of (s4 _ _ (s3 _ _ II))),_,_,rfl,rfl,_,rfl,aF (λhgt=>?_) (λ_=>?_)⟩
   .obtain⟨v0,vs,hv⟩:∃v0 vs,us=v0::vs:=by
     match us,hgt with
     |[],h=>exact absurd h (by show¬(1:Int)<1;decide)
     |a::r,_=>exact⟨a,r,rfl⟩
    subst hv;refine⟨_,rfl,up,_,_,.str v0,rfl,rfl,SqL.of (s4 _ _ (s3 _ _ II)),aW (j:=1) rfl rfl,v0,2,rfl,fu _ (by simp),.inr (.inl rfl),?_⟩;by_cases hk:∃n,de v0 2 n;case neg=>exact .inr ⟨λn hn=>hk ⟨n,hn⟩,λH5 s5=>ke H5 (KJ.trans s5)⟩
    obtain⟨wt,hk⟩:=hk;refine .inl ⟨wt,hk,λH5 s5=>?_⟩;have s5':=KJ.trans s5;refine⟨_,rfl,_,_,rfl,rfl,_,rfl,aF (λa1=>⟨_,rfl,_,_,rfl,rfl,_,rfl,ci (λ_=>Gw H5 s5') (λa2=>?_)⟩) (λ_=>⟨_,rfl,Gw H5 s5'⟩)⟩;refine⟨_,rfl,_,_,rfl,rfl,_,rfl,aF (λa3=>⟨_,_,rfl,rfl,_,rfl,ci (λ_=>Gw H5 s5') (λa4=>?_)⟩) (λ_=>⟨_,rfl,Gw H5 s5'⟩)⟩;have ok:OkL (i,j,wt):=⟨a1,a2,j9.2,a3,a4⟩;exact⟨_,rfl,_,rfl,_,rfl,(zB rfl),λt H6 n6 s6 ht=>⟨_,(i,j,wt),rfl,dI ht,ok,_,rfl,rfl,_,rfl,ci (λ_=>Gw H6 (s5'.trans s6)) (λe=>absurd (V.str.inj e).symm (Iv _ ok))⟩⟩
   .refine⟨_,rfl,_,_,rfl,rfl,_,rfl,aF (λa1=>⟨_,rfl,_,_,rfl,rfl,_,rfl,ci (λ_=>Gw H4 KJ) (λa2=>?_)⟩) (λ_=>⟨_,rfl,Gw H4 KJ⟩)⟩;refine⟨_,rfl,_,_,rfl,rfl,_,rfl,aF (λa3=>⟨_,_,rfl,rfl,_,rfl,ci (λ_=>Gw H4 KJ) (λa4=>?_)⟩) (λ_=>⟨_,rfl,Gw H4 KJ⟩)⟩;have ok:OkL (i,j,1):=⟨a1,a2,j9.2,a3,a4⟩;exact⟨_,rfl,_,rfl,_,rfl,(zB rfl),λt H6 n6 s6 ht=>⟨_,(i,j,1),rfl,dI ht,ok,_,rfl,rfl,_,rfl,ci (λ_=>Gw H6 (KJ.trans s6)) (λe=>absurd (V.str.inj e).symm (Iv _ ok))⟩⟩
theorem FR:FnOk P w K mg base (CX1 P w) 3 T.f39 T.d39 ["text"] (spRdDR T.c_NoText):=by
 refine T.X39.F.okz rk (λvs H Q E h=>?_) (λGu A outer s H vs Q E hr h hR hp hF hM=>?_)
 .obtain⟨_,rfl,_⟩:=h;rfl
 .obtain⟨t,rfl,ft,kk⟩:=h;refine⟨_,(ah (ay (az aI (pv 0) aq (aw _)) (ai (al (bX ae))) ax)
   (ah (yL hF hM (i:=1) rk.nd rfl (by trivial) (.inl rfl) (XN:=["text","lifts"]) (sc:=ak ic) (N:=["word"]) (own:=1) (js:=[]) rfl (by ac_nf) rfl rfl (cq (cu B4 C3 C2 g7 (pv 0) (aa aq ae))) (λ_ _ _ _ _=>(cK (i:=0) (show List.Nodup (["word"]:KW Str) by ac_nf) rfl (Or.inl rfl) (.inr rfl))) (fB (by decide)) (λ_ _ _ _ _=>dS) (λ_ _ _ _ _ hp=>(aA (FQ T) (hr.mono (by decide)) (by rfl) T.X38.m T.X38.F.kp T.X38.B .nil hp (aa (pv 0) ae))))
   (ah (ay (az (wG hr) (pv 1) (aZ xy (by rfl) T.n_sorted boot_sorted (aa (pv 1) ae)) (aw _)) (ai (c9 hR (by rfl) T.m_NoText T.x_NoText rfl (aa aq ae))) ax)
   (ai (al (pv 1)))))),?_⟩
  have sz:=cX;refine⟨_,rfl,rfl,_,rfl,aF (λhn=>?_) (λhn=>?_)⟩
  .have hn:=V.str.inj hn;refine⟨AR _,λl H1 n1 s1 h1=>?_⟩;have i0:IsT t []:=⟨hn,sJ (by simp),λ_ z=>nomatch z⟩;rcases kk with⟨ps,IJ,kk⟩|⟨Iv,_⟩
   .have:ps=[]:=by
     by_cases h0:ps=[]
     .exact h0
     .exact absurd (IJ.1.symm.trans hn) (DJ h0 IJ.2.2)
    subst this;exact kk l H1 s1 (ba h1 aM)
   .exact absurd i0 (Iv _)
  .have hn:t≠Str.ofString "none":=λe=>hn (Ah V.str e);have sp1:0<(Str.ofString " ").length:=by rw[fQ];decide
   have sl:=iw (c:=32) ft;have fw:∀v∈Txt.split t (Str.ofString " "),Fit 100 v:=λv hv=>by rw[dM] at hv;exact fR ft hv
   rw[<-dM] at sl;refine⟨_,rfl,rfl,_,_,rfl,rfl,sp1,by have:=ft.1;lia,by lia,λwl H1 n1 s1 HQ=>⟨wl,rfl,⟨_,SqL.of HQ⟩,λacc na=>?_⟩⟩;have KL:H acc=none:=s1.free na;refine fD (xs:=(Txt.split t (Str.ofString " ")).map V.str) (own:=1) (js:=[]) (λj H4=>af H1 H4/\∃qs vs,(Txt.split t (Str.ofString " ")).take j=qs.map wrd/\(∀q∈qs,OkL q)/\H4 acc=some (.lst vs)/\Iss H4 (qs.map lf) vs) ⟨af.new na,[],[],rfl,(λ_ z=>nomatch z),am,aM⟩ (λj H4 _ h=>SqL.of (h.1 _ _ HQ)) ?_ ?_ fE dW ?_
   .rintro j x H4 hj ⟨s4,qs,vs,JI,KM,Gr,hi⟩;rw[AF] at hj;obtain⟨w0,Jp,rfl⟩:=AY.mp hj;have ql:qs.length<=101:=by
     have:=Ah List.length JI;rw[Ao,A3] at this;lia
    have vl:vs.length<=101:=by rw[hi.length,A3];exact ql
    refine fF ?_;refine⟨_,rfl,w0,rfl,fw _ (Aa Jp),?_⟩;by_cases hw:∃p,OkL p/\w0=wrd p
    .obtain⟨p,okp,ew⟩:=hw;refine .inl ⟨p,okp,ew,λt H5 s5 ht=>⟨acc,vs,_,rfl,rfl,s5 _ _ Gr,bt (by lia),(s4.trans s5).put na,qs++[p],_,?_,λq hq=>?_,am,?_⟩⟩
     .rw[Af,Jp,JI,AO,ew];rfl
     .rcases Br.mp hq with hq|hq
      .exact KM q hq
      .rw[An.mp hq];exact okp
     .refine ik (aX.upd (s5 _ _ Gr)) ?_;rw[AO];exact(hi.mono s5).append (aT (dI ht) aM)
    .refine .inr ⟨λp okp e=>hw ⟨p,okp,e⟩,λH' s'=>?_⟩;rcases kk with⟨ps,IJ,_⟩|⟨_,ke⟩
     .exfalso;obtain⟨_,e⟩:=nj IJ hn;rw[e,AF] at Jp;obtain⟨p,G2,e'⟩:=AY.mp Jp;exact hw ⟨p,IJ.2.2 p (Aa G2),e'.symm⟩
     .exact ke H' ((s1.trans s4).trans s')
   .rintro H4 ⟨s4,qs,vs,JI,KM,Gr,hi⟩;rw[A3,Az] at JI;obtain⟨q0,eT⟩:=sG JI;have hv:Is H4 (lfs qs) (.ref acc):=ba Gr hi;have ql:2*qs.length<=101:=by
     have e:=mX t 32;rw[<-dM,JI,A3] at e;have:=ft.1;have:qs.length<=((qs.map wrd).map (·.length)).sum:=by
      clear JI hi hv eT q0 e;induction qs with
      |nil=>exact AR _
      |cons q qs ih=>
       have h1:=ih λp hp=>KM p (by simp[hp]);have h2:=(sy (KM q (by simp))).1;rw[AM,AM,B5,AN];show qs.length+1<=(wrd q).length+_;lia
     lia
    refine⟨_,rfl,_,rfl,.ref acc,qs.map aO,3,rfl,by rw[<-kr];exact hv,by decide,mW,by rw[A3];lia,λGF q H5 G2 hasc nq s5 hq=>?_⟩;obtain⟨rs,hperm,rfl⟩:=zS G2;rw[<-kr] at hq;have Jw:Asc rs:=hasc;refine⟨2,_,ER qs rs (hv.mono s5) hq,by decide,_,rfl,ci (λHi=>?_) (λheq=>?_)⟩
    .refine⟨by decide,?_⟩;rcases kk with⟨ps,IJ,_⟩|⟨_,ke⟩
     .exfalso;obtain⟨_,e⟩:=nj IJ hn;have:ps=qs:=tH IJ.2.2 KM (e.symm.trans JI);subst this;refine Hi ?_;have:=DK G2 mW hasc IJ.2.1;exact(List.map_inj_right (λ_ _=>rQ)).mp this.symm
     .exact ke H5 ((s1.trans s4).trans s5)
    .refine⟨_,rfl,?_⟩;rcases kk with⟨ps,IJ,kk⟩|⟨Iv,_⟩
     .obtain⟨_,e⟩:=nj IJ hn;have:ps=qs:=tH IJ.2.2 KM (e.symm.trans JI);subst this;exact kk acc H5 ((s1.trans s4).trans s5) (hv.mono s5)
     .exact absurd ⟨eT,heq▸Jw,KM⟩ (Iv qs)
   .rintro σ H R R' k ⟨v1,e1,z,e2,h1,h⟩;refine⟨v1,e1,z,e2,h1,?_⟩;rcases h with⟨p,a,b,h⟩|h
    .exact .inl ⟨p,a,b,λt H' s' ht=>k _ _ (h t H' s' ht)⟩
    .exact .inr h
theorem FS:FnOk P w K mg base (CX1 P w) 2 T.f37 T.d37 ["word","most"] (spRdW rdF T.c_NoText [.int 3]):=by
 refine T.X37.F.okx rj (λvs H Q E h=>?_) (λGu A outer s H vs Q E hr h hR hp=>?_)
 .obtain⟨_,rfl,_⟩:=h;rfl
 .obtain⟨z,rfl,fz,kk,ke⟩:=h;refine⟨_,(ah (ay (cZ (cc (cu B4 PySem.F.slot_str_startswith PySem.F.type_str_startswith qm (pv 0) (aa aq ae)))) (ai (al (aA (gI T) (hr.mono (by decide)) (by rfl) T.X36.m T.X36.F.kp T.X36.B .nil hp (aa (pv 0) (aa (pv 1) ae))))) ax)
   (ah (pSA (i:=2) rj.nd (aA (gI T) (hr.mono (by decide)) (by rfl) T.X36.m T.X36.F.kp T.X36.B .nil hp (aa (fq yE (pv 0) (eE ag) fZ) (aa (pv 1) ae))))
   (ah (ay (az aI (pv 2) ag (aw _)) (ai (c9 hR (by rfl) T.m_NoText T.x_NoText rfl (aa aq ae))) ax)
   (ai (al (nR nU (pv 2))))))),?_⟩
  have sz:=cX;unfold rdF at kk ke;refine⟨_,rfl,rfl,_,_,rfl,rfl,_,rfl,?_⟩;cases hs:Txt.startswith z (Str.ofString "-") with
  |false=>
   rw[A6 (by rw[hs];decide)] at kk ke;refine aN ⟨_,rfl,_,rfl,z,3,rfl,fz,.inr (.inr rfl),?_⟩;cases hn:ntF 3 z with
   |none=>exact .inr ⟨m6 hn,ke hn⟩
   |some n=>exact .inl ⟨n,m5 hn,kk n hn⟩
  |true=>
   rw[A9 hs] at kk ke;refine aH ⟨_,rfl,_,rfl,z,rfl,by have:=fz.1;lia,_,rfl,_,3,rfl,(DS fz (j:=1) (by decide)).le (by have:=fz.1;lia),.inr (.inr rfl),?_⟩;cases hn:ntF 3 (Txt.slice z (some 1) none) with
   |none=>
    rw[hn] at ke;exact .inr ⟨m6 hn,ke rfl⟩
   |some n=>
    rw[hn] at kk ke;dsimp only at kk ke;refine .inl ⟨n,m5 hn,λH1 s1=>⟨_,rfl,rfl,_,rfl,bD (λh0=>?_) (λh0=>?_)⟩⟩
    .rw[A9 h0] at ke;exact⟨by decide,ke rfl H1 s1⟩
    .rw[A6 h0] at kk;exact⟨_,rfl,_,rfl,kk _ rfl H1 s1⟩
theorem t7:FnOk P w K mg base (CX1 P w) 3 T.f40 T.d40 ["word"] (spRdW rdF T.c_NoText []):=by
 refine T.X40.F.okx zu (λvs H Q E h=>?_) (λGu A outer s H vs Q E hr h hR hp=>?_)
 .obtain⟨_,rfl,_⟩:=h;rfl
 .obtain⟨z,rfl,fz,kk,ke⟩:=h;refine⟨_,(ai (al (aA (FS T) (hr.mono (by decide)) (by rfl) T.X37.m T.X37.F.kp T.X37.B .nil hp (aa (pv 0) (aa (cO (v:= .int (3)) (by rfl) T.m_FIGURES_AT_MOST ⟨_,rfl⟩) ae))))),?_⟩;exact⟨_,rfl,z,rfl,fz,kk,ke⟩
theorem FT:FnOk P w K mg base (CX1 P w) 2 T.f41 T.d41 ["word"] (spREn T.c_NoText):=by
 refine T.X41.F.okz zw (λvs H Q E h=>?_) (λGu A outer s H vs Q E hr h hR hp hF hM=>?_)
 .obtain⟨_,rfl,_⟩:=h;rfl
 .obtain⟨z,rfl,fz,kk,ke⟩:=h;refine⟨_,(ah (ay (az aI (pv 0) aq (aw _)) (ai (al (bX ae))) ax)
   (ai (al (qT hF hM (XN:=["word"]) (sc:=ak ie) (N:=["number"]) (own:=1) (js:=[]) rfl (by ac_nf) rfl rfl (cq (cu B4 C3 C2 g7 (pv 0) (aa aq ae))) (λ_ _ _ _ _=>(cK (i:=0) (show List.Nodup (["number"]:KW Str) by ac_nf) rfl (Or.inl rfl) (.inr rfl))) (fB (by decide)) (λ_ _ _ _ _=>dS) (λ_ _ _ _ _ hp=>(aA (gI T) (hr.mono (by decide)) (by rfl) T.X36.m T.X36.F.kp T.X36.B .nil hp (aa (pv 0) (aa (cO (v:= .int (3)) (by rfl) T.m_FIGURES_AT_MOST ⟨_,rfl⟩) ae)))))))),?_⟩
  have sz:=cX;unfold reF at kk ke;refine⟨_,rfl,rfl,_,rfl,aF (λhn=>?_) (λhn=>?_)⟩
  .rw[A9 (V.str.inj hn)] at kk;exact⟨AR _,λl H1 n1 s1 h1=>kk [] rfl l H1 s1 n1 h1⟩
  .have hn:z≠Str.ofString "-":=λe=>hn (Ah V.str e);rw[A6 hn] at kk ke;have c1:0<(Str.ofString ",").length:=by ac_nf
   have sc:Str.ofString ","=⟨#[44]⟩:=by ac_nf
   have sl:=iw (c:=44) fz;have fw:∀v∈Txt.split z (Str.ofString ","),Fit 100 v:=λv hv=>by rw[sc] at hv;exact fR fz hv
   rw[<-sc] at sl;refine⟨_,rfl,rfl,_,_,rfl,rfl,c1,by have:=fz.1;lia,by lia,λwl H1 n1 s1 HQ=>⟨wl,rfl,⟨_,SqL.of HQ⟩,λacc na=>?_⟩⟩;have KL:H acc=none:=s1.free na;refine fD (xs:=(Txt.split z (Str.ofString ",")).map V.str) (own:=1) (js:=[]) (λj H4=>af H1 H4/\∃ns:KW Int,bb (ntF 3) ((Txt.split z (Str.ofString ",")).take j)=some ns/\H4 acc=some (.lst (ns.map V.int))) ⟨af.new na,[],rfl,am⟩ (λj H4 _ h=>SqL.of (h.1 _ _ HQ)) ?_ ?_ fE dW ?_
   .rintro j x H4 hj ⟨s4,ns,HF,Gr⟩;rw[AF] at hj;obtain⟨w0,Jp,rfl⟩:=AY.mp hj;have nl:=m4 HF;rw[Ao] at nl;refine fF ?_;refine⟨_,rfl,w0,3,rfl,fw _ (Aa Jp),.inr (.inr rfl),?_⟩;cases hn:ntF 3 w0 with
    |none=>exact .inr ⟨m6 hn,λH' s'=>ke (mY Jp hn) H' ((s1.trans s4).trans s')⟩
    |some n=>
     refine .inl ⟨n,m5 hn,λH5 s5=>⟨acc,_,_,rfl,rfl,s5 _ _ Gr,bt (by rw[A3];lia),(s4.trans s5).put na,ns++[n],?_,by rw[am,AO];rfl⟩⟩;rw[Af,Jp];exact mZ hn HF
   .rintro H4 ⟨s4,ns,HF,Gr⟩;rw[A3,Az] at HF;exact kk ns HF acc H4 (s1.trans s4) KL Gr
   .rintro σ H R R' k ⟨v1,e1,z1,m1,e2,f1,hm,h⟩;exact⟨v1,e1,z1,m1,e2,f1,hm,h.imp (λGB=>by obtain⟨n,hk,h⟩:=GB;exact⟨n,hk,λH' s'=>k _ _ (h H' s')⟩) λh=>h⟩
theorem FU:FnOk P w K mg base (CX1 P w) 4 T.f42 T.d42 ["sort","word"] (spRTh T.c_NoText):=by
 refine T.X42.F.okx zy (λvs H Q E h=>?_) (λGu A outer s H vs Q E hr h hR hp=>?_)
 .obtain⟨_,_,rfl,_⟩:=h;rfl
 .obtain⟨g,z,rfl,fz,kk,ke⟩:=h;refine⟨_,(ai (al (iB (az aI (pv 0) aq (aw _)) (aA (FT T) (hr.mono (by decide)) (by rfl) T.X41.m T.X41.F.kp T.X41.B .nil hp (aa (pv 1) ae)) (aA (t7 T) (hr.mono (by decide)) (by rfl) T.X40.m T.X40.F.kp T.X40.B .nil hp (aa (pv 1) ae))))),?_⟩;unfold tgF at kk ke;dsimp only at kk ke;have se:Str.ofString "e"=⟨#[101]⟩:=by ac_nf
  refine⟨_,rfl,rfl,_,rfl,aF (λhn=>?_) (λhn=>?_)⟩
  .have hg:g=101:=by
    have e:=V.str.inj hn;rw[se] at e;injection e with e;simpa using e
   rw[A9 hg] at kk ke;refine⟨_,rfl,z,rfl,fz,λns HF l H1 s1 nl hl=>?_,λhn H1 s1=>?_⟩
   .rw[HF] at kk;exact kk _ rfl _ H1 s1 (E9 (by rw[dZ nl];exact hl))
   .rw[hn] at ke;exact ke rfl H1 s1
  .have hg:g≠101:=λe=>hn (by rw[e,se]);rw[A6 hg] at kk ke;refine⟨_,rfl,z,rfl,fz,λn HF H1 s1=>?_,λhn H1 s1=>?_⟩
   .rw[HF] at kk;exact kk _ rfl _ H1 s1 dj
   .rw[hn] at ke;exact ke rfl H1 s1
theorem FV:FnOk P w K mg base (CX1 P w) 4 T.f43 T.d43 ["words"] (spRMk T.c_NoText):=by
 refine T.X43.F.okx zA (λvs H Q E h=>?_) (λGu A outer s H vs Q E hr h hR hp=>?_)
 .obtain⟨_,_,rfl,_⟩:=h;rfl
 .obtain⟨a,ws,rfl,ha,fw,wl,fj,kk,ke⟩:=h;refine⟨_,(ah (ay (az (y7 hr) (fq iK (pv 0) (eE ag) (eE ag)) (bX (aa aq ae)) (aw _)) (ai (c9 hR (by rfl) T.m_NoText T.x_NoText rfl (aa aq ae))) ax)
   (ai (al (bX (aa (aA (t7 T) (hr.mono (by decide)) (by rfl) T.X40.m T.X40.F.kp T.X40.B .nil hp (aa (aE bp (pv 0) ag (λ_ _=>rfl)) ae)) (aa (aA (FR T) (hr.mono (by decide)) (by rfl) T.X39.m T.X39.F.kp T.X39.B .nil hp (aa (cu B4 PySem.F.slot_str_join PySem.F.type_str_join xu aq (aa (fq iK (pv 0) (eE ag) fZ) ae)) ae)) ae)))))),?_⟩
  have sz:=cX;unfold rmF m7 at kk ke;have jl:((ws.drop 3).map (·.length)).sum+(ws.drop 3).length*(Str.ofString " ").length<=16777216:=by
   have b:∀vs:KW Str,(∀w∈vs,Fit 100 w)->(vs.map (·.length)).sum<=100*vs.length:=by
    intro vs;induction vs with
    |nil=>intro _;decide
    |cons v vs ih=>
     intro h;have h1:=(h v (by simp)).1;have h2:=ih λw hw=>h w (by simp[hw]);rw[AM,B5,AN];lia
   have:=b (ws.drop 3) λw hw=>fw w (CI hw);have:(ws.drop 3).length<=101:=by rw[CN];lia
   rw[fQ];lia
  refine⟨_,rfl,2,rfl,3,rfl,a,_,rfl,SqL.of ha,λq nq=>⟨(zB rfl),λq2 H2 n2 s2 h2=>?_⟩⟩;have JC:af H H2:=(af.new nq).trans s2;have hq:H2 q=some (.lst (((ws.drop 2).take 1).map V.str)):=s2 _ _ (by
   rw[am,show bh (ws.map V.str) (some 2) (some 3)=((ws.map V.str).drop 2).take 1 from Fd (i:=2),List.map_take,List.map_drop])
  refine⟨q,q2,(ws.drop 2).take 1,[Str.ofString ":"],rfl,rfl,SqL.of hq,SqL.of h2,_,rfl,ci (λc=>?_) (λc=>?_)⟩
  .rw[A6 c] at ke;exact⟨by decide,ke rfl H2 JC⟩
  .rw[A9 c] at kk ke;have l3:2<ws.length:=by
    have:=Ah List.length c;rw[Ao,CN] at this;simp only[AN,List.length_nil] at this;lia
   have g1:ws.getD 1 Str.empty=ws[1]:=by rw[A7,A1 (by lia)];rfl
   rw[g1] at kk ke;have ha2:=JC _ _ ha;refine⟨_,rfl,a,_,1,.str ws[1],rfl,rfl,SqL.of ha2,aW (j:=1) rfl (by rw[AF,A1 (by lia)];rfl),ws[1],rfl,fw _ (List.getElem_mem _),λn hn H3 s3=>?_,λhn H3 s3=>?_⟩
   rotate_left 1
   .rw[hn] at ke;exact ke rfl H3 (JC.trans s3)
   rw[hn] at kk ke;have ha3:=s3 _ _ ha2;refine⟨rfl,_,rfl,3,rfl,a,_,rfl,SqL.of ha3,λq3 nq3=>?_⟩;have s4:af H3 (upd H3 q3 (.lst (bh (ws.map V.str) (some 3) none))):=af.new nq3;have h3:upd H3 q3 (.lst (bh (ws.map V.str) (some 3) none)) q3=some (.lst ((ws.drop 3).map V.str)):=by
    rw[am,show bh (ws.map V.str) (some 3) none=(ws.map V.str).drop 3 from tJ (i:=3),List.map_drop]
   generalize upd H3 q3 (.lst (bh (ws.map V.str) (some 3) none))=H4 at s4 h3⊢;have s04:=(JC.trans s3).trans s4;refine⟨Str.ofString " ",q3,ws.drop 3,rfl,rfl,SqL.of h3,jl,_,rfl,fj,?_⟩;cases hd:dF (Txt.join (Str.ofString " ") (ws.drop 3)) with
   |none=>
    rw[hd] at ke;exact .inr ⟨DV hd,λH5 s5=>ke rfl H5 (s04.trans s5)⟩
   |some ps=>
    rw[hd] at kk;refine .inl ⟨ps,sM hd,λl H5 s5 hl=>⟨(zB rfl),λr H6 n6 s6 hr6=>?_⟩⟩;exact kk _ rfl r H6 ((s04.trans s5).trans s6) (ba hr6 (aT dj (aT (hl.mono s6) aM)))
theorem FW:FnOk P w K mg base (CX1 P w) 5 T.f44 T.d44 ["row"] (spRRw T.c_NoText):=by
 refine T.X44.F.okz mo (λvs H Q E h=>?_) (λGu A outer s H vs Q E hr h hR hp hF hM=>?_)
 .obtain⟨_,rfl,_⟩:=h;rfl
 .obtain⟨t,rfl,ft,kk,ke⟩:=h;refine⟨_,(ah (pSA (i:=1) mo.nd (cu B4 C3 C2 g7 (pv 0) (aa aq ae)))
   (ah (pSA (i:=2) mo.nd (aE bp (pv 1) ag (λ_ _=>rfl)))
   (ah (ay (az aI (pv 2) aq (aw _)) (ai (al (c8 (aa (pv 2) (aa (aA (FV T) (hr.mono (by decide)) (by rfl) T.X43.m T.X43.F.kp T.X43.B .nil hp (aa (pv 1) ae)) ae))))) ax)
   (ah (ay (df (uC (yX (pv 2) (cO (v:= .ref T.a_FORMS) (by rfl) T.m_FORMS (by rfl))) rfl) (eB (az ff (aZ f' (by rfl) T.n_len boot_len (aa (pv 1) ae)) (aj aV (aZ oN (by rfl) T.n_len boot_len (aa (qW (cO (v:= .ref T.a_FORMS) (by rfl) T.m_FORMS (by rfl)) (pv 2) (λ_ _=>rfl)) ae)) ag) (aw _)))).pt (ai (c9 hR (by rfl) T.m_NoText T.x_NoText rfl (aa aq ae))) ax)
   (ai (al (c8 (aa (pv 2) (aa (qT hF hM (XN:=["row","words","name"]) (sc:=ak ig) (N:=["sort","word"]) (own:=2) (js:=[]) rfl (by ac_nf) rfl rfl (yR (by rfl) T.n_zip (aa (qW (cO (v:= .ref T.a_FORMS) (by rfl) T.m_FORMS (by rfl)) (pv 2) (λ_ _=>rfl)) (aa (fq iK (pv 1) (eE ag) fZ) ae))) (λ_ _ _ _ _=>(lN (K:=K) rfl rfl (bG (cK (i:=0) (show List.Nodup (["sort","word"]:KW Str) by ac_nf) rfl (Or.inl rfl) (.inr rfl)) (bG (cK (i:=1) (show List.Nodup (["sort","word"]:KW Str) by ac_nf) rfl (Or.inl rfl) (.inr rfl)) dy)))) lL (λ_ _ _ _ _=>dS) (λ_ _ _ _ _ hp=>(aA (FU T) (hr.mono (by decide)) (by rfl) T.X42.m T.X42.F.kp T.X42.B .nil hp (aa (pv 0) (aa (pv 1) ae))))) ae))))))))),?_⟩
  have sz:=cX;have sp1:0<(Str.ofString " ").length:=by rw[fQ];decide
  have sl:=iw (c:=32) ft;have fw:∀v∈Txt.split t (Str.ofString " "),Fit 100 v:=λv hv=>by rw[dM] at hv;exact fR ft hv
  rw[<-dM] at sl;refine⟨_,rfl,rfl,_,_,rfl,rfl,sp1,by have:=ft.1;lia,by lia,λwl H1 n1 s1 HQ=>?_⟩;obtain⟨nm,r,hs⟩:∃nm r,Txt.split t (Str.ofString " ")=nm::r:=by
   have:=iu t 32;rw[<-dM] at this
   match Txt.split t (Str.ofString " "),this with
   |[],h=>exact absurd rfl h
   |a::r,_=>exact⟨a,r,rfl⟩
  have fj:Fit 100 (Txt.join (Str.ofString " ") ((nm::r).drop 3)):=Fj ft hs;unfold rrF at kk ke;rw[hs] at HQ kk ke sl fw;dsimp only at kk ke;have lr:r.length<=100:=by rw[AN] at sl;lia
  refine⟨_,rfl,wl,_,0,.str nm,rfl,rfl,SqL.of HQ,aW (j:=0) rfl rfl,?_⟩;refine⟨_,rfl,rfl,_,rfl,aF (λhn=>?_) (λhn=>?_)⟩
  .have hn:=V.str.inj hn;rw[A9 hn] at kk ke;refine⟨_,rfl,_,rfl,wl,nm::r,rfl,HQ,fw,by rw[AN];lia,fj,λts Jy l H2 s2 hl=>⟨(zB rfl),λp H3 n3 s3 hp=>?_⟩,λIv H2 s2=>?_⟩
   .rw[Jy] at kk;exact kk nm ts rfl p l H3 ((s1.trans s2).trans s3) hp (hl.mono s3)
   .rw[Iv] at ke;exact ke rfl H2 (s1.trans s2)
  .have hn:nm≠Str.ofString "markings":=λe=>hn (Ah V.str e);rw[A6 hn] at kk ke;refine⟨_,rfl,T.a_FORMS,e9,nm,rfl,T.D_FORMS,rfl,?_⟩;cases hf:e9.lookup nm with
   |none=>
    rw[hf] at ke;exact⟨true,rfl,aN ⟨by decide,ke rfl H1 s1⟩⟩
   |some s0=>
    rw[hf] at kk ke;dsimp only at kk ke;have ls:s0.length<=9/\s0.cps.all (· <128)=true:=Fi hf;refine⟨false,rfl,aH ⟨_,rfl,wl,_,rfl,.inl (SqL.of HQ),_,rfl,T.a_FORMS,e9,nm,s0,rfl,T.D_FORMS,rfl,hf,s0,rfl,by lia,_,_,rfl,rfl,rfl,_,rfl,gX (λhl=>?_) (λhl=>?_)⟩⟩
    .rw[A6 (by rw[A3,AN] at hl;lia)] at ke;exact⟨by decide,ke rfl H1 s1⟩
    have hl:r.length=s0.length:=by rw[A3,AN] at hl;lia
    rw[A9 hl] at kk ke;refine⟨_,rfl,_,rfl,T.a_FORMS,e9,nm,s0,rfl,T.D_FORMS,rfl,hf,_,rfl,1,rfl,wl,_,rfl,SqL.of HQ,λq nq=>?_⟩;have s2:af H1 (upd H1 q (.lst (bh ((nm::r).map V.str) (some 1) none))):=af.new nq;have hq:upd H1 q (.lst (bh ((nm::r).map V.str) (some 1) none)) q=some (.lst (r.map V.str)):=by
     rw[am,show bh ((nm::r).map V.str) (some 1) none=((nm::r).map V.str).drop 1 from tJ (i:=1)];rfl
    generalize upd H1 q (.lst (bh ((nm::r).map V.str) (some 1) none))=H2 at s2 hq⊢;refine⟨s0,q,rfl,ls.2,⟨_,SqL.of hq⟩,λacc na=>?_⟩;have KL:H acc=none:=(s1.trans s2).free na;have zl:(s0.cps.toList.zip r).length=s0.cps.size:=by
     rw[List.length_zip,AV,hl];exact Nat.min_self _
    refine yS (ys:=r.map V.str) (by rw[A3,hl];exact A8 _) (λj H4=>af H2 H4/\∃ts,bb tgF ((s0.cps.toList.zip r).take j)=some ts/\Acc H2 H4 acc (ts.map tgD)) ⟨af.new na,[],rfl,Acc.start am⟩ (λj H4 _ h=>SqL.of (h.1 _ _ hq)) ?_ ?_ lM dW ?_
    .rintro j c y H4 p hc hy ⟨s4,ts,Jy,vs,Gr,hi⟩ np;rw[AF] at hy;obtain⟨w0,hw0,rfl⟩:=AY.mp hy;have tl:=m4 Jy;rw[Ao] at tl;have vl:=hi.length;rw[A3] at vl;have hz:(s0.cps.toList.zip r)[j]? =some (c,w0):=by
      rw[List.getElem?_zip_eq_some];exact⟨by rw[B9];exact hc,hw0⟩
     have s5:af H4 (upd H4 p (.tup [.str ⟨#[c]⟩,.str w0])):=af.new np;refine⟨p,_,rfl,SqT.of am,rfl,_,_,rfl,_,_,rfl,rfl,?_⟩;generalize upd H4 p (.tup [.str ⟨#[c]⟩,.str w0])=H5 at s5⊢;refine⟨_,rfl,_,rfl,c,w0,rfl,fw _ (AU _ (Aa hw0)),λt1 ht1 v H6 s6 hv=>⟨acc,vs,_,rfl,rfl,s6 _ _ (s5 _ _ Gr),bt (by have:=ls.1;have:s0.length=s0.cps.size:=rfl;lia),((s4.trans s5).trans s6).put na,ts++[t1],?_,?_⟩,λIv H6 s6=>?_⟩
     .rw[Af,hz];exact mZ ht1 Jy
     .rw[AO];exact Acc.add (s4.trans s5) s6 (s5 _ _ Gr) (hi.mono (gd (im s5))) hv
     .rw[mY hz Iv] at ke;exact ke rfl H6 ((((s1.trans s2).trans s4).trans s5).trans s6)
    .rintro H4 ⟨s4,ts,Jy,g⟩;rw[Cj (by rw[zl];exact A8 _)] at Jy;rw[Jy] at kk;refine⟨(zB rfl),λp H5 n5 s5 hp=>?_⟩;exact kk nm ts rfl p acc H5 (((s1.trans s2).trans s4).trans s5) hp ((g.is na).mono dq|>.mono s5)
    .rintro σ H R R' k ⟨v1,e1,v2,e2,g,z,e3,f1,k1,k2⟩;exact⟨v1,e1,v2,e2,g,z,e3,f1,λt ht v H' s' hv=>k _ _ (k1 t ht v H' s' hv),k2⟩
theorem FX:FnOk P w K mg base (CX1 P w) 13 T.f45 T.d45 ["k"] (spPol T.c_NoBound):=by
 refine T.X45.F.okx rm (λvs H Q E h=>?_) (λGu A outer s H vs Q E hr h hR hp=>?_)
 .obtain⟨_,rfl,_⟩:=h;rfl
 .obtain⟨v,rfl,ht,hn,ke⟩:=h;refine⟨_,(ah (pSA (i:=1) rm.nd (pcq (FF T) hr T.X34 (aa (aA (FD T) (hr.mono (by decide)) (by rfl) T.X22.m T.X22.F.kp T.X22.B .nil hp (aa (pv 0) ae)) ae)))
   (ah bJ
   (ai bJ))),?_⟩
  exact⟨_,rfl,v,rfl,ht,hn,ke⟩
theorem FY:FnOk P w K mg base (CX1 P w) 13 T.f46 T.d46 ["d","k"] (spOut T.c_NoBound):=by
 refine T.X46.F.okx rn (λvs H Q E h=>?_) (λGu A outer s H vs Q E hr h hR hp=>?_)
 .obtain⟨_,_,rfl,_⟩:=h;rfl
 .obtain⟨v,u,rfl,ht,hu,hn,ke⟩:=h;refine⟨_,(ah (pSA (i:=2) rn.nd (aA (tS T) (hr.mono (by decide)) (by rfl) T.X12.m T.X12.F.kp T.X12.B .nil hp (aa (pv 0) (aa (pv 1) ae)))) (ah bJ (ah bJ (ai bJ)))),?_⟩;exact⟨_,rfl,_,rfl,v,u,rfl,ht,hu,λd k e1 e2 hW=>absurd ⟨d,k,e1,e2,hW⟩ hn,λ_=>ke⟩
theorem FZ:FnOk P w K mg base (CX1 P w) 13 T.f47 T.d47 ["d","drawing"] (spMkT T.c_NoBound T.c_NoDrawing):=by
 refine T.X47.F.okx zC (λvs H Q E h=>?_) (λGu A outer s H vs Q E hr h hR hp=>?_)
 .obtain⟨_,_,_,rfl,_⟩:=h;rfl
 .obtain⟨d,v,ps,rfl,hv,hok,h⟩:=h;refine⟨_,(ah (bd (aA (tQ T) (hr.mono (by decide)) (by rfl) T.X4.m T.X4.F.kp T.X4.B .nil hp (aa (pv 0) ae)))
   (ah (ay (cc (aZ (xh rfl) (by rfl) T.n_any boot_any (aa (fC (XN:=["d","drawing"]) (sc:=ak ii) (N:=["lift","d"]) (own:=1) (js:=[0]) rfl (by ac_nf) rfl rfl (cq (pv 1)) (λ_ _ _ _=>(cK (i:=0) (show List.Nodup (["lift","d"]:KW Str) by ac_nf) rfl (Or.inl rfl) (.inr rfl))) (fB (by decide)) (λ_ _ _ _=>dS) (λ_ _ _ _=>(dQ fk (aE cw (pv 0) ag (λ_ _=>rfl)) (pv 1) (aw _)))) ae))) (ai (c9 hR (by rfl) T.m_NoDrawing T.x_NoDrawing rfl (aa aq ae))) ax)
   (ai (al (bH bO (by rfl) T.n_str Bo (aa (aA (Fx T) (hr.mono (by decide)) (by rfl) T.X19.m T.X19.F.kp T.X19.B .nil hp (aa (pv 0) (aa (pv 1) ae))) ae)))))),?_⟩
  unfold maF at h;dsimp only at h;refine⟨_,rfl,.int d,rfl,aK.int,λ⟨i,ei,i1,i5⟩=>?_,λhn=>?_⟩
  .cases ei;rw[A9 ⟨i1,i5⟩] at h;obtain⟨n,rfl⟩:=AK (show 0<=d by lia);obtain⟨da,GG,rfl,Ij,HR⟩:=aP hv;have Jb:GG.length=ps.length:=by rw[HR.length,A3]
   have small:ps.length<=40:=by
    by_cases c:ps.length<=40
    .exact c
    .rw[A6 c] at h;rcases h with⟨h,_⟩|⟨h,_⟩<;>cases h
   rw[A9 small] at h;refine⟨_,rfl,da,rfl,⟨_,SqL.of Ij⟩,λacc na=>?_⟩;refine fD (xs:=GG) (own:=1) (js:=[0]) (λi H3=>af H H3/\H3 acc=some (.lst (((ps.take i).map λp:Lf=>decide ((n:Int)<p.2.1)).map V.bl))) ⟨af.new na,am⟩ (λi H3 _ h=>SqL.of (h.1 _ _ Ij)) ?_ ?_ fE dW ?_
   .rintro i x H3 hi ⟨s3,Gr⟩;obtain⟨p,G2,hy⟩:=cj HR hi;have il:i<ps.length:=(AJ.mp G2).1;have Ky:Is H3 (lf p) x:=hy.mono s3;refine fF ?_;refine⟨_,rfl,_,1,_,Ky,rfl,rfl,λu hu=>?_⟩;obtain rfl:=aS hu;refine⟨_,rfl,_,_,rfl,rfl,acc,_,_,rfl,rfl,Gr,bt (by rw[A3,A3,Ao];lia),s3.put na,?_⟩;rw[am,Af,G2,AO,AO];rfl
   .rintro H3 ⟨s3,Gr⟩;rw[Jb,Az] at Gr;refine⟨acc,_,rfl,SqL.of Gr,_,rfl,?_⟩;have ea:((ps.map λp:Lf=>decide ((n:Int)<p.2.1)).any id)=ps.any (λp=>decide (p.2.1>(n:Int))):=by
     rw[List.any_map];rfl
    rw[ea];cases e:ps.any (λp=>decide (p.2.1>(n:Int))) with
    |true=>
     rw[e] at h;simp only[Bh] at h;rcases h with⟨h,_⟩|⟨_,ke⟩
     .cases h
     .exact aN ⟨by decide,ke H3 s3⟩
    |false=>
     rw[e] at h;simp only[AI,At] at h;have okl:∀p∈ps,Okl n p:=λp hp=>by
      have a:=hok p hp;unfold OkL at a;have b:¬(p.2.1>(n:Int)):=λhb=>by
       have:=List.any_eq_false.mp e p hp;simp only[Aj] at this;exact this hb
      unfold Okl;lia
     by_cases c:eK (bi ((n:Int).toNat) ps)<0
     .rw[A9 c] at h;rcases h with⟨h,_⟩|⟨_,ke⟩
      .cases h
      .refine aH ⟨_,rfl,_,rfl,n,_,ps,rfl,by lia,by lia,ba (s3 _ _ Ij) (HR.mono s3),okl,c,λH4 s4=>ke H4 (s3.trans s4)⟩
     .rw[A6 c] at h;rcases h with⟨h,_⟩|⟨h,_⟩<;>cases h
   .rintro σ H R R' k ⟨v1,e1,xs,i,d,h1,e2,e3,h⟩;exact⟨v1,e1,xs,i,d,h1,e2,e3,λu hu=>let ⟨v2,e4,i1,i2,e5,e6,q⟩:=h u hu;⟨v2,e4,i1,i2,e5,e6,k _ _ q⟩⟩
  .rw[A6 (λhh=>hn ⟨d,rfl,hh.1,hh.2⟩)] at h;rcases h with⟨_,ke⟩|⟨h,_⟩
   .exact ke H (af.refl _)
   .cases h
theorem F':FnOk P w K mg base (CX1 P w) 14 T.f48 T.d48 ["name","d","k"] (spTolP T.c_NoBound T.c_NoEnds T.c_NoDrawing):=by
 refine T.X48.F.okx zD (λvs H Q E h=>?_) (λGu A outer s H vs Q E hr h hR hp=>?_)
 .obtain⟨_,_,_,rfl,_⟩:=h;rfl
 .obtain⟨nm,d,k,rfl,hk,t1,t2,t3,t4,t5⟩:=h;refine⟨_,(ah (ay (az aI (pv 0) aq (aw _)) (ai (al (bH bO (by rfl) T.n_str Bo (aa (aA (Fz T) (hr.mono (by decide)) (by rfl) T.X20.m T.X20.F.kp T.X20.B .nil hp (aa (pv 1) (aa (pv 2) ae))) ae)))) ax)
   (ah (ay (az aI (pv 0) aq (aw _)) (ai (al (bH bO (by rfl) T.n_str Bo (aa (aA (FA T) (hr.mono (by decide)) (by rfl) T.X21.m T.X21.F.kp T.X21.B .nil hp (aa (pv 1) (aa (pv 2) ae))) ae)))) ax)
   (ah (ay (az aI (pv 0) aq (aw _)) (ai (al (bH bO (by rfl) T.n_str Bo (aa (aA (FC T) (hr.mono (by decide)) (by rfl) T.X29.m T.X29.F.kp T.X29.B .nil hp (aa (pv 1) (aa (pv 2) ae))) ae)))) ax)
   (ah (ay (az aI (pv 0) aq (aw _)) (ai (al (pcq (FG T) hr T.X35 (aa (aA (FB T) (hr.mono (by decide)) (by rfl) T.X30.m T.X30.F.kp T.X30.B .nil hp (aa (pv 1) (aa (pv 2) ae))) ae)))) ax)
   (ai (al (aA (FY T) (hr.mono (by decide)) (by rfl) T.X46.m T.X46.F.kp T.X46.B .nil hp (aa (pv 1) (aa (pv 2) ae))))))))),?_⟩
  have hw:cN d k=false->¬Wd (.int d) (.int k):=tK;have hn:kK d k=false->¬Nr (.int d) (.int k):=λhw Hv=>by
   obtain⟨a,b,e1,e2,hW⟩:=Hv;cases e1;cases e2;unfold kK at hw;unfold du at hW;simp only[Bool.and_eq_false_iff,Bool.or_eq_false_iff,decide_eq_false_iff_not] at hw;lia
  unfold prF at hk t1 t4;have Gw:(if cN d k=true then 8 else 1)<7->((if cN d k=true then 8 else 1)=1->∀H',af H H'->E (.ref T.c_NoBound) none H')->¬Wd (.int d) (.int k)/\E (.ref T.c_NoBound) none H:=λa b=>by
   cases c:cN d k with
   |true=>
    rw[c] at a;exact absurd a (by decide)
   |false=>
    rw[c] at b;exact⟨hw c,b rfl H (af.refl _)⟩
  refine⟨_,rfl,rfl,_,rfl,aF (λe=>?_) (λe=>?_)⟩
  .rw[A9 (V.str.inj e)] at hk t1 t4;by_cases c:d=2/\k=1
   .rw[A9 c] at t4;obtain⟨rfl,rfl⟩:=c;exact⟨_,rfl,_,rfl,_,_,rfl,aK.int,aK.int,.inl ⟨rfl,rfl,λH1 s1=>⟨3,rfl,by decide,t4 rfl H1 s1⟩⟩⟩
   .rw[A6 c] at hk t1;exact⟨_,rfl,_,rfl,_,_,rfl,aK.int,aK.int,.inr (Gw hk t1)⟩
  rw[A6 (λz=>e (Ah V.str z))] at hk t1;clear t2 t3 t4 t5;refine⟨_,rfl,rfl,_,rfl,aF (λe=>?_) (λe=>?_)⟩
  .rw[A9 (V.str.inj e)] at hk t1;exact⟨_,rfl,_,rfl,_,_,rfl,aK.int,aK.int,(Gw hk t1).1,(Gw hk t1).2⟩
  rw[A6 (λz=>e (Ah V.str z))] at hk t1;refine⟨_,rfl,rfl,_,rfl,aF (λe=>?_) (λe=>?_)⟩
  .rw[A9 (V.str.inj e)] at hk t1;cases c:kK d k with
   |true=>
    rw[c] at hk;exact absurd hk (by decide)
   |false=>
    rw[c] at t1;exact⟨_,rfl,_,rfl,_,_,rfl,aK.int,aK.int,hn c,t1 rfl H (af.refl _)⟩
  rw[A6 (λz=>e (Ah V.str z))] at hk t1;refine⟨_,rfl,rfl,_,rfl,aF (λe=>?_) (λe=>?_)⟩
  .rw[A9 (V.str.inj e)] at hk t1;exact⟨_,rfl,_,rfl,_,_,rfl,aK.int,aK.int,(Gw hk t1).1,(Gw hk t1).2⟩
  rw[A6 (λz=>e (Ah V.str z))] at hk t1;by_cases e:nm=Str.ofString "drawings"
  .rw[A9 e] at hk t1;exact⟨_,rfl,_,rfl,_,_,rfl,aK.int,aK.int,(Gw hk t1).1,(Gw hk t1).2⟩
  .rw[A6 e] at hk;exact absurd hk (by decide)
theorem Ga:FnOk P w K mg base (CX1 P w) 15 T.f49 T.d49 ["name","things"] (spTol T.c_NoBound T.c_NoEnds T.c_NoDrawing):=by
 refine T.X49.F.okx zE (λvs H Q E h=>?_) (λGu A outer s H vs Q E hr h hR hp=>?_)
 .obtain⟨_,_,_,rfl,_⟩:=h;rfl
 .obtain⟨nm,l,ts,rfl,hl,hok,hrw,hk,t1,t2,t3,t4,t5⟩:=h;refine⟨_,(ah (ay (az aI (pv 0) aq (aw _)) (ai (al (bH bO (by rfl) T.n_str Bo (aa (aA (FO T) (hr.mono (by decide)) (by rfl) T.X32.m T.X32.F.kp T.X32.B .nil hp (aa (aE bp (pv 1) ag (λ_ _=>rfl)) ae)) ae)))) ax)
   (ah (ay (az aI (pv 0) aq (aw _)) (ai (al (aA (FX T) (hr.mono (by decide)) (by rfl) T.X45.m T.X45.F.kp T.X45.B .nil hp (aa (aE bp (pv 1) ag (λ_ _=>rfl)) ae)))) ax)
   (ah (ay (az aI (pv 0) aq (aw _)) (ai (al (aA (FZ T) (hr.mono (by decide)) (by rfl) T.X47.m T.X47.F.kp T.X47.B .nil hp (aa (aE bp (pv 1) ag (λ_ _=>rfl)) (aa (aE bp (pv 1) ag (λ_ _=>rfl)) ae))))) ax)
   (ah (ay (az aI (pv 0) aq (aw _)) (ai (al (bH bO (by rfl) T.n_str Bo (aa (aA (FM T) (hr.mono (by decide)) (by rfl) T.X28.m T.X28.F.kp T.X28.B .nil hp (aa (aE bp (pv 1) ag (λ_ _=>rfl)) (aa (aE bp (pv 1) ag (λ_ _=>rfl)) (aa (aE bp (pv 1) ag (λ_ _=>rfl)) (aa (aE bp (pv 1) ag (λ_ _=>rfl)) ae))))) ae)))) ax)
   (ai (al (aA (F' T) (hr.mono (by decide)) (by rfl) T.X48.m T.X48.F.kp T.X48.B .nil hp (aa (pv 0) (aa (aE bp (pv 1) ag (λ_ _=>rfl)) (aa (aE bp (pv 1) ag (λ_ _=>rfl)) ae)))))))))),?_⟩
  obtain⟨_,vs,e,Ia,GN⟩:=aP hl;cases e;unfold kdF at hk t1 t2 t3 t4 t5;refine⟨_,rfl,rfl,_,rfl,aF (λe=>?_) (λe=>?_)⟩
  .rw[A9 (V.str.inj e)] at hk t1 t5;obtain⟨a,rfl⟩:=DW hk;obtain⟨u,us,rfl,hu,GN⟩:=aU GN;obtain rfl:=bP GN;obtain rfl:=aS hu;unfold frF at hk t1 t5;dsimp only at hk t1 t5;refine⟨_,rfl,l,_,0,.int a,rfl,rfl,SqL.of Ia,aW (j:=0) rfl rfl,.int a,rfl,aK.int,λn en n1 n8 H1 s1=>?_,λhn=>?_⟩
   .cases en;have:n=3:=by
     by_cases c:(n:Int)=3
     .lia
     .rw[A6 c,A9 (by lia)] at hk;exact absurd hk (by decide)
    subst this;exact⟨12,rfl,by decide,t5 rfl H1 s1⟩
   .have c:¬(1<=a/\a<=8):=λc=>hn ⟨a,rfl,c.1,c.2⟩;rw[A6 (by lia),A6 c] at t1;exact t1 rfl H (af.refl _)
  rw[A6 (λz=>e (Ah V.str z))] at hk t1 t2 t3 t4 t5;refine⟨_,rfl,rfl,_,rfl,aF (λe=>?_) (λe=>?_)⟩
  .rw[A9 (V.str.inj e)] at hk t1;obtain⟨a,rfl⟩:=DX hk;obtain⟨u,us,rfl,hu,GN⟩:=aU GN;obtain rfl:=bP GN;obtain rfl:=aS hu;unfold poF at hk t1;dsimp only at hk t1;have c:¬(0<=a/\a<=3):=λc=>by
    rw[A9 c] at hk;exact absurd hk (by decide)
   rw[A6 c] at t1;exact⟨_,rfl,l,_,0,.int a,rfl,rfl,SqL.of Ia,aW (j:=0) rfl rfl,.int a,rfl,aK.int,λ⟨i,ei,h1,h2⟩=>by cases ei;exact c ⟨h1,h2⟩,t1 rfl H (af.refl _)⟩
  rw[A6 (λz=>e (Ah V.str z))] at hk t1 t2 t3 t4 t5;refine⟨_,rfl,rfl,_,rfl,aF (λe=>?_) (λe=>?_)⟩
  .rw[A9 (V.str.inj e)] at hk t1 t3;obtain⟨a,ps,rfl⟩:=DY hk;obtain⟨u,us,rfl,hu,GN⟩:=aU GN;obtain⟨u2,us,rfl,HZ,GN⟩:=aU GN;obtain rfl:=bP GN;obtain rfl:=aS hu;refine⟨_,rfl,l,_,0,.int a,rfl,rfl,SqL.of Ia,aW (j:=0) rfl rfl,_,rfl,l,_,1,u2,rfl,rfl,SqL.of Ia,aW (j:=1) rfl rfl,a,u2,ps,rfl,HZ,hok ps (by simp),?_⟩;have:maF [.n a,.m ps]=1\/maF [.n a,.m ps]=3:=by
    unfold maF at hk⊢;dsimp only at hk⊢;split at hk
    .rename_i c1;rw[A9 c1];split at hk
     .rename_i c2;rw[A9 c2];split at hk
      .rename_i c3;exact .inr (A9 c3)
      .rename_i c3;rw[A6 c3];split at hk
       .rename_i c4;exact .inr (A9 c4)
       .exact absurd hk (by decide)
     .exact absurd hk (by decide)
    .rename_i c1;exact .inl (A6 c1)
   rcases this with h|h
   .exact .inl ⟨h,t1 h⟩
   .exact .inr ⟨h,t3 h⟩
  rw[A6 (λz=>e (Ah V.str z))] at hk t1 t2 t3 t4 t5;refine⟨_,rfl,rfl,_,rfl,aF (λe=>?_) (λe=>?_)⟩
  .rw[A9 (V.str.inj e)] at hk t1 t2;obtain⟨d,k,a,b,rfl⟩:=DZ hk;obtain⟨u,us,rfl,hu,GN⟩:=aU GN;obtain⟨u2,us,rfl,HZ,GN⟩:=aU GN;obtain⟨u3,us,rfl,hu3,GN⟩:=aU GN;obtain⟨u4,us,rfl,hu4,GN⟩:=aU GN;obtain rfl:=bP GN;obtain rfl:=aS hu;obtain rfl:=aS HZ;unfold enF at hk t1 t2;dsimp only at hk t1 t2;refine⟨_,rfl,l,_,0,.int d,rfl,rfl,SqL.of Ia,aW (j:=0) rfl rfl,_,rfl,l,_,1,.int k,rfl,rfl,SqL.of Ia,aW (j:=1) rfl rfl,_,rfl,l,_,2,u3,rfl,rfl,SqL.of Ia,aW (j:=2) rfl rfl,_,rfl,l,_,3,u4,rfl,rfl,SqL.of Ia,aW (j:=3) rfl rfl,d,k,u3,u4,rfl,?_⟩;cases c:cN d k with
   |false=>
    rw[c] at t1;exact .inl ⟨tK c,t1 rfl H (af.refl _)⟩
   |true=>
    rw[c] at hk t2;simp only[Bh] at hk t2;cases c2:kL d a b with
    |false=>
     rw[c2] at hk;exact absurd hk (by decide)
    |true=>
     rw[c2] at t2;exact .inr ⟨Fe c,Ff c2 hu3 hu4,t2 rfl⟩
  rw[A6 (λz=>e (Ah V.str z))] at hk t1 t2 t3 t4 t5;rw[A6 hrw] at hk t1 t2 t3 t4 t5;obtain⟨d,k,rfl⟩:=Ea hk;obtain⟨u,us,rfl,hu,GN⟩:=aU GN;obtain⟨u2,us,rfl,HZ,GN⟩:=aU GN;obtain rfl:=bP GN;obtain rfl:=aS hu;obtain rfl:=aS HZ;exact⟨_,rfl,_,rfl,l,_,0,.int d,rfl,rfl,SqL.of Ia,aW (j:=0) rfl rfl,_,rfl,l,_,1,.int k,rfl,rfl,SqL.of Ia,aW (j:=1) rfl rfl,nm,d,k,rfl,hk,t1,t2,t3,t4,t5⟩
theorem Gb:FnOk P w K mg base (CX0) 1 T.f65 T.d65 ["self"] (spIni T.c_Desk):=by
 refine Fun.ok T.X65.F zK (λvs H Q E h=>?_) (λGu A outer s H vs Q E hr h=>?_)
 .obtain⟨_,_,rfl,_⟩:=h;rfl
 .obtain⟨a,dx,rfl,ha,kk⟩:=h;refine⟨_,(ai (vt (pv 0) ag rfl)),?_⟩;exact⟨_,rfl,a,T.c_Desk,dx,[],rfl,ha,T.cl_Desk,T.na_Desk_answered,by decide,kk⟩
theorem iz:FnOk P w K mg base (CX1 P w) 16 T.f66 T.d66 ["self","row"] (spSay T.c_Desk T.c_NoText T.c_NoBound T.c_NoEnds T.c_NoDrawing):=by
 refine T.X66.F.okx mr (λvs H Q E h=>?_) (λGu A outer s H vs Q E hr h hR hp=>?_)
 .obtain⟨_,_,_,rfl,_⟩:=h;rfl
 .obtain⟨a,t,n,rfl,⟨dx,ha⟩,n10,ft,ho,k0,k1,k2,k3,kk⟩:=h;refine⟨_,(ah (pSA (i:=2) mr.nd (aA (FW T) (hr.mono (by decide)) (by rfl) T.X44.m T.X44.F.kp T.X44.B .nil hp (aa (pv 1) ae)))
   (ah (pSA (i:=3) mr.nd (iB (az aI (aE iJ (pv 2) ag (λ_ _=>rfl)) aq (aw _)) (bH bO (by rfl) T.n_str Bo (aa (vq (pv 0) rfl) ae)) (aA (Ga T) (hr.mono (by decide)) (by rfl) T.X49.m T.X49.F.kp T.X49.B .nil hp (aa (aE iJ (pv 2) ag (λ_ _=>rfl)) (aa (aE iJ (pv 2) ag (λ_ _=>rfl)) ae)))))
   (ah (vv (pv 0) ag vw)
   (ai (al (pv 3)))))),?_⟩
  have fin:∀(x:Str) (H2:Hp),af H H2->(∀H',But a H H'->Dsk T.c_Desk H' a (n+1)->Q (.str x) H')->Q (.str x) (upd H2 a (.ins T.c_Desk dx [(Str.ofString "answered",.int ((n:Int)+1))])):=λx H2 s2 k=>k _ ((But.of_same s2).trans But.upd) ⟨dx,by rw[am];rfl⟩;refine⟨_,rfl,t,rfl,ft,λnm ts hrr p l H1 s1 hp1 hl=>?_,λIv H1 s1=>?_⟩
  rotate_left 1
  .exact k0 (by unfold cJ;rw[Iv]) H1 s1
  have eo:cJ t=kdF nm ts:=by unfold cJ;rw[hrr]
  rw[eo] at ho k1 k2 k3 kk;refine⟨_,rfl,p,_,0,.str nm,rfl,rfl,SqT.of hp1,aW (j:=0) rfl rfl,?_⟩;refine⟨rfl,_,rfl,aF (λe=>?_) (λe=>?_)⟩
  .have e:=V.str.inj e;have e6:kdF nm ts=6:=by
    rw[e];unfold kdF;rw[A6 (by ac_nf),A6 (by ac_nf),A6 (by ac_nf),A6 (by ac_nf),A9 rfl]
   rw[e6] at kk;have ha1:=s1 _ _ ha;refine⟨_,rfl,a,T.c_Desk,dx,_,_,rfl,ha1,T.cl_Desk,T.na_Desk_answered,rfl,n,rfl,(cY n (by lia)).2,?_⟩;refine⟨_,rfl,a,T.c_Desk,dx,_,_,rfl,ha1,T.cl_Desk,T.na_Desk_answered,rfl,_,_,rfl,rfl,dx,_,ha1,(by show 1<1000;decide),?_⟩;exact⟨_,rfl,fin (nS n) H1 s1 λH' b d=>kk (by decide) H' b d⟩
  .have e':nm≠Str.ofString "rows":=λz=>e (Ah V.str z);refine⟨_,rfl,p,_,0,.str nm,rfl,rfl,SqT.of hp1,aW (j:=0) rfl rfl,_,rfl,p,_,1,.ref l,rfl,rfl,SqT.of hp1,aW (j:=1) rfl rfl,nm,l,ts,rfl,hl,λps hm=>Eb hrr hm,e',ho,λh H2 s2=>k1 h H2 (s1.trans s2),λh H2 s2=>k2 h H2 (s1.trans s2),λh H2 s2=>k3 h H2 (s1.trans s2),λh H2 s2=>?_,λh H2 s2=>?_⟩;all_goals
    have ha2:=(s1.trans s2) _ _ ha;rw[h] at kk;refine⟨_,rfl,a,T.c_Desk,dx,_,_,rfl,ha2,T.cl_Desk,T.na_Desk_answered,rfl,_,_,rfl,rfl,dx,_,ha2,(by show 1<1000;decide),_,rfl,fin _ H2 (s1.trans s2) λH' b d=>kk (by decide) H' b d⟩
theorem bV:OKQ T.X53 P w base 2 spPick:=by
 refine FbO T.X53 zG λ_ _ _ _ H vs Q E hr h=>?_;obtain⟨b,l,z,xs,rfl,hb,hl,l1,l2,kk⟩:=h;refine⟨_,(ai (al (aE bp (pv 1) (pcq (cm T) hr T.X52 (aa (pv 0) (aa (aZ f' (by rfl) T.n_len boot_len (aa (pv 1) ae)) ae))) (λ_ _=>rfl)))),?_⟩;have lb:l≠b:=by
  rintro rfl;rw[hb.1] at hl
  match xs,l1 with
  |x::r,_=>cases hl
 refine⟨_,rfl,_,rfl,_,rfl,l,_,rfl,.inl (SqL.of hl),b,_,z,rfl,hb.1,hb.2,by rw[A3];lia,by rw[A3];lia,λy z' y0 y1 z0=>?_⟩;rw[A3] at y1;obtain⟨j,rfl⟩:=AK y0;have hj:j<xs.length:=by lia
 exact⟨l,_,j,.str xs[j],rfl,rfl,SqL.of (by rw[au lb];exact hl),aW (j:=j) rfl (by rw[AF,A1 hj];rfl),kk _ (List.getElem_mem hj) z' _ But.upd ⟨am,z0⟩⟩
theorem b9{z:Int}{H1:Hp}{Q:VK}{E:XK}(L:KW Str)(hb:bN H b z)(nl:H l=none)(e:H1=upd H l (.lst (L.map V.str)))(l1:1<=L.length)(l2:L.length<=20)(k:∀u∈L,∀z' H',But b H H'->bN H' b z'->Q (.str u) H'):spPick [.ref b,.ref l] H1 Q E:=by
 subst e;have lb:l≠b:=by
  rintro rfl;rw[hb.1] at nl;cases nl
 exact⟨b,l,z,L,rfl,⟨by rw[au lb.symm];exact hb.1,hb.2⟩,am,l1,l2,λu hu z' H' G3 r=>k u hu z' H' ((But.of_same (af.new nl)).trans G3) r⟩
theorem nz:OKQ T.X54 P w base 3 (spTx fS):=by
 refine FbO T.X54 zH λ_ _ _ _ H vs Q E hr h=>?_;obtain⟨b,z,rfl,hb,kk⟩:=h;obtain⟨l0,p0,Hj,Hu⟩:∃(l0:KW KY) (p0:Pos),bu l0=some [Str.ofString "+1",Str.ofString "01",Str.ofString "-0",Str.ofString "1000",Str.ofString "-1000",Str.ofString "a",Str.ofString "",Str.ofString "1.",Str.ofString "--1",Str.ofString "-",Str.ofString "1-",Str.ofString "00",Str.ofString "-01"]/\av eR=(bL [0,1] (av eR) (.List l0 p0)):=⟨bR (aJ [0,1] (av eR)),bS (aJ [0,1] (av eR)),by ac_nf,by kernel_rfl⟩;rw[Hu];have q0:=bT (p0:=p0) _ Hj (by decide);clear Hu Hj;refine⟨_,(ai (al (pcq (bV T) hr T.X53 (aa (pv 0) (aa (q0 _) ae))))),?_⟩;exact⟨_,rfl,λl nl=>b9 fS hb nl (by unfold fS;rfl) (by ac_nf) (by ac_nf) kk⟩
theorem nA:OKQ T.X55 P w base 3 (spTx dN):=by
 refine FbO T.X55 zI λ_ _ _ _ H vs Q E hr h=>?_;obtain⟨b,z,rfl,hb,kk⟩:=h;obtain⟨l0,p0,Hj,Hu⟩:∃(l0:KW KY) (p0:Pos),bu l0=some [Str.ofString "count",Str.ofString "whole",Str.ofString "ways",Str.ofString "shade",Str.ofString "drawings"]/\av eS=(bL [0,1] (av eS) (.List l0 p0)):=⟨bR (aJ [0,1] (av eS)),bS (aJ [0,1] (av eS)),by ac_nf,by kernel_rfl⟩;rw[Hu];have q0:=bT (p0:=p0) _ Hj (by decide);clear Hu Hj;refine⟨_,(ai (al (pcq (bV T) hr T.X53 (aa (pv 0) (aa (q0 _) ae))))),?_⟩;exact⟨_,rfl,λl nl=>b9 dN hb nl (by unfold dN;rfl) (by ac_nf) (by ac_nf) kk⟩
theorem ud:OKQ T.X56 P w base 3 (spTx fc):=by
 refine FbO T.X56 rq λ_ _ _ _ H vs Q E hr h=>?_;obtain⟨b,z,rfl,hb,kk⟩:=h;obtain⟨l0,p0,Hj,l1,p1,Jh,Hu⟩:∃(l0:KW KY) (p0:Pos),bu l0=some [Str.ofString "0",Str.ofString "6",Str.ofString "999",Str.ofString "-1",Str.ofString "-999",Str.ofString "7"]/\∃(l1:KW KY) (p1:Pos),bu l1=some [Str.ofString "7",Str.ofString "-1",Str.ofString "8",Str.ofString "999",Str.ofString "-999"]/\av dG=(bL [2,1,0,1,1] (bL [1,1,0,0,0,1] (av dG) (.List l0 p0)) (.List l1 p1)):=⟨bR (aJ [1,1,0,0,0,1] (av dG)),bS (aJ [1,1,0,0,0,1] (av dG)),by ac_nf,bR (aJ [2,1,0,1,1] (av dG)),bS (aJ [2,1,0,1,1] (av dG)),by ac_nf,by kernel_rfl⟩;rw[Hu];have q0:=bT (p0:=p0) _ Hj (by decide);have q1:=bT (p0:=p1) _ Jh (by decide);clear Hu Hj Jh;refine⟨_,(ah (pSA (i:=1) rq.nd (pcq (cm T) hr T.X52 (aa (pv 0) (aa ag ae))))
  (ah (ay (az aI (pv 1) ag (aw _)) (ai (al (aj aG (aj aG (pcq (bV T) hr T.X53 (aa (pv 0) (aa (q0 _) ae))) aq) (bH bO (by rfl) T.n_str Bo (aa (pcq (cm T) hr T.X52 (aa (pv 0) (aa ag ae))) ae))))) ax)
  (ah (ay (az aI (pv 1) ag (aw _)) (ai (al (aj aG (aj aG (bH bO (by rfl) T.n_str Bo (aa (aj aV ag (pcq (cm T) hr T.X52 (aa (pv 0) (aa ag ae)))) ae)) aq) (pcq (bV T) hr T.X53 (aa (pv 0) (aa (q1 _) ae)))))) ax)
  (ai (al (aj aG aq (bH bO (by rfl) T.n_str Bo (aa (aj aV ag (pcq (cm T) hr T.X52 (aa (pv 0) (aa ag ae)))) ae)))))))),?_⟩
 have sz:=cX;have l1:(Str.ofString " ").length=1:=fQ;have l2:(Str.ofString "5 ").length=2:=by ac_nf
 refine⟨_,rfl,b,4,z,rfl,hb.1,hb.2,by decide,by decide,λy z1 y0 y1 JJ=>?_⟩;have IB:bN (upd H b (.lst [.int z1])) b z1:=⟨am,JJ⟩;have GL:But b H (upd H b (.lst [.int z1])):=But.upd;generalize upd H b (.lst [.int z1])=H1 at IB GL⊢;refine⟨_,rfl,rfl,_,rfl,bD (λ_=>?_) (λ_=>?_)⟩
 .refine⟨_,rfl,λl nl=>b9 kM IB nl (by unfold kM;rfl) (by ac_nf) (by ac_nf) λu hu z2 H2 Hs GK=>?_⟩;have lu:=sh (u:=u) (by unfold bU;simp[hu]);refine⟨u,_,rfl,rfl,by lia,_,rfl,b,8,z2,rfl,GK.1,GK.2,by decide,by decide,λx z3 x0 x1 z30=>?_⟩;obtain⟨m,rfl⟩:=AK x0;have lm:=cY m (by lia);refine⟨m,rfl,lm.2,u++Str.ofString " ",nS m,rfl,rfl,by rw[A5];lia,kk _ ?_ z3 _ ((GL.trans Hs).trans But.upd) ⟨am,z30⟩⟩;exact BO _ (BO _ (AZ.mpr ⟨u,hu,Ad.mpr ⟨m,Ak.mpr (by lia),rfl⟩⟩))
 refine⟨_,rfl,rfl,_,rfl,bD (λ_=>?_) (λ_=>?_)⟩
 .refine⟨_,rfl,b,5,z1,rfl,IB.1,IB.2,by decide,by decide,λx z3 x0 x1 z30=>?_⟩;obtain⟨m,rfl⟩:=AK x0;have lm:=cY (1+m) (by lia);have GY:bN (upd H1 b (.lst [.int z3])) b z3:=⟨am,z30⟩;have GA:But b H1 (upd H1 b (.lst [.int z3])):=But.upd;generalize upd H1 b (.lst [.int z3])=H3 at GY GA⊢;refine⟨_,_,rfl,rfl,((1+m:Nat):Int),by rw[show((1:Int)+(m:Int))=((1+m:Nat):Int) by lia],lm.2,nS (1+m),_,rfl,rfl,by lia,_,rfl,λl nl=>b9 kN GY nl (by unfold kN;rfl) (by ac_nf) (by ac_nf) λu hu z2 H2 Hs GK=>?_⟩;have lu:=sh (u:=u) (by unfold bU;simp[hu]);refine⟨nS (1+m)++Str.ofString " ",u,rfl,rfl,by rw[A5];lia,kk _ ?_ z2 _ ((GL.trans GA).trans Hs) GK⟩;exact BO _ (AQ _ (AZ.mpr ⟨m,Ak.mpr (by lia),Ad.mpr ⟨u,hu,rfl⟩⟩))
 .refine⟨_,rfl,b,3,z1,rfl,IB.1,IB.2,by decide,by decide,λx z3 x0 x1 z30=>?_⟩;obtain⟨m,rfl⟩:=AK x0;have lm:=cY (4+m) (by lia);refine⟨_,_,rfl,rfl,((4+m:Nat):Int),by rw[show((4:Int)+(m:Int))=((4+m:Nat):Int) by lia],lm.2,_,nS (4+m),rfl,rfl,by lia,kk _ ?_ z3 _ (GL.trans But.upd) ⟨am,z30⟩⟩;exact AQ _ (Ad.mpr ⟨m,Ak.mpr (by lia),rfl⟩)
theorem Gc:OKQ T.X57 P w base 4 (spFx 0):=by
 refine FbO T.X57 eU λ_ _ _ _ H vs Q E hr h=>?_;obtain⟨b,z,rfl,hb,kk⟩:=h;obtain⟨l0,p0,Hj,l1,p1,Jh,l2,p2,Iy,l3,p3,JY,l4,p4,he4,l5,p5,he5,l6,p6,he6,Hu⟩:∃(l0:KW KY) (p0:Pos),bu l0=some [Str.ofString "count 2 1",Str.ofString "free 3",Str.ofString "rows",Str.ofString "polynomial 1",Str.ofString "ends 1 0 - 1",Str.ofString "markings 1 : none",Str.ofString "count 9 9"]/\∃(l1:KW KY) (p1:Pos),bu l1=some [Str.ofString "",Str.ofString " ",Str.ofString "counts 2 1",Str.ofString "count",Str.ofString "count 2",Str.ofString "count 2 1 0",Str.ofString "free",Str.ofString "free 3 1",Str.ofString "rows 1"]/\∃(l2:KW KY) (p2:Pos),bu l2=some [Str.ofString "free ",Str.ofString "polynomial "]/\∃(l3:KW KY) (p3:Pos),bu l3=some [Str.ofString "",Str.ofString ",",Str.ofString "1,",Str.ofString ",1",Str.ofString "1,,1",Str.ofString "01",Str.ofString "-1",Str.ofString "1,-1",Str.ofString "1000",Str.ofString "a",Str.ofString "--",Str.ofString "+1",Str.ofString "1, 1"]/\∃(l4:KW KY) (p4:Pos),bu l4=some [Str.ofString "",Str.ofString "1-1",Str.ofString "2-1",Str.ofString "1-2x1",Str.ofString "1-2x61",Str.ofString "0-1",Str.ofString "1-10",Str.ofString "2-3 1-2",Str.ofString "None",Str.ofString "none 1-2",Str.ofString "1-2  2-3"]/\∃(l5:KW KY) (p5:Pos),bu l5=some [Str.ofString "markings 2 none",Str.ofString "markings 2 :",Str.ofString "markings : none",Str.ofString "markings 2 ; none",Str.ofString "markings x : none"]/\∃(l6:KW KY) (p6:Pos),bu l6=some [Str.ofString "markings 2 : : none",Str.ofString "Markings 2 : none",Str.ofString "markings",Str.ofString "markings 2"]/\av bM=(bL [11,1,1] (bL [10] (bL [9,1,0] (bL [8,1,0,1] (bL [7,1,0,0,1] (bL [3,1,0,1] (bL [1] (av bM) (.List l0 p0)) (.List l1 p1)) (.List l2 p2)) (.List l3 p3)) (.List l4 p4)) (.List l5 p5)) (.List l6 p6)):=⟨bR (aJ [1] (av bM)),bS (aJ [1] (av bM)),by ac_nf,bR (aJ [3,1,0,1] (av bM)),bS (aJ [3,1,0,1] (av bM)),by ac_nf,bR (aJ [7,1,0,0,1] (av bM)),bS (aJ [7,1,0,0,1] (av bM)),by ac_nf,bR (aJ [8,1,0,1] (av bM)),bS (aJ [8,1,0,1] (av bM)),by ac_nf,bR (aJ [9,1,0] (av bM)),bS (aJ [9,1,0] (av bM)),by ac_nf,bR (aJ [10] (av bM)),bS (aJ [10] (av bM)),by ac_nf,bR (aJ [11,1,1] (av bM)),bS (aJ [11,1,1] (av bM)),by ac_nf,by kernel_rfl⟩;rw[Hu];have q0:=bT (p0:=p0) _ Hj (by decide);have q1:=bT (p0:=p1) _ Jh (by decide);have q2:=bT (p0:=p2) _ Iy (by decide);have q3:=bT (p0:=p3) _ JY (by decide);have q4:=bT (p0:=p4) _ he4 (by decide);have q5:=bT (p0:=p5) _ he5 (by decide);have q6:=bT (p0:=p6) _ he6 (by decide);clear Hu Hj Jh Iy JY he4 he5 he6;refine⟨_,(ah (pSA (i:=1) eU.nd (pcq (cm T) hr T.X52 (aa (pv 0) (aa ag ae))))
  (ah (pSA (i:=2) eU.nd (q0 _))
  (ah (pSA (i:=3) eU.nd (pcq (bV T) hr T.X53 (aa (pv 0) (aa (pv 2) ae))))
  (ah (ay (az aI (pv 1) ag (aw _)) (ai (al (pcq (bV T) hr T.X53 (aa (pv 0) (aa (q1 _) ae))))) ax)
  (ah (ay (az aI (pv 1) ag (aw _)) (ai (al (pcq (bV T) hr T.X53 (aa (pv 0) (aa (iH (y6 (i:=3) (aa (vT B4 PySem.F.slot_str_upper PySem.F.type_str_upper yY (pv 3)) (aa (aj aG (pv 3) aq) ae)))) ae))))) ax)
  (ah (ay (az aI (pv 1) ag (aw _)) (ai (al (aj aG (aj aG (aj aG (aj aG (pcq (nA T) hr T.X55 (aa (pv 0) ae)) aq) (pcq (nz T) hr T.X54 (aa (pv 0) ae))) aq) (bH bO (by rfl) T.n_str Bo (aa (pcq (cm T) hr T.X52 (aa (pv 0) (aa ag ae))) ae))))) ax)
  (ah (ay (az aI (pv 1) ag (aw _)) (ai (al (aj aG (aj aG (aj aG (aj aG (pcq (nA T) hr T.X55 (aa (pv 0) ae)) aq) (bH bO (by rfl) T.n_str Bo (aa (pcq (cm T) hr T.X52 (aa (pv 0) (aa ag ae))) ae))) aq) (pcq (nz T) hr T.X54 (aa (pv 0) ae))))) ax)
  (ah (ay (az aI (pv 1) ag (aw _)) (ai (al (aj aG (pcq (bV T) hr T.X53 (aa (pv 0) (aa (q2 _) ae))) (pcq (nz T) hr T.X54 (aa (pv 0) ae))))) ax)
  (ah (ay (az aI (pv 1) ag (aw _)) (ah (pSA (i:=4) eU.nd (pcq (bV T) hr T.X53 (aa (pv 0) (aa (q3 _) ae))))
  (ah (ay (az aI (pcq (cm T) hr T.X52 (aa (pv 0) (aa ag ae))) ag (aw _)) (ai (al (aj aG (aj aG (aj aG (aj aG aq (bH bO (by rfl) T.n_str Bo (aa (pcq (cm T) hr T.X52 (aa (pv 0) (aa ag ae))) ae))) aq) (pv 4)) aq))) ax)
  (ai (al (aj aG (aj aG (aj aG aq (bH bO (by rfl) T.n_str Bo (aa (pcq (cm T) hr T.X52 (aa (pv 0) (aa ag ae))) ae))) aq) (pv 4)))))) ax)
  (ah (ay (az aI (pv 1) ag (aw _)) (ah (pSA (i:=2) eU.nd (q4 _))
  (ah (pSA (i:=4) eU.nd (pcq (bV T) hr T.X53 (aa (pv 0) (aa (pv 2) ae))))
  (ai (al (aj aG (aj aG (aj aG aq (bH bO (by rfl) T.n_str Bo (aa (pcq (cm T) hr T.X52 (aa (pv 0) (aa ag ae))) ae))) aq) (pv 4)))))) ax)
  (ah (pSA (i:=2) eU.nd (q5 _))
  (ai (al (pcq (bV T) hr T.X53 (aa (pv 0) (aa (aj oS (pv 2) (q6 _)) ae)))))))))))))))),?_⟩
 have sz:=cX;have c1:(Str.ofString " ").length=1:=fQ;have c2:(Str.ofString "ends 2 ").length=7/\(Str.ofString " -").length=2/\(Str.ofString " - ").length=3/\(Str.ofString "markings ").length=9/\(Str.ofString " : ").length=3/\(Str.ofString " x").length=2:=by ac_nf
 refine⟨_,rfl,b,8,z,rfl,hb.1,hb.2,by decide,by decide,λy z1 y0 y1 JJ=>?_⟩;have IB:bN (upd H b (.lst [.int z1])) b z1:=⟨am,JJ⟩;have GL:But b H (upd H b (.lst [.int z1])):=But.upd;generalize upd H b (.lst [.int z1])=H1 at IB GL⊢;refine λl nl=>⟨_,rfl,_,rfl,b9 ix IB nl (by unfold ix;rfl) (by ac_nf) (by ac_nf) λg hg z2 H2 Hs GK=>?_⟩;have but12:=GL.trans Hs;have gg:=AG.mp EL g hg;unfold sS at gg;simp only[AB,CC,Aj] at gg;obtain⟨⟨⟨g1,g2⟩,g3⟩,g4⟩:=gg;have Gw:∀u,aD 0 u=true->∀z' H',But b H2 H'->bN H' b z'->Q (.str u) H':=λu hu z' H' G3 r=>kk u hu z' H' (but12.trans G3) r;clear kk;refine⟨_,rfl,rfl,_,rfl,bD (λ_=>?_) (λ_=>?_)⟩
 .exact⟨_,rfl,λl nl=>b9 nf0 GK nl (by unfold nf0;rfl) (by ac_nf) (by ac_nf) λu hu=>Gw u (b8 Ed hu)⟩
 refine⟨_,rfl,rfl,_,rfl,bD (λ_=>?_) (λ_=>?_)⟩
 .have c3:(Str.ofString "  ").length=2:=by ac_nf
  refine⟨_,rfl,⟨g,rfl,by ac_nf,g1,by ac_nf,by lia,by lia,by ac_nf,by rw[c3];lia,by lia,_,rfl,rfl,g,rfl,rfl,g3,_,rfl,g,_,rfl,rfl,by lia,(zB rfl),λl nl=>?_⟩⟩;exact b9 (sO g) GK nl rfl (by show 1<=5;decide) (by show 5<=20;decide) λu hu=>Gw u (b8 Ee (AZ.mpr ⟨g,hg,hu⟩))
 refine⟨_,rfl,rfl,_,rfl,bD (λ_=>?_) (λ_=>?_)⟩
 .refine⟨_,rfl,b,z2,rfl,GK,λa ha z3 H3 GA GY=>?_⟩;have la:=sh (u:=a) (by unfold bU;simp[ha]);refine⟨a,_,rfl,rfl,by lia,_,rfl,b,z3,rfl,GY,λd hd z4 H4 GH GW=>?_⟩;have ld:=sh (u:=d) (by unfold bU;simp[hd]);refine⟨_,d,rfl,rfl,by rw[A5];lia,_,_,rfl,rfl,by rw[A5,A5];lia,_,rfl,b,12,z4,rfl,GW.1,GW.2,by decide,by decide,λx z9 x0 x1 IE=>?_⟩;obtain⟨m,rfl⟩:=AK x0;have lm:=cY m (by lia);refine⟨m,rfl,lm.2,_,nS m,rfl,rfl,by rw[A5,A5,A5];lia,Gw _ (b8 Ek ?_) z9 _ ((GA.trans GH).trans But.upd) ⟨am,IE⟩⟩;exact AZ.mpr ⟨a,ha,AZ.mpr ⟨d,hd,Ad.mpr ⟨m,Ak.mpr (by lia),rfl⟩⟩⟩
 refine⟨_,rfl,rfl,_,rfl,bD (λ_=>?_) (λ_=>?_)⟩
 .refine⟨_,rfl,b,z2,rfl,GK,λa ha z3 H3 GA GY=>?_⟩;have la:=sh (u:=a) (by unfold bU;simp[ha]);refine⟨a,_,rfl,rfl,by lia,_,rfl,b,12,z3,rfl,GY.1,GY.2,by decide,by decide,λx z9 x0 x1 IE=>?_⟩;obtain⟨m,rfl⟩:=AK x0;have lm:=cY m (by lia);refine⟨m,rfl,lm.2,_,nS m,rfl,rfl,by rw[A5];lia,_,_,rfl,rfl,by rw[A5,A5];lia,_,rfl,b,z9,rfl,⟨am,IE⟩,λd hd z4 H4 GH GW=>?_⟩;have ld:=sh (u:=d) (by unfold bU;simp[hd]);refine⟨_,d,rfl,rfl,by rw[A5,A5,A5];lia,Gw _ (b8 Er ?_) z4 _ ((GA.trans But.upd).trans GH) GW⟩;exact AZ.mpr ⟨a,ha,AZ.mpr ⟨d,hd,Ad.mpr ⟨m,Ak.mpr (by lia),rfl⟩⟩⟩
 refine⟨_,rfl,rfl,_,rfl,bD (λ_=>?_) (λ_=>?_)⟩
 .refine⟨_,rfl,λl nl=>b9 fpL GK nl (by unfold fpL;rfl) (by ac_nf) (by ac_nf) λa ha z3 H3 GA GY=>?_⟩;have la:=sh (u:=a) (by unfold bU;simp[ha]);refine⟨_,rfl,b,z3,rfl,GY,λd hd z4 H4 GH GW=>?_⟩;have ld:=sh (u:=d) (by unfold bU;simp[hd]);refine⟨a,d,rfl,rfl,by lia,Gw _ (b8 Es ?_) z4 _ (GA.trans GH) GW⟩;exact AZ.mpr ⟨a,ha,Ad.mpr ⟨d,hd,rfl⟩⟩
 refine⟨_,rfl,rfl,_,rfl,bD (λ_=>?_) (λ_=>?_)⟩
 .refine⟨_,rfl,λl nl=>b9 kO GK nl (by unfold kO;rfl) (by ac_nf) (by ac_nf) λa ha z3 H3 GA GY=>?_⟩;have la:=sh (u:=a) (by unfold bU;simp[ha]);refine⟨_,rfl,b,2,z3,rfl,GY.1,GY.2,by decide,by decide,λy2 z4 y20 y21 z40=>?_⟩;have GW:bN (upd H3 b (.lst [.int z4])) b z4:=⟨am,z40⟩;have GH:But b H3 (upd H3 b (.lst [.int z4])):=But.upd;generalize upd H3 b (.lst [.int z4])=H4 at GW GH⊢;refine⟨rfl,_,rfl,bD (λ_=>?_) (λ_=>?_)⟩
  .refine⟨_,rfl,b,9,z4,rfl,GW.1,GW.2,by decide,by decide,λx z9 x0 x1 IE=>?_⟩;obtain⟨m,rfl⟩:=AK x0;have lm:=cY m (by lia);refine⟨m,rfl,lm.2,_,nS m,rfl,rfl,by lia,_,_,rfl,rfl,by rw[A5];lia,_,rfl,_,a,rfl,rfl,by rw[A5,A5];lia,_,_,rfl,rfl,by rw[A5,A5,A5];lia,Gw _ (b8 sQ ?_) z9 _ ((GA.trans GH).trans But.upd) ⟨am,IE⟩⟩;exact AZ.mpr ⟨a,ha,AZ.mpr ⟨m,Ak.mpr (by lia),Ai⟩⟩
  .refine⟨_,rfl,b,9,z4,rfl,GW.1,GW.2,by decide,by decide,λx z9 x0 x1 IE=>?_⟩;obtain⟨m,rfl⟩:=AK x0;have lm:=cY m (by lia);refine⟨m,rfl,lm.2,_,nS m,rfl,rfl,by lia,_,_,rfl,rfl,by rw[A5];lia,_,rfl,_,a,rfl,rfl,by rw[A5,A5];lia,Gw _ (b8 sQ ?_) z9 _ ((GA.trans GH).trans But.upd) ⟨am,IE⟩⟩;exact AZ.mpr ⟨a,ha,AZ.mpr ⟨m,Ak.mpr (by lia),AU _ Ai⟩⟩
 refine⟨_,rfl,rfl,_,rfl,bD (λ_=>?_) (λ_=>?_)⟩
 .refine λl nl=>⟨_,rfl,_,rfl,b9 mkL GK nl (by unfold mkL;rfl) (by ac_nf) (by ac_nf) λa ha z3 H3 GA GY=>?_⟩;have la:=sh (u:=a) (by unfold bU;simp[ha]);refine⟨_,rfl,b,9,z3,rfl,GY.1,GY.2,by decide,by decide,λx z9 x0 x1 IE=>?_⟩;obtain⟨m,rfl⟩:=AK x0;have lm:=cY m (by lia);refine⟨m,rfl,lm.2,_,nS m,rfl,rfl,by lia,_,_,rfl,rfl,by rw[A5];lia,_,rfl,_,a,rfl,rfl,by rw[A5,A5];lia,Gw _ (b8 Et ?_) z9 _ (GA.trans But.upd) ⟨am,IE⟩⟩;exact AZ.mpr ⟨a,ha,Ad.mpr ⟨m,Ak.mpr (by lia),rfl⟩⟩
 .refine λl nl=>⟨_,rfl,_,rfl,λl2 nl2=>⟨l,l2,kP.map V.str,kQ.map V.str,rfl,rfl,?_,?_,by ac_nf,λq nq=>?_⟩⟩
  .rw[au (bF am nl2),am];unfold kP;rfl
  .rw[am];unfold kQ;rfl
  .refine b9 (kP++kQ) (z:=z2) ⟨?_,GK.2⟩ nq (by rw[AO]) (by ac_nf) (by ac_nf) λu hu z' H' G3 r=>Gw u (b8 Eu hu) z' H' ((But.of_same ((af.new nl).trans (af.new nl2))).trans G3) r;exact af.new nl2 _ _ (af.new nl _ _ GK.1)
theorem Gd:OKQ T.X58 P w base 4 (spFx 1):=by
 refine FbO T.X58 mq λ_ _ _ _ H vs Q E hr h=>?_;obtain⟨b,z,rfl,hb,kk⟩:=h;obtain⟨l0,p0,Hj,l1,p1,Jh,l2,p2,Iy,l3,p3,JY,l4,p4,he4,Hu⟩:∃(l0:KW KY) (p0:Pos),bu l0=some [Str.ofString "free 0",Str.ofString "free 9",Str.ofString "free -1",Str.ofString "free 999"]/\∃(l1:KW KY) (p1:Pos),bu l1=some [Str.ofString "polynomial 4",Str.ofString "polynomial -1",Str.ofString "polynomial 999"]/\∃(l2:KW KY) (p2:Pos),bu l2=some [Str.ofString "- 2",Str.ofString "1 0",Str.ofString "- -",Str.ofString "0,1 1",Str.ofString "999 -"]/\∃(l3:KW KY) (p3:Pos),bu l3=some [Str.ofString "0",Str.ofString "6",Str.ofString "-1",Str.ofString "999"]/\∃(l4:KW KY) (p4:Pos),bu l4=some [Str.ofString "none",Str.ofString "1-2",Str.ofString "1-9x60"]/\av cy=(bL [4,1,1,1,1] (bL [4,1,0,1] (bL [3,1,0,1,1] (bL [2,1,0,1] (bL [1,1,0,1] (av cy) (.List l0 p0)) (.List l1 p1)) (.List l2 p2)) (.List l3 p3)) (.List l4 p4)):=⟨bR (aJ [1,1,0,1] (av cy)),bS (aJ [1,1,0,1] (av cy)),by ac_nf,bR (aJ [2,1,0,1] (av cy)),bS (aJ [2,1,0,1] (av cy)),by ac_nf,bR (aJ [3,1,0,1,1] (av cy)),bS (aJ [3,1,0,1,1] (av cy)),by ac_nf,bR (aJ [4,1,0,1] (av cy)),bS (aJ [4,1,0,1] (av cy)),by ac_nf,bR (aJ [4,1,1,1,1] (av cy)),bS (aJ [4,1,1,1,1] (av cy)),by ac_nf,by kernel_rfl⟩;rw[Hu];have q0:=bT (p0:=p0) _ Hj (by decide);have q1:=bT (p0:=p1) _ Jh (by decide);have q2:=bT (p0:=p2) _ Iy (by decide);have q3:=bT (p0:=p3) _ JY (by decide);have q4:=bT (p0:=p4) _ he4 (by decide);clear Hu Hj Jh Iy JY he4;refine⟨_,(ah (pSA (i:=1) mq.nd (pcq (cm T) hr T.X52 (aa (pv 0) (aa ag ae))))
  (ah (ay (az aI (pv 1) ag (aw _)) (ai (al (pcq (bV T) hr T.X53 (aa (pv 0) (aa (q0 _) ae))))) ax)
  (ah (ay (az aI (pv 1) ag (aw _)) (ai (al (pcq (bV T) hr T.X53 (aa (pv 0) (aa (q1 _) ae))))) ax)
  (ah (ay (az aI (pv 1) ag (aw _)) (ai (al (aj aG (aj aG (aj aG aq (pcq (ud T) hr T.X56 (aa (pv 0) ae))) aq) (pcq (bV T) hr T.X53 (aa (pv 0) (aa (q2 _) ae)))))) ax)
  (ah (ay (az aI (pv 1) ag (aw _)) (ah (pSA (i:=2) mq.nd (pcq (bV T) hr T.X53 (aa (pv 0) (aa (q3 _) ae))))
  (ai (al (aj aG (aj aG (aj aG aq (pv 2)) aq) (pcq (bV T) hr T.X53 (aa (pv 0) (aa (q4 _) ae))))))) ax)
  (ah (ay (az aI (pv 1) ag (aw _)) (ai (al (aj aG aq (bH bO (by rfl) T.n_str Bo (aa (aj aV ag (pcq (cm T) hr T.X52 (aa (pv 0) (aa ag ae)))) ae))))) ax)
  (ai (al (aj aG (aj aG (pcq (nA T) hr T.X55 (aa (pv 0) ae)) aq) (pcq (ud T) hr T.X56 (aa (pv 0) ae))))))))))),?_⟩
 have sz:=cX;have c1:(Str.ofString " ").length=1:=fQ;have c2:(Str.ofString "ends ").length=5/\(Str.ofString "markings ").length=9/\(Str.ofString " : ").length=3/\(Str.ofString "ways 4 ").length=7:=by ac_nf
 refine⟨_,rfl,b,6,z,rfl,hb.1,hb.2,by decide,by decide,λy z1 y0 y1 JJ=>?_⟩;have GK:bN (upd H b (.lst [.int z1])) b z1:=⟨am,JJ⟩;have GL:But b H (upd H b (.lst [.int z1])):=But.upd;generalize upd H b (.lst [.int z1])=H2 at GK GL⊢;have Gw:∀u,aD 1 u=true->∀z' H',But b H2 H'->bN H' b z'->Q (.str u) H':=λu hu z' H' G3 r=>kk u hu z' H' (GL.trans G3) r;clear kk;refine⟨_,rfl,rfl,_,rfl,bD (λ_=>?_) (λ_=>?_)⟩
 .exact⟨_,rfl,λl nl=>b9 b0 GK nl (by unfold b0;rfl) (by ac_nf) (by ac_nf) λu hu=>Gw u (b8 Ev hu)⟩
 refine⟨_,rfl,rfl,_,rfl,bD (λ_=>?_) (λ_=>?_)⟩
 .exact⟨_,rfl,λl nl=>b9 b1 GK nl (by unfold b1;rfl) (by ac_nf) (by ac_nf) λu hu=>Gw u (b8 Ew hu)⟩
 refine⟨_,rfl,rfl,_,rfl,bD (λ_=>?_) (λ_=>?_)⟩
 .refine⟨_,rfl,b,z1,rfl,GK,λa ha z3 H3 GA GY=>?_⟩;have la:=sh (u:=a) (by unfold bU;simp[ha]);refine⟨_,a,rfl,rfl,by lia,_,_,rfl,rfl,by rw[A5];lia,_,rfl,λl nl=>b9 b2t GY nl (by unfold b2t;rfl) (by ac_nf) (by ac_nf) λd hd z4 H4 GH GW=>?_⟩;have ld:=sh (u:=d) (by unfold bU;simp[hd]);refine⟨_,d,rfl,rfl,by rw[A5,A5];lia,Gw _ (b8 Ez ?_) z4 _ (GA.trans GH) GW⟩;exact AZ.mpr ⟨a,ha,Ad.mpr ⟨d,hd,rfl⟩⟩
 refine⟨_,rfl,rfl,_,rfl,bD (λ_=>?_) (λ_=>?_)⟩
 .refine⟨_,rfl,λl nl=>b9 b3d GK nl (by unfold b3d;rfl) (by ac_nf) (by ac_nf) λa ha z3 H3 GA GY=>?_⟩;have la:=sh (u:=a) (by unfold bU;simp[ha]);refine⟨_,rfl,_,a,rfl,rfl,by lia,_,_,rfl,rfl,by rw[A5];lia,_,rfl,λl nl=>b9 b3t GY nl (by unfold b3t;rfl) (by ac_nf) (by ac_nf) λd hd z4 H4 GH GW=>?_⟩;have ld:=sh (u:=d) (by unfold bU;simp[hd]);refine⟨_,d,rfl,rfl,by rw[A5,A5];lia,Gw _ (b8 EA ?_) z4 _ (GA.trans GH) GW⟩;exact AZ.mpr ⟨a,ha,Ad.mpr ⟨d,hd,rfl⟩⟩
 refine⟨_,rfl,rfl,_,rfl,bD (λ_=>?_) (λ_=>?_)⟩
 .refine⟨_,rfl,b,4,z1,rfl,GK.1,GK.2,by decide,by decide,λx z9 x0 x1 IE=>?_⟩;obtain⟨m,rfl⟩:=AK x0;have lm:=cY (3+m) (by lia);refine⟨_,_,rfl,rfl,((3+m:Nat):Int),by rw[show((3:Int)+(m:Int))=((3+m:Nat):Int) by lia],lm.2,_,nS (3+m),rfl,rfl,by lia,Gw _ (b8 EB ?_) z9 _ But.upd ⟨am,IE⟩⟩;exact Ad.mpr ⟨m,Ak.mpr (by lia),rfl⟩
 .refine⟨_,rfl,b,z1,rfl,GK,λa ha z3 H3 GA GY=>?_⟩;have la:=sh (u:=a) (by unfold bU;simp[ha]);refine⟨a,_,rfl,rfl,by lia,_,rfl,b,z3,rfl,GY,λd hd z4 H4 GH GW=>?_⟩;have ld:=sh (u:=d) (by unfold bU;simp[hd]);refine⟨_,d,rfl,rfl,by rw[A5];lia,Gw _ (b8 EI ?_) z4 _ (GA.trans GH) GW⟩;exact AZ.mpr ⟨a,ha,Ad.mpr ⟨d,hd,rfl⟩⟩
theorem Ge:OKQ T.X59 P w base 4 (spFx 2):=by
 refine FbO T.X59 rA λ_ _ _ _ H vs Q E hr h=>?_;obtain⟨b,z,rfl,hb,kk⟩:=h;obtain⟨l0,p0,Hj,Hu⟩:∃(l0:KW KY) (p0:Pos),bu l0=some [Str.ofString "- -",Str.ofString "2 1",Str.ofString "- 3",Str.ofString "0,1 1",Str.ofString "1,0 1",Str.ofString "- 2,0",Str.ofString "0 2",Str.ofString "- 0",Str.ofString "0,0,1 -",Str.ofString "1 -",Str.ofString "999 -",Str.ofString "- 0,999"]/\av eV=(bL [0] (av eV) (.List l0 p0)):=⟨bR (aJ [0] (av eV)),bS (aJ [0] (av eV)),by ac_nf,by kernel_rfl⟩;rw[Hu];have q0:=bT (p0:=p0) _ Hj (by decide);clear Hu Hj;refine⟨_,(ah (pSA (i:=1) rA.nd (q0 _))
  (ai (al (aj aG (aj aG (aj aG aq (bH bO (by rfl) T.n_str Bo (aa (pcq (cm T) hr T.X52 (aa (pv 0) (aa ag ae))) ae))) aq) (pcq (bV T) hr T.X53 (aa (pv 0) (aa (pv 1) ae))))))),?_⟩
 have sz:=cX;have c1:(Str.ofString " ").length=1:=fQ;have c2:(Str.ofString "ends 2 ").length=7:=by ac_nf
 refine λl nl=>?_;have bl:=bF hb.1 nl;have nb:But b H (upd H l (.lst (enL.map V.str))):=But.of_same (af.new nl);refine⟨_,rfl,b,7,z,rfl,af.new nl _ _ hb.1,hb.2,by decide,by decide,λx z9 x0 x1 IE=>?_⟩;obtain⟨m,rfl⟩:=AK x0;have lm:=cY m (by lia);refine⟨m,rfl,lm.2,_,nS m,rfl,rfl,by lia,_,_,rfl,rfl,by rw[A5];lia,_,rfl,_,rfl,b,l,z9,enL,rfl,⟨am,IE⟩,by rw[au bl.symm,am];unfold enL;rfl,by ac_nf,by ac_nf,λd hd z4 H4 GH GW=>?_⟩;have ld:=sh (u:=d) (by unfold bU;simp[hd]);refine⟨_,d,rfl,rfl,by rw[A5,A5];lia,kk _ (b8 EJ ?_) z4 _ (((But.of_same (af.new nl)).trans But.upd).trans GH) GW⟩;exact AZ.mpr ⟨d,hd,Ad.mpr ⟨m,Ak.mpr (by lia),rfl⟩⟩
theorem Gf:OKQ T.X60 P w base 4 (spFx 3):=by
 refine FbO T.X60 zJ λ_ _ _ _ H vs Q E hr h=>?_;obtain⟨b,z,rfl,hb,kk⟩:=h;obtain⟨l0,p0,Hj,l1,p1,Jh,Hu⟩:∃(l0:KW KY) (p0:Pos),bu l0=some [Str.ofString "markings 2 : 1-3",Str.ofString "markings 1 : 1-2",Str.ofString "markings 4 : 1-2 2-9",Str.ofString "markings 5 : 1-6"]/\∃(l1:KW KY) (p1:Pos),bu l1=some [Str.ofString "markings 2 : 1-2x2",Str.ofString "markings 3 : 1-2 1-3",Str.ofString "markings 3 : 2-3x2",Str.ofString "markings 5 : 4-5x60"]/\av dH=(bL [1,1] (bL [0,1,0,1] (av dH) (.List l0 p0)) (.List l1 p1)):=⟨bR (aJ [0,1,0,1] (av dH)),bS (aJ [0,1,0,1] (av dH)),by ac_nf,bR (aJ [1,1] (av dH)),bS (aJ [1,1] (av dH)),by ac_nf,by kernel_rfl⟩;rw[Hu];have q0:=bT (p0:=p0) _ Hj (by decide);have q1:=bT (p0:=p1) _ Jh (by decide);clear Hu Hj Jh;refine⟨_,(ah (ay (az aI (pcq (cm T) hr T.X52 (aa (pv 0) (aa ag ae))) ag (aw _)) (ai (al (pcq (bV T) hr T.X53 (aa (pv 0) (aa (q0 _) ae))))) ax)
  (ai (al (pcq (bV T) hr T.X53 (aa (pv 0) (aa (q1 _) ae)))))),?_⟩
 refine⟨_,rfl,b,2,z,rfl,hb.1,hb.2,by decide,by decide,λy z1 y0 y1 JJ=>?_⟩;have GK:bN (upd H b (.lst [.int z1])) b z1:=⟨am,JJ⟩;have GL:But b H (upd H b (.lst [.int z1])):=But.upd;generalize upd H b (.lst [.int z1])=H2 at GK GL⊢;refine⟨rfl,_,rfl,bD (λ_=>?_) (λ_=>?_)⟩
 .exact⟨_,rfl,λl nl=>b9 dr1 GK nl (by unfold dr1;rfl) (by ac_nf) (by ac_nf) λu hu z' H' G3 r=>kk u (b8 sR (BO _ hu)) z' H' (GL.trans G3) r⟩
 .exact⟨_,rfl,λl nl=>b9 dr2 GK nl (by unfold dr2;rfl) (by ac_nf) (by ac_nf) λu hu z' H' G3 r=>kk u (b8 sR (AQ _ hu)) z' H' (GL.trans G3) r⟩
theorem Gg:FnOkS P w K mg base 1 T.f61 T.d61 ["_law_e"] (spKnd T.c_NoText T.c_NoBound T.c_NoEnds T.c_NoDrawing):=by
 refine T.X61.F.okS fL (λvs H Q E h=>?_) (λGu A outer s H vs Q E ee hr h=>?_)
 .obtain⟨_,_,_,rfl,_⟩:=h;rfl
 .obtain⟨e,C,c,rfl,he,hc,hC,kk⟩:=h;refine⟨_,(ah (pSA (i:=1) fL.nd aq)
   (ah (ay (cc (aZ (ge (K:=K) rfl) (by rfl) T.n_isinstance Bq (aa (pv 0) (aa (cO (v:= .ref T.c_NoText) (by rfl) T.m_NoText (by rfl)) ae)))) (ai (pSA (i:=1) fL.nd (aj aG (pv 1) aq))) ax)
   (ah (ay (cc (aZ (ge (K:=K) rfl) (by rfl) T.n_isinstance Bq (aa (pv 0) (aa (cO (v:= .ref T.c_NoBound) (by rfl) T.m_NoBound (by rfl)) ae)))) (ai (pSA (i:=1) fL.nd (aj aG (pv 1) aq))) ax)
   (ah (ay (cc (aZ (ge (K:=K) rfl) (by rfl) T.n_isinstance Bq (aa (pv 0) (aa (cO (v:= .ref T.c_NoEnds) (by rfl) T.m_NoEnds (by rfl)) ae)))) (ai (pSA (i:=1) fL.nd (aj aG (pv 1) aq))) ax)
   (ah (ay (cc (aZ (ge (K:=K) rfl) (by rfl) T.n_isinstance Bq (aa (pv 0) (aa (cO (v:= .ref T.c_NoDrawing) (by rfl) T.m_NoDrawing (by rfl)) ae)))) (ai (pSA (i:=1) fL.nd (aj aG (pv 1) aq))) ax)
   (ah (ay (cc (aZ (ge (K:=K) rfl) (by rfl) T.n_isinstance Bq (aa (pv 0) (aa (cO (v:= .ref T.c_NoNumber) (by rfl) T.m_NoNumber (by rfl)) ae)))) (ai (pSA (i:=1) fL.nd (aj aG (pv 1) aq))) ax)
   (ai (al (pv 1))))))))),?_⟩
  have sz:=cX;have c4:c=0\/c=1\/c=2\/c=3:=by lia
  rcases c4 with rfl|rfl|rfl|rfl
  .obtain rfl:C=T.c_NoText:=hC;have ew:Str.ofString ""++Str.ofString "text"=fe 0:=by ac_nf
   refine⟨_,rfl,e,_,.ref T.c_NoText,_,true,rfl,he,T.X_NoText,rfl,T.k_NoText_NoText,true,rfl,aN ?_⟩;refine⟨_,rfl,_,_,rfl,rfl,(by ac_nf),?_⟩;rw[ew];refine⟨_,rfl,e,_,.ref T.c_NoBound,_,false,rfl,he,T.X_NoText,rfl,T.k_NoText_NoBound,false,rfl,aH ?_⟩;refine⟨_,rfl,e,_,.ref T.c_NoEnds,_,false,rfl,he,T.X_NoText,rfl,T.k_NoText_NoEnds,false,rfl,aH ?_⟩;refine⟨_,rfl,e,_,.ref T.c_NoDrawing,_,false,rfl,he,T.X_NoText,rfl,T.k_NoText_NoDrawing,false,rfl,aH ?_⟩;refine⟨_,rfl,e,_,.ref T.c_NoNumber,_,false,rfl,he,T.X_NoText,rfl,T.k_NoText_NoNumber,false,rfl,aH ?_⟩;exact⟨_,rfl,kk⟩
  .obtain rfl:C=T.c_NoBound:=hC;have ew:Str.ofString ""++Str.ofString "bound"=fe 1:=by ac_nf
   refine⟨_,rfl,e,_,.ref T.c_NoText,_,false,rfl,he,T.X_NoBound,rfl,T.k_NoBound_NoText,false,rfl,aH ?_⟩;refine⟨_,rfl,e,_,.ref T.c_NoBound,_,true,rfl,he,T.X_NoBound,rfl,T.k_NoBound_NoBound,true,rfl,aN ?_⟩;refine⟨_,rfl,_,_,rfl,rfl,(by ac_nf),?_⟩;rw[ew];refine⟨_,rfl,e,_,.ref T.c_NoEnds,_,false,rfl,he,T.X_NoBound,rfl,T.k_NoBound_NoEnds,false,rfl,aH ?_⟩;refine⟨_,rfl,e,_,.ref T.c_NoDrawing,_,false,rfl,he,T.X_NoBound,rfl,T.k_NoBound_NoDrawing,false,rfl,aH ?_⟩;refine⟨_,rfl,e,_,.ref T.c_NoNumber,_,false,rfl,he,T.X_NoBound,rfl,T.k_NoBound_NoNumber,false,rfl,aH ?_⟩;exact⟨_,rfl,kk⟩
  .obtain rfl:C=T.c_NoEnds:=hC;have ew:Str.ofString ""++Str.ofString "ends"=fe 2:=by ac_nf
   refine⟨_,rfl,e,_,.ref T.c_NoText,_,false,rfl,he,T.X_NoEnds,rfl,T.k_NoEnds_NoText,false,rfl,aH ?_⟩;refine⟨_,rfl,e,_,.ref T.c_NoBound,_,false,rfl,he,T.X_NoEnds,rfl,T.k_NoEnds_NoBound,false,rfl,aH ?_⟩;refine⟨_,rfl,e,_,.ref T.c_NoEnds,_,true,rfl,he,T.X_NoEnds,rfl,T.k_NoEnds_NoEnds,true,rfl,aN ?_⟩;refine⟨_,rfl,_,_,rfl,rfl,(by ac_nf),?_⟩;rw[ew];refine⟨_,rfl,e,_,.ref T.c_NoDrawing,_,false,rfl,he,T.X_NoEnds,rfl,T.k_NoEnds_NoDrawing,false,rfl,aH ?_⟩;refine⟨_,rfl,e,_,.ref T.c_NoNumber,_,false,rfl,he,T.X_NoEnds,rfl,T.k_NoEnds_NoNumber,false,rfl,aH ?_⟩;exact⟨_,rfl,kk⟩
  .obtain rfl:C=T.c_NoDrawing:=hC;have ew:Str.ofString ""++Str.ofString "drawing"=fe 3:=by ac_nf
   refine⟨_,rfl,e,_,.ref T.c_NoText,_,false,rfl,he,T.X_NoDrawing,rfl,T.k_NoDrawing_NoText,false,rfl,aH ?_⟩;refine⟨_,rfl,e,_,.ref T.c_NoBound,_,false,rfl,he,T.X_NoDrawing,rfl,T.k_NoDrawing_NoBound,false,rfl,aH ?_⟩;refine⟨_,rfl,e,_,.ref T.c_NoEnds,_,false,rfl,he,T.X_NoDrawing,rfl,T.k_NoDrawing_NoEnds,false,rfl,aH ?_⟩;refine⟨_,rfl,e,_,.ref T.c_NoDrawing,_,true,rfl,he,T.X_NoDrawing,rfl,T.k_NoDrawing_NoDrawing,true,rfl,aN ?_⟩;refine⟨_,rfl,_,_,rfl,rfl,(by ac_nf),?_⟩;rw[ew];refine⟨_,rfl,e,_,.ref T.c_NoNumber,_,false,rfl,he,T.X_NoDrawing,rfl,T.k_NoDrawing_NoNumber,false,rfl,aH ?_⟩;exact⟨_,rfl,kk⟩
theorem Gh:OKQ T.X62 P w base 17 (spRfs T.c_Desk):=by
 refine T.X62.F.oky rB (λvs H Q E h=>?_) (λGu A outer s H vs Q E hr h hF=>?_)
 .obtain⟨_,_,_,_,rfl,_⟩:=h;rfl
 .obtain⟨a,t,n,c,rfl,⟨dx,ha⟩,n10,ft,ho,hc,kk⟩:=h;refine⟨_,(ah (yD (i:=3) hF rB.nd rfl (by trivial) rfl (by rfl) T.m_CurveError (yZ (λpn z=>(pv 0)) T.cl_Desk T.me_Desk_say (iz T) (hr.mono (by decide)) T.X66.B .nil (λpn z=>(aa (pv 1) ae))) (λe=>(ai (al (gM (dQ aI (xq (Gg T) (hr.mono (by decide)) (by rfl) T.X61.m T.X61.F.kp T.X61.B (aa (pv 3) ae)) (pv 2) (aw _)) (gL (aZ (ge (K:=K) rfl) (by rfl) T.n_isinstance Bq (aa (pv 3) (aa (iA (v:= .ty "ValueError") (by rfl) T.n_ValueError PyProof.Rows.Boot.«ValueError» (by rfl)) ae)))))))))
   (ai (al gK))),?_⟩
  refine⟨λC _ H'=>C=.ref (if c=0 then T.c_NoText else if c=1 then T.c_NoBound else if c=2 then T.c_NoEnds else T.c_NoDrawing)/\af H H',⟨_,rfl,a,dx,_,rfl,ha,rfl,_,rfl,a,t,n,rfl,⟨dx,ha⟩,n10,ft,by lia,λh H' s'=>?_,λh H' s'=>?_,λh H' s'=>?_,λh H' s'=>?_,λh=>absurd h (by lia)⟩,λC e H' ⟨eC,sH⟩ he=>?_⟩
  .exact⟨by rw[A9 (by lia)],s'⟩
  .exact⟨by rw[A6 (by lia),A9 (by lia)],s'⟩
  .exact⟨by rw[A6 (by lia),A6 (by lia),A9 (by lia)],s'⟩
  .exact⟨by rw[A6 (by lia),A6 (by lia),A6 (by lia)],s'⟩
  have eC:=Value.ref.inj eC;have s2:af H (upd H' e (dm C e)):=sH.trans (af.new he);have hx:upd H' e (dm C e) e=some (dm C e):=am;generalize upd H' e (dm C e)=H2 at s2 hx⊢;have c4:c=0\/c=1\/c=2\/c=3:=by lia
  have hm:W.exmOne K (.ref C) (.ref T.c_CurveError)=some true:=by
   rcases c4 with rfl|rfl|rfl|rfl
   .exact eC▸T.e_NoText_CurveError
   .exact eC▸T.e_NoBound_CurveError
   .exact eC▸T.e_NoEnds_CurveError
   .exact eC▸T.e_NoDrawing_CurveError
  have hX:XC K C:=by
   rcases c4 with rfl|rfl|rfl|rfl
   .exact eC▸T.X_NoText
   .exact eC▸T.X_NoBound
   .exact eC▸T.X_NoEnds
   .exact eC▸T.X_NoDrawing
  have hV:W.kitOne K (.ref C) (.type "ValueError")=some true:=by
   rcases c4 with rfl|rfl|rfl|rfl
   .exact eC▸T.k_NoText_ValueError
   .exact eC▸T.k_NoBound_ValueError
   .exact eC▸T.k_NoEnds_ValueError
   .exact eC▸T.k_NoDrawing_ValueError
  refine⟨hm,?_⟩;refine⟨_,rfl,e,C,c,rfl,hx,hc,eC,_,rfl,rfl,?_⟩;exact⟨true,Ah V.bl (B3 rfl),aN ⟨_,rfl,e,C,.ty "ValueError",_,true,rfl,hx,hX,rfl,hV,kk H2 s2⟩⟩
theorem Gi:OKQ T.X63 P w base 5 spBad:=by
 refine FbO T.X63 rC λ_ _ _ _ H vs Q E hr h=>?_;obtain⟨b,z,rfl,hb,kk⟩:=h;refine⟨_,(ah (pSA (i:=1) rC.nd (pcq (cm T) hr T.X52 (aa (pv 0) (aa ag ae))))
  (ah (ay (az fg (pv 1) ag (aw _)) (ai (al (iG (aa (pcq (Gc T) hr T.X57 (aa (pv 0) ae)) (aa aq ae))))) ax)
  (ah (ay (az aI (pv 1) ag (aw _)) (ai (al (iG (aa (pcq (Gd T) hr T.X58 (aa (pv 0) ae)) (aa aq ae))))) ax)
  (ah (ay (az aI (pv 1) ag (aw _)) (ai (al (iG (aa (pcq (Ge T) hr T.X59 (aa (pv 0) ae)) (aa aq ae))))) ax)
  (ai (al (iG (aa (pcq (Gf T) hr T.X60 (aa (pv 0) ae)) (aa aq ae))))))))),?_⟩
 refine⟨_,rfl,b,5,z,rfl,hb.1,hb.2,by decide,by decide,λy z1 y0 y1 JJ=>?_⟩;have GK:bN (upd H b (.lst [.int z1])) b z1:=⟨am,JJ⟩;have GL:But b H (upd H b (.lst [.int z1])):=But.upd;generalize upd H b (.lst [.int z1])=H2 at GK GL⊢;have fin:∀(c:Nat) (u:Str),c<4->aD c u=true->∀z' H',But b H2 H'->bN H' b z'->∀p,H' p=none->Q (.ref p) (upd H' p (.tup [.str u,.str (fe c)])):=λc u hc hu z' H' G3 r p np=>by
  obtain⟨f1,f2⟩:=sP hu;exact kk u c p _ f1 f2 hc ((GL.trans G3).trans (But.of_same (af.new np))) am
 refine⟨_,rfl,_,_,rfl,rfl,_,rfl,aF (λ_=>?_) (λ_=>?_)⟩
 .exact⟨_,rfl,b,z1,rfl,GK,λu hu z' H' G3 r=>⟨(zB rfl),fin 0 u (by decide) hu z' H' G3 r⟩⟩
 refine⟨_,rfl,rfl,_,rfl,bD (λ_=>?_) (λ_=>?_)⟩
 .exact⟨_,rfl,b,z1,rfl,GK,λu hu z' H' G3 r=>⟨(zB rfl),fin 1 u (by decide) hu z' H' G3 r⟩⟩
 refine⟨_,rfl,rfl,_,rfl,bD (λ_=>?_) (λ_=>?_)⟩
 .exact⟨_,rfl,b,z1,rfl,GK,λu hu z' H' G3 r=>⟨(zB rfl),fin 2 u (by decide) hu z' H' G3 r⟩⟩
 .exact⟨_,rfl,b,z1,rfl,GK,λu hu z' H' G3 r=>⟨(zB rfl),fin 3 u (by decide) hu z' H' G3 r⟩⟩
theorem Gj:OKQ T.X64 P w base 18 (sp_law K):=by
 refine FbO T.X64 fM λ_ _ _ _ H vs Q E hr h=>?_;obtain⟨a,ns,rfl,hS,hl,kk⟩:=h;refine⟨_,(ah (pSA (i:=1) fM.nd (vE T.mk_Desk (Gb T) (hr.mono (by decide)) (by rfl) T.m_Desk T.X65.B .nil iL))
  (ah (pSA (i:=2) fM.nd (aj gQ (pcq (tO T) hr T.X50 (aa (pv 0) (aa ag ae))) ag))
  (ah (bz Ac rfl (fW (by rfl) T.n_range (aa (pv 2) ae)) (pGA (i:=3) fM.nd) (ai (ay (az ff (iI (pv 1) T.cl_Desk T.me_Desk_say (iz T) (hr.mono (by decide)) T.X66.B .nil iY (aa aq ae)) aq (aw _)) (ai (al gK)) ax)))
  (ah (bz Ac rfl (fW (by rfl) T.n_range (aa (aZ (vd rfl) (by rfl) T.n_max boot_max (aa ag (aa (aZ (ve rfl) (by rfl) T.n_min boot_min (aa (aj bf (aZ f' (by rfl) T.n_len boot_len (aa (pv 0) ae)) ag) (aa ag ae))) ae))) ae)) (pGA (i:=3) fM.nd) (ah (nL (pcq (Gi T) hr T.X63 (aa (iH (aa (pcq (Fk T) hr T.X51 (aa (pcq (tO T) hr T.X50 (aa (pv 0) (aa (aj aV ag (pv 3)) ae))) ae)) ae)) ae)) (eD rfl (bG (pGA (i:=4) fM.nd) (bG (pGA (i:=5) fM.nd) dy))))
  (ai (ay (cZ (cc (pcq (Gh T) hr T.X62 (aa (pv 1) (aa (pv 4) (aa (pv 5) ae)))))) (ai (al gK)) ax))))
  (ai (al (gM (dQ aI (iI (pv 1) T.cl_Desk T.me_Desk_say (iz T) (hr.mono (by decide)) T.X66.B .nil iY (aa aq ae)) (bH bO (by rfl) T.n_str Bo (aa (pv 2) ae)) (aw _)) (gM (dQ aI (iI (pv 1) T.cl_Desk T.me_Desk_say (iz T) (hr.mono (by decide)) T.X66.B .nil iY (aa aq ae)) aq (aw _)) (gL (dQ aI (iI (pv 1) T.cl_Desk T.me_Desk_say (iz T) (hr.mono (by decide)) T.X66.B .nil iY (aa aq ae)) (bH bO (by rfl) T.n_str Bo (aa (aj aV (pv 2) ag) ae)) (aw _))))))))))),?_⟩
 refine λx dx nx ndx nex=>⟨x,dx,rfl,am,rfl,?_⟩;have s1:af H (upd (upd (upd H dx (.own x)) x (.ins T.c_Desk dx [])) x (.ins T.c_Desk dx [(Str.ofString "answered",.int 0)])):=λc o e=>by
  have c1:c≠x:=bF e nx;have c2:c≠dx:=bF e ndx;rw[au c1,au c1,au c2];exact e
 have Jl:Dsk T.c_Desk (upd (upd (upd H dx (.own x)) x (.ins T.c_Desk dx [])) x (.ins T.c_Desk dx [(Str.ofString "answered",.int 0)])) x 0:=⟨dx,am⟩;show nJ _ _ _ [some (.ref a),some (.ref x),none,none,none,none] (upd (upd (upd H dx (.own x)) x (.ins T.c_Desk dx [])) x (.ins T.c_Desk dx [(Str.ofString "answered",.int 0)]));generalize upd (upd (upd H dx (.own x)) x (.ins T.c_Desk dx [])) x (.ins T.c_Desk dx [(Str.ofString "answered",.int 0)])=H1 at s1 Jl⊢;have hS1:=s1.seq hS;have seqB:∀{H'},But x H1 H'->SqL K H' a (ns.map V.int):=fun{H'} G3=>by
  obtain⟨d,hd⟩:=Jl;rcases hS1 with(h|⟨o,h⟩)|h
  .exact .inl (.inl (G3 _ _ h (by rintro rfl;rw[hd] at h;cases h)))
  .exact .inl (.inr ⟨o,G3 _ _ h (by rintro rfl;rw[hd] at h;cases h)⟩)
  .exact .inr h
 have dsk:∀{H2 H3:Hp}{n:Nat}{b:KP},Dsk T.c_Desk H2 x n->But b H2 H3->b≠x->Dsk T.c_Desk H3 x n:=λGB G3 ne=>by obtain⟨d,h⟩:=GB;exact⟨d,G3 _ _ h ne.symm⟩
 refine⟨_,rfl,a,ns,0,rfl,hS1,by decide,λc=>⟨_,_,rfl,rfl,(by show(0:Int)<3;decide),?_⟩⟩;obtain⟨m,hm⟩:=AK (Int.emod_nonneg c (by decide:(3:Int)≠0));have m3:m<3:=by
  have:=Int.emod_lt_of_pos c (show(0:Int)<3 by decide);lia
 rw[hm];clear hm;have say:∀{H2:Hp}{n:Nat}{q:Str}{cd:Nat}{Q':VK}{E':XK},Dsk T.c_Desk H2 x n->n<=10->aD cd q=true->3<cd->cd<7->(∀H',But x H2 H'->Dsk T.c_Desk H' x (n+1)->Q' (.str (if cd=4 then Str.ofString "3" else if cd=5 then Str.ofString "12" else nS n)) H')->spSay T.c_Desk T.c_NoText T.c_NoBound T.c_NoEnds T.c_NoDrawing [.ref x,.str q] H2 Q' E':=fun{H2 n q cd Q' E'} hd hn hf h3 h7 k=>by
  obtain⟨f1,f2⟩:=sP hf;subst f2;exact⟨x,q,n,rfl,hd,hn,f1,h7,λh=>absurd h (by lia),λh=>absurd h (by lia),λh=>absurd h (by lia),λh=>absurd h (by lia),λ_ H' b d=>k H' b d⟩
 refine⟨_,rfl,_,rfl,by lia,by lia,dg (lo:=0) (n:=m) (λi σ H2=>(∃v3 v4 v5,σ=[some (.ref a),some (.ref x),some (.int (m:Int)),v3,v4,v5])/\But x H1 H2/\Dsk T.c_Desk H2 x i) ⟨⟨none,none,none,rfl⟩,But.of_same (af.refl _),Jl⟩ ?_ ?_⟩
 .rintro i σ H2 hi ⟨⟨v3,v4,v5,rfl⟩,Hs,G4⟩;obtain⟨d2,hx2⟩:=id G4;refine⟨_,rfl,x,d2,_,rfl,hx2,rfl,say G4 (by lia) EM (by decide) (by decide) λH3 GA IA=>⟨rfl,_,rfl,ci (λh=>absurd rfl h) (λ_=>?_)⟩⟩;exact⟨⟨_,_,_,rfl⟩,Hs.trans GA,IA⟩
 .rintro σ H2 ⟨⟨v3,v4,v5,rfl⟩,Hs,G4⟩;refine⟨_,rfl,a,_,rfl,.inl (seqB Hs),_,_,rfl,rfl,_,_,rfl,_,_,rfl,?_⟩;have key:∀z:Int,∃r:Nat,r<=4/\(if(if(4:Int)<z then(4:Int) else z)>1 then(if(4:Int)<z then(4:Int) else z) else 1)=(r:Int):=λz=>by
   by_cases c1:(4:Int)<z
   .rw[A9 c1];exact⟨4,by lia,A9 (by decide)⟩
   .rw[A6 c1];by_cases c2:z>1
    .rw[A9 c2];exact⟨z.toNat,by lia,by lia⟩
    .rw[A6 c2];exact⟨1,by lia,rfl⟩
  obtain⟨r,r4,hr⟩:=key (((ns.map V.int).length:Int)-1);refine⟨r,Ah (λy=>[V.int y]) hr,by lia,by lia,dg (lo:=0) (n:=r) (λi σ H3=>(∃v3 v4 v5,σ=[some (.ref a),some (.ref x),some (.int (m:Int)),v3,v4,v5])/\But x H1 H3/\Dsk T.c_Desk H3 x m) ⟨⟨_,_,_,rfl⟩,Hs,G4⟩ ?_ ?_⟩
  .clear hr key;rintro i σ H3 hi ⟨⟨v3,v4,v5,rfl⟩,GA,IA⟩;refine⟨_,rfl,_,rfl,_,_,rfl,rfl,a,ns,_,rfl,seqB GA,by lia,λc2=>⟨c2,rfl,λz z0=>⟨(zB rfl),λb nb=>?_⟩⟩⟩;have bx:b≠x:=by
    rintro rfl;obtain⟨d3,hx3⟩:=IA;rw[hx3] at nb;cases nb
   have bn:∀c o,H1 c=some o->c≠x->c≠b:=λc o e n z=>by
    subst z;have:=GA _ _ e n;rw[nb] at this;cases this
   have s4:af H3 (upd H3 b (.lst [.int z])):=af.new nb;have GW:bN (upd H3 b (.lst [.int z])) b z:=⟨am,z0⟩;have GH:But x H1 (upd H3 b (.lst [.int z])):=GA.trans (But.of_same s4);have hd4:Dsk T.c_Desk (upd H3 b (.lst [.int z])) x m:=let ⟨d,h⟩:=IA;⟨d,s4 _ _ h⟩;generalize upd H3 b (.lst [.int z])=H4 at GW GH hd4⊢;refine⟨b,z,rfl,GW,λt c p H5 ft ho hc Io hp=>?_⟩;have hd5:=dsk hd4 Io bx;refine⟨p,_,rfl,SqT.of hp,rfl,_,_,rfl,_,_,rfl,rfl,?_⟩;obtain⟨d5,hx5⟩:=id hd5;refine⟨_,rfl,_,rfl,_,rfl,x,t,m,c,rfl,hd5,by lia,ft,ho,hc,λH6 s6=>⟨_,rfl,?_⟩⟩;exact aH ⟨⟨_,_,_,rfl⟩,λc o e n=>s6 _ _ (Io _ _ (GH _ _ e n) (bn c o e n)),let ⟨d,h⟩:=hd5;⟨d,s6 _ _ h⟩⟩
  .rintro σ H3 ⟨⟨v3,v4,v5,rfl⟩,GA,IA⟩;obtain⟨d3,hx3⟩:=id IA;refine⟨_,rfl,x,d3,_,rfl,hx3,rfl,say IA (by lia) sT (by decide) (by decide) λH4 GH hd4=>⟨_,rfl,m,rfl,(cY m (by lia)).2,rfl,true,Ah V.bl (B3 rfl),aN ?_⟩⟩;obtain⟨d4,hx4⟩:=id hd4;refine⟨_,rfl,x,d4,_,rfl,hx4,rfl,say hd4 (by lia) EN (by decide) (by decide) λH5 Io hd5=>⟨rfl,true,Ah V.bl (B3 rfl),aN ?_⟩⟩;obtain⟨d5,hx5⟩:=id hd5;refine⟨_,rfl,x,d5,_,rfl,hx5,rfl,say hd5 (by lia) sT (by decide) (by decide) λH6 but6 hd6=>⟨_,rfl,_,_,rfl,rfl,((m+2:Nat):Int),rfl,(cY (m+2) (by lia)).2,rfl,?_⟩⟩;show Q (.bl (decide (V.str (nS (m+2))=V.str (nS (m+2))))) H6;rw[B3 rfl];exact kk H6
end
theorem fb1{n q:Str}{ps:KW Str}{d:KR}(F:Fun K q q st f d)(e:mg n=some (.ref f))(hp:ps.length=1:=by exact rfl)(h:∀(kV dc pm:KN) (an:K0 KP) (cd ct x0:KN),bindArgs (W.fnOf q q (c7 st) (av st) (ak st) .none kV dc pm an cd ct) ⟨[x0],[]⟩=pure (ps.zip [x0]):=by intros;exact rfl):Fg K mg n q st ps f d:=by
 refine⟨F,F.binds λkV dc pm an cd ct us hl=>?_,e⟩;rw[hp] at hl;rcases us with _|⟨x0,us⟩
 .simp at hl
 rcases us with _|⟨y,us⟩
 .exact h kV dc pm an cd ct x0
 .simp at hl
theorem fb2{n q:Str}{ps:KW Str}{d:KR}(F:Fun K q q st f d)(e:mg n=some (.ref f))(hp:ps.length=2:=by exact rfl)(h:∀(kV dc pm:KN) (an:K0 KP) (cd ct x0 x1:KN),bindArgs (W.fnOf q q (c7 st) (av st) (ak st) .none kV dc pm an cd ct) ⟨[x0,x1],[]⟩=pure (ps.zip [x0,x1]):=by intros;exact rfl):Fg K mg n q st ps f d:=by
 refine⟨F,F.binds λkV dc pm an cd ct us hl=>?_,e⟩;rw[hp] at hl;rcases us with _|⟨x0,us⟩
 .simp at hl
 rcases us with _|⟨x1,us⟩
 .simp at hl
 rcases us with _|⟨y,us⟩
 .exact h kV dc pm an cd ct x0 x1
 .simp at hl
theorem fb3{n q:Str}{ps:KW Str}{d:KR}(F:Fun K q q st f d)(e:mg n=some (.ref f))(hp:ps.length=3:=by exact rfl)(h:∀(kV dc pm:KN) (an:K0 KP) (cd ct x0 x1 x2:KN),bindArgs (W.fnOf q q (c7 st) (av st) (ak st) .none kV dc pm an cd ct) ⟨[x0,x1,x2],[]⟩=pure (ps.zip [x0,x1,x2]):=by intros;exact rfl):Fg K mg n q st ps f d:=by
 refine⟨F,F.binds λkV dc pm an cd ct us hl=>?_,e⟩;rw[hp] at hl;rcases us with _|⟨x0,us⟩
 .simp at hl
 rcases us with _|⟨x1,us⟩
 .simp at hl
 rcases us with _|⟨x2,us⟩
 .simp at hl
 rcases us with _|⟨y,us⟩
 .exact h kV dc pm an cd ct x0 x1 x2
 .simp at hl
theorem fb4{n q:Str}{ps:KW Str}{d:KR}(F:Fun K q q st f d)(e:mg n=some (.ref f))(hp:ps.length=4:=by exact rfl)(h:∀(kV dc pm:KN) (an:K0 KP) (cd ct x0 x1 x2 x3:KN),bindArgs (W.fnOf q q (c7 st) (av st) (ak st) .none kV dc pm an cd ct) ⟨[x0,x1,x2,x3],[]⟩=pure (ps.zip [x0,x1,x2,x3]):=by intros;exact rfl):Fg K mg n q st ps f d:=by
 refine⟨F,F.binds λkV dc pm an cd ct us hl=>?_,e⟩;rw[hp] at hl;rcases us with _|⟨x0,us⟩
 .simp at hl
 rcases us with _|⟨x1,us⟩
 .simp at hl
 rcases us with _|⟨x2,us⟩
 .simp at hl
 rcases us with _|⟨x3,us⟩
 .simp at hl
 rcases us with _|⟨y,us⟩
 .exact h kV dc pm an cd ct x0 x1 x2 x3
 .simp at hl
theorem Gk{l:W.OpenLaw}{w:KS}{K:W.Frag}{h:KZ}{mg:Str->K0 KN}{fa:KP}(X:K.In h)(G:h.Ns mainGlobals mg)(hfa:mg "law"=some (.ref fa))
  {f0 f1 f2 f3 f4 f5 f6 f7 f8 f9 f10 f11 f12 f13 f14 f15 f16 f17 f18 f19 f20 f21 f22 f23 f24 f25 f26 f27 f28 f29 f30 f31 f32 f33 f34 f35 f36 f37 f38 f39 f40 f41 f42 f43 f44 f45 f46 f47 f48 f49 f50 f51 f52 f53 f54 f55 f56 f57 f58 f59 f60 f61 f62 f63 f64:KP}
  (h0:Hf K "is_whole" jn f0)
  (h1:Hf K "need_between" jo f1)
  (h2:Hf K "need_narrow" jp f2)
  (h3:Hf K "need_wide" jq f3)
  (h4:Hf K "need_degree" jr f4)
  (h5:Hf K "with_more" jt f5)
  (h6:Hf K "ends_at" ju f6)
  (h7:Hf K "sound" jv f7)
  (h8:Hf K "lost" jw f8)
  (h9:Hf K "lifts_from" jx f9)
  (h10:Hf K "leaving" jz f10)
  (h11:Hf K "with_floor" gm f11)
  (h12:Hf K "drawings" hJ f12)
  (h13:Hf K "worth_floors" jA f13 "worth")
  (h14:Hf K "choose" jC f14)
  (h15:Hf K "need_sound" jD f15)
  (h16:Hf K "end_marks" jE f16)
  (h17:Hf K "put_between" jG f17)
  (h18:Hf K "how_many_orders" jH f18)
  (h19:Hf K "how_many" jI f19)
  (h20:Hf K "count_by_floors" hU f20)
  (h21:Hf K "whole_by_floors" jJ f21)
  (h22:Hf K "polynomial_of" jK f22)
  (h23:Hf K "is_row" jL f23)
  (h24:Hf K "row_weight" ia f24)
  (h25:Hf K "need_rows" jM f25)
  (h26:Hf K "counted_ends" mj f26 "counted")
  (h27:Hf K "asked_of" jN f27)
  (h28:Hf K "by_ends" jO f28)
  (h29:Hf K "count_by_ways" jP f29)
  (h30:Hf K "shade_by_floors" jQ f30)
  (h31:Hf K "split_in_two" jR f31)
  (h32:Hf K "without_holes" jS f32)
  (h33:Hf K "show_lift" jT f33)
  (h34:Hf K "show_poly" mm f34)
  (h35:Hf K "show_shade" mn f35)
  (h36:Hf K "read_from_nought" ib f36)
  (h37:Hf K "read_whole" jV f37)
  (h38:Hf K "read_lift" jW f38)
  (h39:Hf K "read_drawing" ic f39)
  (h40:Hf K "read_number" jX f40)
  (h41:Hf K "read_ends" ie f41)
  (h42:Hf K "read_thing" jY f42)
  (h43:Hf K "read_markings" jZ f43)
  (h44:Hf K "read_row" ig f44)
  (h45:Hf K "polynomial_told" j0 f45)
  (h46:Hf K "drawings_told" j4 f46)
  (h47:Hf K "markings_told" ii f47)
  (h48:Hf K "told_of_pair" j5 f48)
  (h49:Hf K "told" j6 f49)
  (h50:Hf K "_law_cell_at" j7 f50)
  (h51:Hf K "_law_great" j8 f51)
  (h52:Hf K "_law_digit" j' f52)
  (h53:Hf K "_law_pick" ka f53)
  (h54:Hf K "_law_no_number" eR f54)
  (h55:Hf K "_law_two" eS f55)
  (h56:Hf K "_law_beyond" dG f56)
  (h57:Hf K "_law_no_form" bM f57)
  (h58:Hf K "_law_bad_bound" cy f58)
  (h59:Hf K "_law_bad_ends" eV f59)
  (h60:Hf K "_law_bad_drawing" dH f60)
  (h61:Hf K "_law_kinds" kc f61)
  (h62:Hf K "_law_refuses" kf f62)
  (h63:Hf K "_law_bad" kg f63)
  (h64:Hf K "law" kh f64)
  {g0 g1 C_Desk:KP}
  (hm0:Hm K "__init__" "Desk.__init__" ki g0)
  (hm1:Hm K "say" "Desk.say" kj g1)
  (zz:∀n∈["isinstance","int","bool","min","range","enumerate","sum","sorted","tuple","set","list","all","len","zip","any","str","ValueError","max"],W.nsIn K mainGlobals n=some none)
  {K_LEFT:Tok} (mi_LEFT:W.nsIn K mainGlobals "LEFT"=some (some (.int (1) K_LEFT)))
  {K_RIGHT:Tok} (mi_RIGHT:W.nsIn K mainGlobals "RIGHT"=some (some (.int (-1) K_RIGHT)))
  {K_FIGURES_AT_MOST:Tok} (mi_FIGURES_AT_MOST:W.nsIn K mainGlobals "FIGURES_AT_MOST"=some (some (.int (3) K_FIGURES_AT_MOST)))
  {K_FIGURES:Tok} (ms_FIGURES:W.nsIn K mainGlobals "FIGURES"=some (some (.str (Str.ofString "0123456789") K_FIGURES)))
  {A_NARROW:KP} (da_NARROW:W.nsIn K mainGlobals "NARROW"=some (some (.ref A_NARROW))) (dt_NARROW:eN K A_NARROW [(1,6),(2,6),(3,6),(4,2)]=true)
  {A_WIDE:KP} (da_WIDE:W.nsIn K mainGlobals "WIDE"=some (some (.ref A_WIDE))) (dt_WIDE:eN K A_WIDE [(1,6),(2,6),(3,6),(4,6),(5,3)]=true)
  {A_FORMS:KP} (da_FORMS:W.nsIn K mainGlobals "FORMS"=some (some (.ref A_FORMS))) (dt_FORMS:DtS K w A_FORMS [(Str.ofString "count",Str.ofString "dk"),(Str.ofString "whole",Str.ofString "dk"),(Str.ofString "free",Str.ofString "d"),(Str.ofString "ways",Str.ofString "dk"),(Str.ofString "ends",Str.ofString "dkee"),(Str.ofString "shade",Str.ofString "dk"),(Str.ofString "polynomial",Str.ofString "k"),(Str.ofString "drawings",Str.ofString "dk"),(Str.ofString "rows",Str.ofString "")])
  {C_NoBound:KP} (ca_NoBound:W.nsIn K mainGlobals "NoBound"=some (some (.ref C_NoBound)))
  {C_NoDrawing:KP} (ca_NoDrawing:W.nsIn K mainGlobals "NoDrawing"=some (some (.ref C_NoDrawing)))
  {C_NoEnds:KP} (ca_NoEnds:W.nsIn K mainGlobals "NoEnds"=some (some (.ref C_NoEnds)))
  {C_NoText:KP} (ca_NoText:W.nsIn K mainGlobals "NoText"=some (some (.ref C_NoText)))
  {C_NoNumber:KP} (ca_NoNumber:W.nsIn K mainGlobals "NoNumber"=some (some (.ref C_NoNumber)))
  {C_CurveError:KP} (ca_CurveError:W.nsIn K mainGlobals "CurveError"=some (some (.ref C_CurveError)))
  (ca_Desk:W.nsIn K mainGlobals "Desk"=some (some (.ref C_Desk)))
  (cl_Desk:Cls K C_Desk) (mk_Desk:Mk K C_Desk g0)
  (na_Desk_answered:dA K C_Desk "answered")
  (me_Desk_say:Meth K C_Desk "say" g1)
  (cx_NoBound:W.excIn K C_NoBound bmV "ValueError.__new__"=true) (xc_NoBound:XC K C_NoBound)
  (cx_NoDrawing:W.excIn K C_NoDrawing bmV "ValueError.__new__"=true) (xc_NoDrawing:XC K C_NoDrawing)
  (cx_NoEnds:W.excIn K C_NoEnds bmV "ValueError.__new__"=true) (xc_NoEnds:XC K C_NoEnds)
  (cx_NoText:W.excIn K C_NoText bmV "ValueError.__new__"=true) (xc_NoText:XC K C_NoText)
  (ce_NoBound_CurveError:W.exmOne K (.ref C_NoBound) (.ref C_CurveError)=some true)
  (ce_NoDrawing_CurveError:W.exmOne K (.ref C_NoDrawing) (.ref C_CurveError)=some true)
  (ce_NoEnds_CurveError:W.exmOne K (.ref C_NoEnds) (.ref C_CurveError)=some true)
  (ce_NoText_CurveError:W.exmOne K (.ref C_NoText) (.ref C_CurveError)=some true)
  (ck_NoBound_NoText:W.kitOne K (.ref C_NoBound) (.ref C_NoText)=some false)
  (ck_NoBound_NoBound:W.kitOne K (.ref C_NoBound) (.ref C_NoBound)=some true)
  (ck_NoBound_NoEnds:W.kitOne K (.ref C_NoBound) (.ref C_NoEnds)=some false)
  (ck_NoBound_NoDrawing:W.kitOne K (.ref C_NoBound) (.ref C_NoDrawing)=some false)
  (ck_NoBound_NoNumber:W.kitOne K (.ref C_NoBound) (.ref C_NoNumber)=some false)
  (ck_NoBound_ValueError:W.kitOne K (.ref C_NoBound) (.type "ValueError")=some true)
  (ck_NoDrawing_NoText:W.kitOne K (.ref C_NoDrawing) (.ref C_NoText)=some false)
  (ck_NoDrawing_NoBound:W.kitOne K (.ref C_NoDrawing) (.ref C_NoBound)=some false)
  (ck_NoDrawing_NoEnds:W.kitOne K (.ref C_NoDrawing) (.ref C_NoEnds)=some false)
  (ck_NoDrawing_NoDrawing:W.kitOne K (.ref C_NoDrawing) (.ref C_NoDrawing)=some true)
  (ck_NoDrawing_NoNumber:W.kitOne K (.ref C_NoDrawing) (.ref C_NoNumber)=some false)
  (ck_NoDrawing_ValueError:W.kitOne K (.ref C_NoDrawing) (.type "ValueError")=some true)
  (ck_NoEnds_NoText:W.kitOne K (.ref C_NoEnds) (.ref C_NoText)=some false)
  (ck_NoEnds_NoBound:W.kitOne K (.ref C_NoEnds) (.ref C_NoBound)=some false)
  (ck_NoEnds_NoEnds:W.kitOne K (.ref C_NoEnds) (.ref C_NoEnds)=some true)
  (ck_NoEnds_NoDrawing:W.kitOne K (.ref C_NoEnds) (.ref C_NoDrawing)=some false)
  (ck_NoEnds_NoNumber:W.kitOne K (.ref C_NoEnds) (.ref C_NoNumber)=some false)
  (ck_NoEnds_ValueError:W.kitOne K (.ref C_NoEnds) (.type "ValueError")=some true)
  (ck_NoText_NoText:W.kitOne K (.ref C_NoText) (.ref C_NoText)=some true)
  (ck_NoText_NoBound:W.kitOne K (.ref C_NoText) (.ref C_NoBound)=some false)
  (ck_NoText_NoEnds:W.kitOne K (.ref C_NoText) (.ref C_NoEnds)=some false)
  (ck_NoText_NoDrawing:W.kitOne K (.ref C_NoText) (.ref C_NoDrawing)=some false)
  (ck_NoText_NoNumber:W.kitOne K (.ref C_NoText) (.ref C_NoNumber)=some false)
  (ck_NoText_ValueError:W.kitOne K (.ref C_NoText) (.type "ValueError")=some true)
  :∃fd:KR,(∀(s:KO) (v:KN),BindsTo s fd ⟨[v],[]⟩ [("_law_script",v)])/\∀base:KZ,K.In base->base.Ns mainGlobals mg->FnOk l.prog w K mg base CX0 18 fa fd ["_law_script"] (sp_law K):=by
 obtain⟨a0,d0,F0⟩:=h0;obtain⟨a1,d1,F1⟩:=h1;obtain⟨a2,d2,F2⟩:=h2;obtain⟨a3,d3,F3⟩:=h3;obtain⟨a4,d4,F4⟩:=h4;obtain⟨a5,d5,F5⟩:=h5;obtain⟨a6,d6,F6⟩:=h6;obtain⟨a7,d7,F7⟩:=h7;obtain⟨a8,d8,F8⟩:=h8;obtain⟨a9,d9,F9⟩:=h9;obtain⟨a10,d10,F10⟩:=h10;obtain⟨a11,d11,F11⟩:=h11;obtain⟨a12,d12,F12⟩:=h12;obtain⟨a13,d13,F13⟩:=h13;obtain⟨a14,d14,F14⟩:=h14;obtain⟨a15,d15,F15⟩:=h15;obtain⟨a16,d16,F16⟩:=h16;obtain⟨a17,d17,F17⟩:=h17;obtain⟨a18,d18,F18⟩:=h18;obtain⟨a19,d19,F19⟩:=h19;obtain⟨a20,d20,F20⟩:=h20;obtain⟨a21,d21,F21⟩:=h21;obtain⟨a22,d22,F22⟩:=h22;obtain⟨a23,d23,F23⟩:=h23;obtain⟨a24,d24,F24⟩:=h24;obtain⟨a25,d25,F25⟩:=h25;obtain⟨a26,d26,F26⟩:=h26;obtain⟨a27,d27,F27⟩:=h27;obtain⟨a28,d28,F28⟩:=h28;obtain⟨a29,d29,F29⟩:=h29;obtain⟨a30,d30,F30⟩:=h30;obtain⟨a31,d31,F31⟩:=h31;obtain⟨a32,d32,F32⟩:=h32;obtain⟨a33,d33,F33⟩:=h33;obtain⟨a34,d34,F34⟩:=h34;obtain⟨a35,d35,F35⟩:=h35;obtain⟨a36,d36,F36⟩:=h36;obtain⟨a37,d37,F37⟩:=h37;obtain⟨a38,d38,F38⟩:=h38;obtain⟨a39,d39,F39⟩:=h39;obtain⟨a40,d40,F40⟩:=h40;obtain⟨a41,d41,F41⟩:=h41;obtain⟨a42,d42,F42⟩:=h42;obtain⟨a43,d43,F43⟩:=h43;obtain⟨a44,d44,F44⟩:=h44;obtain⟨a45,d45,F45⟩:=h45;obtain⟨a46,d46,F46⟩:=h46;obtain⟨a47,d47,F47⟩:=h47;obtain⟨a48,d48,F48⟩:=h48;obtain⟨a49,d49,F49⟩:=h49;obtain⟨a50,d50,F50⟩:=h50;obtain⟨a51,d51,F51⟩:=h51;obtain⟨a52,d52,F52⟩:=h52;obtain⟨a53,d53,F53⟩:=h53;obtain⟨a54,d54,F54⟩:=h54;obtain⟨a55,d55,F55⟩:=h55;obtain⟨a56,d56,F56⟩:=h56;obtain⟨a57,d57,F57⟩:=h57;obtain⟨a58,d58,F58⟩:=h58;obtain⟨a59,d59,F59⟩:=h59;obtain⟨a60,d60,F60⟩:=h60;obtain⟨a61,d61,F61⟩:=h61;obtain⟨a62,d62,F62⟩:=h62;obtain⟨a63,d63,F63⟩:=h63;obtain⟨a64,d64,F64⟩:=h64;obtain⟨_,G0⟩:=hm0;obtain⟨_,G1⟩:=hm1;cases hfa.symm.trans (W.mg_of X G a64);have Wq:=F64;obtain⟨_,_,_,_,_,_,_,_,_,rfl,_⟩:=F64.ex;have g {n:Str}{v:KN} (e:W.nsIn K mainGlobals n=some (some v)):mg n=some v:=W.mg_of X G e;exact⟨_,λs v=>.of_eq rfl,λbase _ _=>Gj (⟨f0,_,f1,_,f2,_,f3,_,f4,_,f5,_,f6,_,f7,_,f8,_,f9,_,f10,_,f11,_,f12,_,f13,_,f14,_,f15,_,f16,_,f17,_,f18,_,f19,_,f20,_,f21,_,f22,_,f23,_,f24,_,f25,_,f26,_,f27,_,f28,_,f29,_,f30,_,f31,_,f32,_,f33,_,f34,_,f35,_,f36,_,f37,_,f38,_,f39,_,f40,_,f41,_,f42,_,f43,_,f44,_,f45,_,f46,_,f47,_,f48,_,f49,_,f50,_,f51,_,f52,_,f53,_,f54,_,f55,_,f56,_,f57,_,f58,_,f59,_,f60,_,f61,_,f62,_,f63,_,fa,_,g0,_,g1,_,fb1 F0 (g a0),fb3 F1 (g a1),fb2 F2 (g a2),fb2 F3 (g a3),fb1 F4 (g a4),fb3 F5 (g a5),fb2 F6 (g a6),fb2 F7 (g a7),fb1 F8 (g a8),fb4 F9 (g a9),fb3 F10 (g a10),fb4 F11 (g a11),fb2 F12 (g a12),fb1 F13 (g a13),fb2 F14 (g a14),fb2 F15 (g a15),fb2 F16 (g a16),fb4 F17 (g a17),fb2 F18 (g a18),fb2 F19 (g a19),fb2 F20 (g a20),fb2 F21 (g a21),fb1 F22 (g a22),fb1 F23 (g a23),fb1 F24 (g a24),fb3 F25 (g a25),fb2 F26 (g a26),fb4 F27 (g a27),fb4 F28 (g a28),fb2 F29 (g a29),fb2 F30 (g a30),fb2 F31 (g a31),fb1 F32 (g a32),fb1 F33 (g a33),fb1 F34 (g a34),fb1 F35 (g a35),fb2 F36 (g a36),fb2 F37 (g a37),fb1 F38 (g a38),fb1 F39 (g a39),fb1 F40 (g a40),fb1 F41 (g a41),fb2 F42 (g a42),fb1 F43 (g a43),fb1 F44 (g a44),fb1 F45 (g a45),fb2 F46 (g a46),fb2 F47 (g a47),fb3 F48 (g a48),fb2 F49 (g a49),fb2 F50 (g a50),fb1 F51 (g a51),fb2 F52 (g a52),fb2 F53 (g a53),fb1 F54 (g a54),fb1 F55 (g a55),fb1 F56 (g a56),fb1 F57 (g a57),fb1 F58 (g a58),fb1 F59 (g a59),fb1 F60 (g a60),fb1 F61 (g a61),fb3 F62 (g a62),fb1 F63 (g a63),fb1 Wq (g a64),⟨G0,fm1 G0 rfl (by intros;exact rfl)⟩,⟨G1,fm2 G1 rfl (by intros;exact rfl)⟩,Ae X G (zz _ (by decide)),Ae X G (zz _ (by decide)),Ae X G (zz _ (by decide)),Ae X G (zz _ (by decide)),Ae X G (zz _ (by decide)),Ae X G (zz _ (by decide)),Ae X G (zz _ (by decide)),Ae X G (zz _ (by decide)),Ae X G (zz _ (by decide)),Ae X G (zz _ (by decide)),Ae X G (zz _ (by decide)),Ae X G (zz _ (by decide)),Ae X G (zz _ (by decide)),Ae X G (zz _ (by decide)),Ae X G (zz _ (by decide)),Ae X G (zz _ (by decide)),Ae X G (zz _ (by decide)),Ae X G (zz _ (by decide)),K_LEFT,g mi_LEFT,K_RIGHT,g mi_RIGHT,K_FIGURES_AT_MOST,g mi_FIGURES_AT_MOST,K_FIGURES,g ms_FIGURES,A_NARROW,g da_NARROW,dt_NARROW,A_WIDE,g da_WIDE,dt_WIDE,A_FORMS,g da_FORMS,dt_FORMS,C_NoBound,g ca_NoBound,C_NoDrawing,g ca_NoDrawing,C_NoEnds,g ca_NoEnds,C_NoText,g ca_NoText,C_NoNumber,g ca_NoNumber,C_CurveError,g ca_CurveError,C_Desk,g ca_Desk,cl_Desk,mk_Desk,na_Desk_answered,me_Desk_say,cx_NoBound,xc_NoBound,cx_NoDrawing,xc_NoDrawing,cx_NoEnds,xc_NoEnds,cx_NoText,xc_NoText,ce_NoBound_CurveError,ce_NoDrawing_CurveError,ce_NoEnds_CurveError,ce_NoText_CurveError,ck_NoBound_NoText,ck_NoBound_NoBound,ck_NoBound_NoEnds,ck_NoBound_NoDrawing,ck_NoBound_NoNumber,ck_NoBound_ValueError,ck_NoDrawing_NoText,ck_NoDrawing_NoBound,ck_NoDrawing_NoEnds,ck_NoDrawing_NoDrawing,ck_NoDrawing_NoNumber,ck_NoDrawing_ValueError,ck_NoEnds_NoText,ck_NoEnds_NoBound,ck_NoEnds_NoEnds,ck_NoEnds_NoDrawing,ck_NoEnds_NoNumber,ck_NoEnds_ValueError,ck_NoText_NoText,ck_NoText_NoBound,ck_NoText_NoEnds,ck_NoText_NoDrawing,ck_NoText_NoNumber,ck_NoText_ValueError⟩:Fns K mg w)⟩
end Mine
theorem PySem.Challenge.cw_floorcurves_k84_desk_refused_holds : PySem.Challenge.rw_floorcurves_k84_desk_refused.Holds :=
  Mine.early @Mine.Gk
